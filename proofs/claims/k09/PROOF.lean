import PyProof.Rows.All
import Wide.All
import OpenK.AllK
import Wide.FinOn
import Lean
import PyProof.EqAt
import PyProof.EqKinds
import PyProof.TupleCall
import PyProof.NeKinds
import PyProof.ZipIter
import KE.KSortTup
import KE.KDictSum
import KE.KSortedM
import KE.KEqDict
import PyProof.DictWalks
import KE.KDictList
import PyProof.Conv_int_bool
import KE.KSortKey
import KE.KLam
import PySem.Challenge.RW_lentgate_k09_strangers_notes_and_the_sie
set_option Elab.async false
set_option linter.all false
set_option maxRecDepth 100000
set_option genInjectivity false
set_option genSizeOfSpec false
set_option genSizeOf false
set_option bootstrap.genMatcherCode false
set_option maxHeartbeats 0
set_option autoImplicit true
abbrev ag:=PySem.W.Frag
local macro_rules | `(tactic| walk_at "w9") => `(tactic| (rw [PySem.W.Fast.te10110043849684766642, PySem.W.Fast.te14364793385576792824]; kernel_rfl))
def ah:=@PySem.wpAny_bind
def bK:=@PySem.Heap.get?_push_of_some
def bg:=@Bool.and_eq_true
def bo:=@List.length_map
def aD:=@PySem.wpAny_pure
def aP:=@List.mem_map
def ae:=@if_neg
def bB:=@List.mem_filter
def aU:=@Nat.le_refl
def bF:=@List.map_cons
def ai:=@if_pos
def dJ:=@PySem.Heap.get?_push_size
def bG:=@List.map_map
def cY:=@List.length_cons
def bJ:=@PySem.Heap.lt_size
def eF:=@List.length_append
def fX:=@List.length_filter_le
def cq:=@Nat.le_trans
def dZ:=@List.mem_append
def d0:=@Option.some.inj
def fG:=@List.mem_singleton
def fx:=@List.size_toArray
def d8:=@decide_eq_true
def fT:=@Nat.lt_of_lt_of_le
def aY:=@Ne.symm
def gJ:=@List.mem_cons_of_mem
def cX:=@Nat.ne_of_lt
def gV:=@List.mem_append_right
def mY:=@PySem.W.Fast.te10295753902157049106
def i8:=@List.mem_of_find?_eq_some
def fF:=@List.map_append
def gK:=@List.forall_mem_nil
def gm:=@List.getElem?_map
def eY:=@List.mem_cons
def gX:=@Bool.false_ne_true
def fq:=@Nat.lt_trans
def il:=@List.find?_eq_none
def iG:=@List.map_congr_left
def gY:=@decide_eq_true_eq
def aW:=@absurd
def gL:=@List.any_eq_true
def gM:=@List.all_eq_true
def ke:=@List.getElem?_eq_some_iff
def iH:=@List.mem_cons_self
def fS:=@List.all_cons
def jr:=@Bool.false_eq_true
def i9:=@PySem.wpAny_newObj_type
def ip:=@List.nodup_cons
def iq:=@decide_eq_false
def kf:=@List.mem_of_getElem?
def ja:=@PySem.wpAny_call_entry
def jo:=@of_decide_eq_true
def i7:=@List.find?_cons
def jR:=@Nat.le_succ_of_le
def jS:=@PySem.wpAny_truthy_bool
def fM:=@beq_iff_eq
def qQ:=@List.getElem?_append_left
def jT:=@Bool.not_eq_true'
def oE:=@Option.map_eq_some_iff
def jU:=@List.nil_append
def jq:=@List.find?_some
def kg:=@Nat.lt_succ_of_lt
def kh:=@List.filter_congr
def kj:=@Option.some.injEq
def oM:=@List.mem_append_left
def mZ:=@Nat.lt_of_le_of_lt
def oO:=@beq_eq_false_iff_ne
def m7:=@PySem.W.emptyDict
def jW:=@List.nodup_nil
def wu:=@PyProof.Rows.callWith_type1
def m8:=@List.filter_cons
def zH:=@PyProof.Rows.slot_tuple_getitem
def qU:=@List.replicate_succ
def oP:=@Option.isSome_map
def qV:=@List.filter_eq_self
def oQ:=@PySem.wpAny_dictEntries
def jX:=@List.any_cons
def m9:=@List.filter_map
def gA:=@LawfulBEq.eq_of_beq
def ir:=@PySem.wpAny_mono
def oS:=@List.lookup_cons
def oT:=@decide_eq_decide
def km:=@Nat.lt_irrefl
def wx:=@List.filter_cons_of_pos
def wy:=@List.filter_cons_of_neg
def kq:=@PySem.wpAny_holding
def ng:=@List.mem_range
def oF:=@PySem.W.instObj
def oG:=@List.append_nil
def sP:=@List.mem_map_of_mem
def qR:=@List.not_mem_nil
def oH:=@PySem.W.mg_of
def sQ:=@List.filter_filter
def oI:=@PySem.wpAny_fieldsOf
def wm:=@List.forall_mem_cons
def zB:=@Option.isSome_iff_exists
def sR:=@List.flatten_cons
def qS:=@PySem.W.kia_one
def oJ:=@List.map_nil
def zC:=@Nat.add_sub_cancel_left
def sS:=@Nat.lt_succ_self
def wo:=@List.mem_filterMap
def oK:=@Nat.le_of_lt
def zD:=@List.length_replicate
def sT:=@List.forIn_cons
def wq:=@Int.toNat_natCast
def wt:=@PySem.W.plainGet
def zE:=@PySem.W.callWith_K
def Ck:=@Option.isSome_some
def zF:=@PySem.W.hasDictIn
def qT:=@Nat.zero_le
def zG:=@List.length_range
noncomputable section
abbrev aJ:=List (PySem.Addr×PySem.Obj)
abbrev aX:=PySem.Value->PySem.Shared->Prop
abbrev bC:=PySem.Str->Option PySem.Value
abbrev az:=List PySem.Value
abbrev aV:=List PySem.Expr
abbrev aE:=List PySem.Str
abbrev cJ:=Option PySem.Value
namespace R
open PySem PySem.W PyProof.Rows
end R
namespace L2
open PySem PySem.Spec PyProof.Rows
abbrev Key:=Sum Int Str
def j8:Key->Value->Bool
 | .inl k,v=>Value.isInt k v
 | .inr x,v=>Value.isStrOf x v
def EA(w:World):Key->Int
 | .inl k=>hashInt k
 | .inr x=>hashStr w x
theorem jf:∀{k:Key} {v:Value},j8 k v=true->(∃i t,k=Sum.inl i/\v=Value.int i t)∨(∃x t,k=Sum.inr x/\v=Value.str x t)
 | .inl i,v,h=>by
  obtain⟨t,e⟩:=Value.isInt_shape (k:=i) (v:=v) h;exact .inl ⟨i,t,rfl,e⟩
 | .inr x,v,h=>by
  obtain⟨t,e⟩:=Value.isStrOf_shape (x:=x) (v:=v) h;exact .inr ⟨x,t,rfl,e⟩
theorem R4(i)(t):j8 (.inl i) (.int i t)=true:=by simp[j8,Value.isInt]
theorem R3(x)(t):j8 (.inr x) (.str x t)=true:=by simp[j8,Value.isStrOf]
theorem WJ(a b):decide ((Sum.inl a:Key)=Sum.inl b)=(a==b):=by
 by_cases e:a=b
 . subst e;simp
 . have h:¬(Sum.inl a:Key)=Sum.inl b:=λq=>e (Sum.inl.inj q)
   rw[iq h];exact(oO.mpr e).symm
theorem WG(a b):decide ((Sum.inr a:Key)=Sum.inr b)=decide (a=b):=by
 by_cases e:a=b
 . subst e;simp
 . have h:¬(Sum.inr a:Key)=Sum.inr b:=λq=>e (Sum.inr.inj q)
   rw[iq h,iq e]
theorem WI(a)(b):decide ((Sum.inl a:Key)=Sum.inr b)=false:=iq (λq=>nomatch q)
theorem WH(a)(b):decide ((Sum.inr a:Key)=Sum.inl b)=false:=iq (λq=>nomatch q)
noncomputable def dv (prog:Program)(w:World):PySem.KeyKind prog w Key where
 is:=j8
 hash:=EA w
 inj:=λv a b ha hb=>by
  rcases jf ha with⟨i,t,rfl,rfl⟩|⟨x,t,rfl,rfl⟩
  . rcases jf hb with⟨j,u,rfl,e⟩|⟨y,u,rfl,e⟩
    . injection e with e1 _;rw[e1]
    . exact nomatch e
  . rcases jf hb with⟨j,u,rfl,e⟩|⟨y,u,rfl,e⟩
    . exact nomatch e
    . injection e with e1 _;rw[e1]
 byValue:=λk v h=>by
  rcases jf h with⟨i,t,rfl,rfl⟩|⟨x,t,rfl,rfl⟩<;>rfl
 pyHash:=λhv h=>by
  rcases jf hv with⟨i,t,rfl,rfl⟩|⟨x,t,rfl,rfl⟩
  . exact wpAny_pyHash_int h
  . exact wpAny_pyHash_str h
 eqBool:=λhu hv h=>by
  rcases jf hu with⟨i,t,rfl,rfl⟩|⟨x,t,rfl,rfl⟩
  . rcases jf hv with⟨j,u,rfl,rfl⟩|⟨y,u,rfl,rfl⟩
    . rw[WJ]at h;exact wpAny_eqBool_int h
    . rw[WI]at h;exact SeqAt.EqAt.int_str i t y u _ _ _ _ h
  . rcases jf hv with⟨j,u,rfl,rfl⟩|⟨y,u,rfl,rfl⟩
    . rw[WH]at h;exact SeqAt.EqAt.str_int x t j u _ _ _ _ h
    . rw[WG]at h;exact wpAny_eqBool_str h
 «strs»:=λk x t v h=>by
  rcases jf h with⟨i,u,rfl,e⟩|⟨y,u,rfl,e⟩
  . exact nomatch e
  . injection e with e1 _
    subst e1;cases v<;>rfl
theorem Qg(prog)(w)(i)(t):(dv prog w).is (.inl i) (.int i t)=true:=R4 i t
theorem Gh(prog)(w)(x)(t):(dv prog w).is (.inr x) (.str x t)=true:=R3 x t
inductive V where
 |aq|bl (b:Bool)|int (i:Int)|str (x:Str)|wL (b:Array UInt8)|pQ (b:UInt64)|ref (a:Addr)|ty (n:String)
 deriving DecidableEq
abbrev LV:=List V
noncomputable def RelV:V->Value->Prop
 | .aq,u=>u=Value.none
 | .bl b,u=>u=Value.bool b
 | .int i,u=>∃t,u=Value.int i t
 | .str x,u=>∃t,u=Value.str x t
 | .wL b,u=>∃t,u=Value.bytes b t
 | .pQ b,u=>∃t,u=Value.float b t
 | .ref a,u=>u=Value.ref a
 | .ty n,u=>u=Value.type n
abbrev Vals:LV->az->Prop:=Paired RelV
theorem Vals.length{us:az}(r:Vals xs us):xs.length=us.length:=Paired.length r
theorem Vals.get:∀{xs:LV} {us:az} {i:Nat} {x:V},Vals xs us->xs[i]? =some x->∃u,us[i]? =some u/\RelV x u
 |_,_,_,_,.nil,e=>by simp at e
 |_,_,0,_,.cons r _,e=>by simp at e;subst e;exact⟨_,rfl,r⟩
 |_,_,i+1,x,.cons _ t,e=>by
  obtain⟨u,a,b⟩:=Vals.get (i:=i) (x:=x) t (by simpa using e)
  exact⟨u,by simpa using a,b⟩
theorem Vals.set{x:V}(r:RelV x u):∀{xs:LV} {us:az} (i:Nat),Vals xs us->Vals (xs.set i x) (us.set i u)
 |_,_,_,.nil=>.nil
 |_,_,0,.cons _ t=>.cons r t
 |_,_,i+1,.cons q t=>.cons q (Vals.set r i t)
theorem Vals.append:∀{xs a:LV} {us ws:az},Vals xs us->Vals a ws->Vals (xs++a) (us++ws)
 |_,_,_,_,.nil,s=>s
 |_,_,_,_,.cons r t,s=>.cons r (Vals.append t s)
theorem Vals.take:∀{xs:LV} {us:az} (n:Nat),Vals xs us->Vals (xs.take n) (us.take n)
 |_,_,0,_=>.nil
 |_,_,_+1,.nil=>.nil
 |_,_,n+1,.cons r t=>.cons r (Vals.take n t)
theorem Vals.drop:∀{xs:LV} {us:az} (n:Nat),Vals xs us->Vals (xs.drop n) (us.drop n)
 |_,_,0,r=>r
 |_,_,_+1,.nil=>.nil
 |_,_,n+1,.cons _ t=>Vals.drop n t
def bS:Option V->cJ->Prop
 |some v,some u=>RelV v u
 |none,none=>True
 |_,_=>False
def KV:List (κ×V)->List (κ×Value)->Prop:=Paired λ(p:κ×V) (q:κ×Value)=>p.1=q.1/\RelV p.2 q.2
def kV:Key->V
 | .inl i=>.int i
 | .inr x=>.str x
abbrev bV:=Option Key
def oV:bV->V
 |none=>.aq
 |some k=>kV k
def BP:Option Key->Value->Bool
 |none,.none=>true
 |none,_=>false
 |some k,v=>j8 k v
def MV(w:World):Option Key->Int
 |none=>0xFCA86420
 |some k=>EA w k
theorem mB:∀{k:Option Key} {v:Value},BP k v=true->(k=none/\v=Value.none)∨∃j,k=some j/\j8 j v=true
 |none,v,h=>by cases v<;>first|exact .inl ⟨rfl,rfl⟩|(simp[BP]at h)
 |some k,v,h=>.inr ⟨k,rfl,h⟩
theorem Gm:j8 k Value.none=false:=by cases k<;>rfl
section
variable {prog:Program}{w:World}{A:Around}{E:aX}{s:Shared}
theorem SF(h:Q 0xFCA86420 { s with toks:=s.toks+1 }):wpAny (model prog w) A (PySem.pyHash .none) Q E s:=by
 have a:s.TypeIs .none "NoneType":=rfl;unfold PySem.pyHash;have b:[Value.none].any Value.onHeap=false:=rfl;refine ah ?_;rw[cRoomFor,ae (by rw[b];exact gX)];refine aD ?_
 refine ah (wpAny_specialOf a F.slot_NoneType_hash.lookup ?_);show wpAny _ _ (if(some (Value.builtin "NoneType.__hash__")==some Value.none)=true then _ else _) Q E s
 rw[ae (by rw[beq_builtin_none];exact gX)]
 refine ah (wpAny_specialOf a F.slot_NoneType_hash.lookup ?_);show wpAny _ _ (callSpecialIfBoundUnlessNone? .none "__hash__" _ >>= _) Q E s;refine ah (wpAny_callSpecialIfBoundUnlessNone?_slot a F.slot_NoneType_hash
  (ja F.slot_NoneType_hash a F.entry_NoneType_hash
   (show wpAny _ _ (do ret (<-mkInt 0xFCA86420)) _ _ s from wpAny_ret_mkInt ?_) (F.args_NoneType_hash_1 _)))
 show wpAny _ _ (if(decide (-(2:Int) ^ 63<=0xFCA86420)&&decide ((0xFCA86420:Int)<2 ^ 63))=true then _ else _) Q E _
 rw[ai (by decide)]
 exact aD h
end
noncomputable def optKind (prog:Program)(w:World):PySem.KeyKind prog w (Option Key) where
 is:=BP
 hash:=MV w
 inj:=λv a b ha hb=>by
  rcases mB ha with⟨rfl,rfl⟩|⟨j,rfl,hj⟩
  . rcases mB hb with⟨rfl,_⟩|⟨i,rfl,hi⟩
    . rfl
    . rw[Gm]at hi;cases hi
  . rcases mB hb with⟨rfl,rfl⟩|⟨i,rfl,hi⟩
    . rw[Gm]at hj;cases hj
    . rw[(dv prog w).inj v j i hj hi]
 byValue:=λk v h=>by
  rcases mB h with⟨rfl,rfl⟩|⟨j,rfl,hj⟩
  . rfl
  . exact(dv prog w).byValue j v hj
 pyHash:=λhv h=>by
  rcases mB hv with⟨rfl,rfl⟩|⟨j,rfl,hj⟩
  . exact SF h
  . exact(dv prog w).pyHash hj h
 eqBool:=λ{A E s a b u v Q} hu hv h=>by
  rcases mB hu with⟨rfl,rfl⟩|⟨i,rfl,hi⟩
  . rcases mB hv with⟨rfl,rfl⟩|⟨j,rfl,hj⟩
    . exact SeqAt.EqAt.same _ _ _ _ _ (by simpa using h)
    . have e:decide ((none:Option Key)=some j)=false:=iq (λq=>nomatch q)
      rw[e]at h;rcases jf hj with⟨k,t,rfl,rfl⟩|⟨x,t,rfl,rfl⟩
      . exact SeqAt.EqAt.none_int k t _ _ _ _ h
      . exact SeqAt.EqAt.none_str x t _ _ _ _ h
  . rcases mB hv with⟨rfl,rfl⟩|⟨j,rfl,hj⟩
    . have e:decide ((some i:Option Key)=none)=false:=iq (λq=>nomatch q)
      rw[e]at h;rcases jf hi with⟨k,t,rfl,rfl⟩|⟨x,t,rfl,rfl⟩
      . exact SeqAt.EqAt.int_none k t _ _ _ _ h
      . exact SeqAt.EqAt.str_none x t _ _ _ _ h
    . have e:decide (some i=some j)=decide (i=j):=by
       by_cases q:i=j
       . subst q;simp
       . rw[iq q,iq λz=>q (d0 z)]
      rw[e]at h;exact(dv prog w).eqBool hi hj h
 «strs»:=λk x t v h=>by
  rcases mB h with⟨rfl,e⟩|⟨j,rfl,hj⟩
  . cases e
  . exact(dv prog w).strs j x t v hj
inductive HO where
 |lst (xs:LV)
 |tup (xs:LV)
 |dK (kvs:List (Key×V))|dT (kvs:List (List bV×V))
 |set (S:Int->Bool) (n:Nat)
 |ins (C dx:Addr) (fs:List (Str×V))
 |own (x:Addr)
 |xd (fs:List (Str×V))
 |met (f x:Addr)
 |zw (lo hi:Int)
 |bj (o:Obj) (u:HO)
 |oC (ps:Array Value)
 |ext (φ:Heap->Prop)
abbrev Hp:=Addr->Option HO
def upd(H:Hp)(a:Addr)(o:HO):Hp:=λb=>if b=a then some o else H b
theorem bO{a:Addr}:upd H a o a=some o:=by unfold upd;rw[ai rfl]
theorem au{a b:Addr}(h:b≠a):upd H a o b=H b:=by unfold upd;rw[ae h]
theorem Iw{a:Addr}:upd (upd H a o) a u=upd H a u:=by
 funext b;unfold upd;split<;>rfl
theorem jL{H:Hp}{a b:Addr}{o u:HO}(h:H a=some o)(h':H b=some u)(d:o≠u):a≠b:=by
 intro e;subst e;rw[h]at h';exact d (d0 h')
theorem fh{H:Hp}{a b:Addr}{o:HO}(h:H a=some o)(h':H b=none):a≠b:=by
 intro e;subst e;rw[h]at h';cases h'
section
variable(P:Program)(w:World)
noncomputable def aG (H:Hp)(h:Heap)(a:Addr):HO->Prop
 | .lst b=>b.length<=sizeLine/\∃(ab:az) (n:Nat),Vals b ab/\h.get? a=some { cls:=.type "list",data:=.seq ab.toArray n }
 | .tup b=>b.length<=sizeLine/\∃ab:az,Vals b ab/\IsTup h a ab.toArray
 | .dK kvs=>kvs.length<=sizeLine/\(a==sysModules)=false/\∃vs,KV kvs vs/\h.DictOf (dv P w) a vs
 | .dT kvs=>kvs.length<=sizeLine/\(a==sysModules)=false/\∃b:List (List bV×Addr×Value),
  Paired (λ(p:List bV×V) (q:List bV×Addr×Value)=>p.1=q.1/\H q.2.1=some (.tup (p.1.map oV))/\RelV p.2 q.2.2) kvs b/\
  ∃o d i,h.get? a=some o/\o.ExactDict/\o.data= .dict d i/\d.toList=b.map (entryOfKey (tupleKind (optKind P w)))/\(b.map (·.1)).Nodup
 | .set S n=>h.SetOf (intKind P w) a S n
 | .ins C dx fs=>H dx=some (.own a)/\fs.length<=1000/\dx≠a/\h.get? a=some (oF C dx)/\
  ∃c,h.Ns1 dx c/\(∀f,bS (fs.lookup f) (c f))/\PySem.Within c (fs.map (·.1))
 | .own _=>∃o,h.get? a=some o
 | .xd fs=>∃c,h.Ns1 a c/\∀f,bS (fs.lookup f) (c f)
 | .zw lo hi=>∃t u v,h.get? a=some { cls:=.type "range",data:=.fields #[.int lo t,.int hi u,.int 1 v] }
 | .bj o u=>h.get? a=some o/\aG H h a u
 | .oC ps=>h.get? a=some { cls:=.none,data:=.fields ps }
 | .met f x=>h.get? a=some (PySem.W.methodObj (.ref f) (.ref x))
 | .ext φ=>φ h/\(∃o,h.get? a=some o)/\∀e g:Heap,φ e->(∀o,e.get? a=some o->g.get? a=some o)->φ g
def c9(H:Hp)(h:Heap):Prop:=∀a o,H a=some o->aG P w H h a o
end
section
variable {P:Program}{w:World}{H H':Hp}{h h':Heap}{a:Addr}{o:HO}
theorem aG.lt(x:aG P w H h a o):a<h.objs.size:=by
 cases o with
 |lst xs=>obtain⟨_,_,_,_,e⟩:=x;exact bJ e
 |tup xs=>obtain⟨_,_,_,p⟩:=x;exact p.lt
 |dK kvs=>obtain⟨_,_,_,_,o,_,_,e,_⟩:=x;exact bJ e
 |dT kvs=>obtain⟨_,_,_,_,o,_,_,e,_⟩:=x;exact bJ e
 |set S n=>obtain⟨o,_,_,_,e,_⟩:=x;exact bJ e
 |ins C dx fs=>obtain⟨_,_,_,e,_⟩:=x;exact bJ e
 |own y=>obtain⟨_,e⟩:=x;exact bJ e
 |xd fs=>obtain⟨_,⟨_,_,_,e,_⟩,_⟩:=x;exact bJ e
 |zw lo hi=>obtain⟨_,_,_,e⟩:=x;exact bJ e
 |bj ob u=>obtain⟨e,_⟩:=x;exact bJ e
 |oC ps=>exact bJ (show h.get? a=some _ from x)
 |met f y=>exact bJ (show h.get? a=some _ from x)
 |ext φ=>obtain⟨_,⟨_,e⟩,_⟩:=x;exact bJ e
theorem Paired.pW{F G:α->β->Prop}:∀{c:List α} {l₂:List β},Paired F c l₂->(∀a b,F a b->G a b)->Paired G c l₂
 |_,_,.nil,_=>.nil
 |_,_,.cons r t,f=>.cons (f _ _ r) (Paired.pW t f)
theorem aG.fj(x:aG P w H h a o)(k:∀b u,(b=a∨H b=some (.own a))->h.get? b=some u->h'.get? b=some u)
 (ho:∀b,H b=some (.own a)->H' b=some (.own a)) (A:∀b j,H b=some (.tup j)->H' b=some (.tup j)):aG P w H' h' a o:=by
 induction o with
 |lst j=>obtain⟨z,ab,n,r,e⟩:=x;exact⟨z,ab,n,r,k _ _ (.inl rfl) e⟩
 |tup j=>obtain⟨z,ab,r,ob,e,c⟩:=x;exact⟨z,ab,r,ob,k _ _ (.inl rfl) e,c⟩
 |dK kvs=>obtain⟨z,y,vs,r,ob,i,g,e,c⟩:=x;exact⟨z,y,vs,r,ob,i,g,k _ _ (.inl rfl) e,c⟩
 |dT kvs=>
  obtain⟨z,y,j,r,ob,i,g,e,c⟩:=x;exact⟨z,y,j,Paired.pW r λp q z=>⟨z.1,A _ _ z.2.1,z.2.2⟩,ob,i,g,k _ _ (.inl rfl) e,c⟩
 |set S n=>obtain⟨ob,i,g,t,e,c⟩:=x;exact⟨ob,i,g,t,k _ _ (.inl rfl) e,c⟩
 |ins C dx fs=>
  obtain⟨d,z,D,e,l,⟨m,i,g,s,c⟩,r⟩:=x;exact⟨ho _ d,z,D,k _ _ (.inl rfl) e,l,⟨m,i,g,k _ _ (.inr d) s,c⟩,r⟩
 |own y=>obtain⟨ob,e⟩:=x;exact⟨ob,k _ _ (.inl rfl) e⟩
 |xd fs=>obtain⟨l,⟨m,i,g,e,c⟩,r⟩:=x;exact⟨l,⟨m,i,g,k _ _ (.inl rfl) e,c⟩,r⟩
 |zw lo hi=>obtain⟨t,u,v,e⟩:=x;exact⟨t,u,v,k _ _ (.inl rfl) e⟩
 |bj ob u ih=>obtain⟨e,q⟩:=x;exact⟨k _ _ (.inl rfl) e,ih q⟩
 |oC ps=>
  have e:h.get? a=some { cls:=.none,data:=.fields ps }:=x;show h'.get? a=some { cls:=.none,data:=.fields ps };exact k a _ (.inl rfl) e
 |met f y=>
  have e:h.get? a=some (PySem.W.methodObj (.ref f) (.ref y)):=x;show h'.get? a=some (PySem.W.methodObj (.ref f) (.ref y));exact k a _ (.inl rfl) e
 |ext φ=>obtain⟨p,⟨o,e⟩,st⟩:=x;exact⟨st _ _ p λo q=>k _ _ (.inl rfl) q,⟨o,k _ _ (.inl rfl) e⟩,st⟩
theorem c9.lt(x:c9 P w H h)(e:H a=some o):a<h.objs.size:=(x a o e).lt
theorem c9.fresh(x:c9 P w H h)(e:h.objs.size<=a):H a=none:=by
 cases q:H a with
 |none=>rfl
 |some u=>exact aW (fT (x.lt q) e) (km _)
theorem c9.kept(x:c9 P w H h)(k:∀b u,h.get? b=some u->h'.get? b=some u):c9 P w H h':=λa o e=>
 (x a o e).fj (λb u _ q=>k b u q) (λ_ q=>q) λ_ _ q=>q
theorem c9.laid(x:c9 P w H h)(k:∀b u,h.get? b=some u->h'.get? b=some u)(g:h.objs.size<=a)(d:aG P w (upd H a o) h' a o):c9 P w (upd H a o) h':=λb u e=>by
 have hn:=x.fresh g
 by_cases f:b=a
 . subst f;rw[bO]at e;cases e;exact d
 . rw[au f]at e
   exact(x b u e).fj (λc v _ q=>k c v q) (λc q=>by rw[au (fh q hn)];exact q) λc i q=>by rw[au (fh q hn)];exact q
end
def Rd(H:Hp)(a:Addr)(u:HO):Prop:=H a=some u∨∃o,H a=some (.bj o u)
theorem Rd.ok{P:Program}{a:Addr}(r:Rd H a u)(x:c9 P w H h):aG P w H h a u:=by
 rcases r with r|⟨o,r⟩
 . exact x a u r
 . obtain⟨_,q⟩:=x a _ r
   exact q
noncomputable def sY:Option HO->Prop
 |some (.lst _)=>True
 |some (.dK _)=>True
 |some (.dT _)=>True
 |some (.set _ _)=>True
 |some (.ins _ _ _)=>True
 |some (.ext _)=>True
 |_=>False
section
variable {P:Program}{w:World}{H:Hp}{h h':Heap}{x e:Addr}{o':HO}
theorem c9.write(A:c9 P w H h)(j:sY (H x))(o:e=x∨H e=some (.own x))(k:∀b u,b≠e->h.get? b=some u->h'.get? b=some u)(m:∃u,h'.get? e=some u)
 (n:aG P w (upd H x o') h' x o'):c9 P w (upd H x o') h':=λb u q=>by
 have d:∀c y,H c=some (.own y)->c≠x:=λc y r z=>by subst z;rw[r]at j;exact j
 have f:∀c l,H c=some (.tup l)->c≠x:=λc l r z=>by subst z;rw[r]at j;exact j
 by_cases g:b=x
 . subst g;rw[bO]at q;cases q;exact n
 . rw[au g]at q
   by_cases a:b=e
   . have s:H b=some (.own x):=by
      rcases o with z|z
      . exact aW (a.trans z) g
      . rw[a];exact z
     rw[q]at s;cases s;obtain⟨v,t⟩:=m;exact⟨v,by rw[a];exact t⟩
   . refine(A b u q).fj (λc v i r=>k c v ?_ r) (λc r=>by rw[au (d c b r)];exact r) λc l r=>by rw[au (f c l r)];exact r
     rcases i with rfl|i
     . exact a
     . rintro rfl
       rcases o with z|z
       . exact d c b i z
       . rw[i]at z;cases z;exact g rfl
end
structure Un(fs ex:List Addr)(H H':Hp)(h h':Heap):Prop where
 keep:∀b o,h.get? b=some o->H b=none->b∉fs->b∉ex->h'.get? b=some o
 slot:∀b o,h.get? b=some o->H b=none->b∈fs->b∉ex->∃sl,h'.get? b=some { o with slots:=sl }
 free:∀b o,h.get? b=some o->H b=none->b∉ex->H' b=none
 there:∀b o,h.get? b=some o->b∉ex->∃o',h'.get? b=some o'
 bq:∀b xs,H b=some (.tup xs)->H' b=some (.tup xs)
 aK:∀b o u,H b=some (.bj o u)->H' b=some (.bj o u)
 fm:∀b ps,H b=some (.oC ps)->∃more,H' b=some (.oC (ps++more))
section
variable {fs fs' ex ex':List Addr}{H H1 H2:Hp}{h h1 h2 h':Heap}{a x e:Addr}{o:HO}
theorem Un.any(u:Un fs ex H H1 h h1){b:Addr}{ob:Obj}(q:h.get? b=some ob)(n:H b=none)(hx:b∉ex):∃sl,h1.get? b=some { ob with slots:=sl }:=by
 by_cases c:b∈fs
 . exact u.slot b ob q n c hx
 . exact⟨ob.slots,u.keep b ob q n c hx⟩
theorem Un.kept(k:∀b u,h.get? b=some u->h'.get? b=some u):Un fs ex H H h h':=
 ⟨λb ob q _ _ _=>k b ob q,λb ob q _ _ _=>⟨ob.slots,k b ob q⟩,λ_ _ _ n _=>n,λb ob q _=>⟨ob,k b ob q⟩,λ_ _ q=>q,λ_ _ _ q=>q,λ_ c q=>⟨#[],by rw[q];simp⟩⟩
theorem Un.refl:Un fs ex H H h h:=Un.kept λ_ _ q=>q
theorem Un.laid(k:∀b u,h.get? b=some u->h'.get? b=some u)(d:h.objs.size<=a)(c:H a=none):Un fs ex H (upd H a o) h h' where
 keep:=λb u q _ _ _=>k b u q
 slot:=λb u q _ _ _=>⟨u.slots,k b u q⟩
 free:=λb u q n _=>by rw[au (cX (fT (bJ q) d))];exact n
 there:=λb u q _=>⟨u,k b u q⟩
 bq:=λb f q=>by rw[au (fh q c)];exact q
 aK:=λb u f q=>by rw[au (fh q c)];exact q
 fm:=λb g q=>⟨#[],by rw[au (fh q c),q];simp⟩
theorem Un.write(d:sY (H x))(j:e=x∨H e=some (.own x))(k:∀b u,b≠e->h.get? b=some u->h'.get? b=some u)(f:∃u,h'.get? e=some u):Un fs ex H (upd H x o) h h':=by
 have hx:∀b,H b=none->b≠x:=λb n z=>by subst z;rw[n]at d;exact d
 have i:∀b,H b=none->b≠e:=λb n z=>by
  subst z;rcases j with r|r
  . exact hx b n r
  . rw[n]at r;cases r
 have g:∀b u,H b=some u->¬sY (some u)->b≠x:=λb u q l z=>by subst z;rw[q]at d;exact l d
 refine⟨λb u q n _ _=>k b u (i b n) q,λb u q n _ _=>⟨u.slots,k b u (i b n) q⟩,λb u q n _=>by rw[au (hx b n)];exact n,λb u q _=>?_,
  λb m q=>by rw[au (g b _ q λz=>z)];exact q,λb u m q=>by rw[au (g b _ q λz=>z)];exact q,λb s q=>⟨#[],by rw[au (g b _ q λz=>z),q];simp⟩⟩
 by_cases c:b=e
 . subst c;exact f
 . exact⟨u,k b u c q⟩
end
def zy(h:Heap)(H:Hp):List Addr:=(List.range h.objs.size).filter λa=>(H a).isSome
def oh(h:Heap)(H:Hp):Heap:=PySem.W.hideAll h (zy h H)
theorem SE(h)(H):(oh h H).objs.size=h.objs.size:=PySem.W.hideAll_size _ _
theorem HE{h:Heap}{b:Addr}(e:h.get? b=some o)(n:H b=none):(oh h H).get? b=some o:=
 PySem.W.hideAll_get _ e λhm=>by
  have q:(H b).isSome=true:=(bB.mp hm).2;rw[n]at q;simp at q
theorem Vi{b:Addr}(e:(oh h H).get? b=some o):h.get? b=some o/\H b=none:=by
 have a:h.get? b=some o:=PySem.W.of_hideAll (zy h H) e;refine⟨a,?_⟩;cases q:H b with
 |none=>rfl
 |some x=>
  have c:b∈zy h H:=bB.mpr ⟨ng.mpr (bJ a),by simp[q]⟩
  have z:(oh h H).get? b=none:=PySem.W.hideAll_none (zy h H) c;rw[z]at e;cases e
def yq(g h:Heap)(L:Addr):aJ:=(List.range h.objs.size).filterMap λa=>if a=L∨(g.get? a).isSome=true then none else(h.get? a).map λo=>(a,o)
theorem Qh{g h:Heap}{L a:Addr}(c:a≠L)(d:g.get? a=none)(b:h.get? a=some o):(a,o)∈yq g h L:=
 wo.mpr ⟨a,ng.mpr (bJ b),by simp[c,d,b]⟩
theorem Pt{g h:Heap}{p:Addr×Obj}(c:p∈yq g h L):p.1≠L/\g.get? p.1=none/\h.get? p.1=some p.2:=by
 obtain⟨b,_,e⟩:=wo.mp c;split at e
 . cases e
 . rename_i a
   cases q:h.get? b with
   |none=>rw[q]at e;simp at e
   |some u=>
    rw[q]at e;simp only[Option.map_some,kj]at e;subst e;refine⟨λz=>a (.inl z),?_,q⟩
    show g.get? b=none;cases r:g.get? b with
    |none=>rfl
    |some v=>exact(a (.inr (by simp[r]))).elim
def rest(g h:Heap)(L d:Addr):aJ:=(yq g h L).filter λp=>decide (p.1≠d)
theorem Hy{g h:Heap}{L d a:Addr}(b:a≠L)(c:g.get? a=none)(e:h.get? a=some o)(f:a≠d):(a,o)∈rest g h L d:=
 bB.mpr ⟨Qh b c e,d8 f⟩
theorem S7{g h:Heap}:News g L h (yq g h L):=λp d=>let⟨a,b,c⟩:=Pt d;⟨c,a,b⟩
theorem FP{g h h':Heap}(k:∀b o,g.get? b=some o->h.get? b=some o)(F:Fr g L h' m)(N:News g L h' (rest g h L d)):
 ∀b o,b≠L->b≠d->h.get? b=some o->h'.get? b=some o:=λb o a c e=>by
 cases q:g.get? b with
 |some u=>
  have:=k b u q;rw[e]at this;cases this;exact F.keep b _ q
 |none=>exact(N (b,o) (Hy a q e c)).1
structure Mod(K:ag)(mg:bC)(base:Heap):Prop where
 mz:K.In base
 glob:base.Ns mainGlobals mg
 blt:∃mb,base.Ns builtinsNs mb/\∀x:Str,x≠"__name__"->mb x=bootBuiltins x
 nolimit:base.NoLimit
structure Cx where
 prog:Program
 w:World
 K:ag
 mg:bC
 base:Heap
 A:Around
 N:aE
 s₀:Shared
 H₀:Hp
 env:Env
 outer:List Env
 stack:List Env
 ex:List Addr
 fn:Str->Bool
 calm:Bool
 pn:aJ
 xe:aX
def iM(l:List Env):List Addr:=l.filterMap (·.frame)
abbrev Cx.fs(X:Cx):List Addr:=iM X.outer
def tj(sc:Scope)(x:Str):Prop:=sc.names.lookup x=some .local∨sc.names.lookup x=some .cell∨sc.names.lookup x=some .free
def Loc(sc:Scope)(x:Str):Prop:=sc.names.lookup x=some .local∨sc.names.lookup x=some .cell
def Look(env:Env)(h:Heap)(m:bC)(x:Str)(u:Value):Prop:=
 (env.kindOf x=some .local/\m x=some u)∨((env.kindOf x=some .cell∨env.kindOf x=some .free)/\∃c,env.cells.lookup x=some c/\h.IsCell c (some u))
structure Cx.Ok(X:Cx):Prop where
 mod:Mod X.K X.mg X.base
 kind:X.env.scope.kind= .function
 glob:X.env.globals=mainGlobals
 blt:X.env.builtins=builtinsNs
 above:X.s₀.heap.objs.size<=X.env.locals
 inj:∀x y c,X.env.cells.lookup x=some c->X.env.cells.lookup y=some c->x=y
 has:∀x,(X.env.kindOf x=some .cell∨X.env.kindOf x=some .free)->∃c,X.env.cells.lookup x=some c
 qY:∀x c,X.fn x=true->X.env.cells.lookup x=some c->X.s₀.heap.objs.size<=c
 hd:X.calm=true->X.A.handled=none
 frames:X.A.frames=some X.stack
 wj:X.stack=X.outer∨(X.stack=X.env::X.outer/\X.env.frame=some X.env.locals)
 tK:∀b∈X.ex,b≠X.env.locals/\∀x c,X.env.cells.lookup x=some c->c≠b
 bs:∀b o,X.base.get? b=some o->X.s₀.heap.get? b=some o/\X.H₀ b=none
 jt:X.base.objs.size<=X.s₀.heap.objs.size
 iQ:∀b o,X.base.get? b=some o->b∉X.ex
 iL:∀b∈X.ex,b∉X.fs
 eJ:X.s₀.heap.FunFrames X.base X.outer
 nz:∀b∈X.fs,X.H₀ b=none
structure Inv(X:Cx)(pins:aJ)(σ:List (Option V))(H:Hp)(s:Shared):Prop where
 ok:X.Ok
 os:s.os=X.s₀.os
 bare:AllBare s.gens
 base:Un X.fs X.ex X.H₀ H X.s₀.heap s.heap
 loc:∃m,s.heap.Ns X.env.locals m/\∀(i:Nat) (x:Str) (v:V),X.N[i]? =some x->σ[i]? =some (some v)->tj X.env.scope x->∃u,RelV v u/\Look X.env s.heap m x u
 cell:∀x c,X.env.cells.lookup x=some c->∃v,s.heap.IsCell c v
 free:H X.env.locals=none
 bT:∀x c,X.env.cells.lookup x=some c->H c=none
 pin:∀p∈X.pn++pins,s.heap.get? p.1=some p.2/\H p.1=none/\p.1≠X.env.locals/\p.1∉X.fs/\∀v,p.2.data≠.cell v
 av:c9 X.prog X.w H s.heap
 len:σ.length=X.N.length
section
variable {X:Cx}{pins:aJ}{σ:List (Option V)}{H H':Hp}{s:Shared}{h':Heap}
theorem Cx.Ok.Ae(ok:X.Ok){b:Addr}(e:X.base.get? b=some o):b∉X.fs:=λhb=>by
 have:=(ok.eJ.mem hb).1;rw[e]at this;cases this
theorem Inv.bs(I:Inv X pins σ H s):∀b o,X.base.get? b=some o->s.heap.get? b=some o/\H b=none:=λb o e=>
 ⟨I.base.keep b o (I.ok.bs b o e).1 (I.ok.bs b o e).2 (I.ok.Ae e) (I.ok.iQ b o e),I.base.free b o (I.ok.bs b o e).1 (I.ok.bs b o e).2 (I.ok.iQ b o e)⟩
theorem Inv.bk(I:Inv X pins σ H s):∀b o,X.base.get? b=some o->s.heap.get? b=some o:=λb o e=>(I.bs b o e).1
theorem Inv.mod(I:Inv X pins σ H s):Mod X.K X.mg X.base:=I.ok.mod
theorem Inv.eL(I:Inv X pins σ H s):X.K.In s.heap:=I.ok.mod.mz.keeps I.bk
theorem Inv.fr(I:Inv X pins σ H s):∃m,Fr X.base X.env.locals s.heap m:=
 let⟨m,hn,_⟩:=I.loc
 ⟨m,hn,I.bk,cq I.ok.jt I.ok.above⟩
theorem Inv.lt(I:Inv X pins σ H s):X.env.locals<s.heap.objs.size:=let⟨_,hn,_⟩:=I.loc;hn.lt
theorem Inv.sz(I:Inv X pins σ H s):X.s₀.heap.objs.size<=s.heap.objs.size:=cq I.ok.above (oK I.lt)
theorem Inv.tX(I:Inv X pins σ H s){a:Addr}(h:s.heap.objs.size<=a):a∉X.fs:=λhb=>by
 obtain⟨_,o,ho,_⟩:=I.ok.eJ.mem hb;exact aW (fT (bJ ho) (cq I.sz h)) (km _)
theorem Inv.o6(I:Inv X pins σ H s):∀x c,X.env.cells.lookup x=some c->c≠X.env.locals:=λx c e z=>by
 obtain⟨v,o,ho,d⟩:=I.cell x c e;obtain⟨m,⟨h,g,f,b,a,_⟩,_⟩:=I.loc;rw[z,b]at ho;cases ho;rw[a]at d;cases d
theorem Inv.eJ(I:Inv X pins σ H s):s.heap.FunFrames X.base X.outer:=by
 have a:∀(l:List Env),(∀b∈iM l,b∈X.fs)->X.s₀.heap.FunFrames X.base l->s.heap.FunFrames X.base l:=by
  intro l
  induction l with
  |nil=>intro _ _;trivial
  |cons env r ih=>
   intro hs i;obtain⟨h,⟨L,o,f,j,ho,g⟩,k⟩:=i;have c:L∈X.fs:=hs L (by unfold iM;rw[List.filterMap_cons,f];exact iH)
   obtain⟨sl,e⟩:=I.base.slot L o ho (I.ok.nz L c) c λz=>I.ok.iL L z c
   exact⟨h,⟨L,_,f,j,e,g⟩,ih (λb d=>hs b (by unfold iM;rw[List.filterMap_cons,f];exact gJ _ d)) k⟩
 exact a X.outer (λ_ d=>d) I.ok.eJ
theorem Inv.stack(I:Inv X pins σ H s):s.heap.FunFrames X.base X.stack:=by
 rcases I.ok.wj with e|⟨e,a⟩
 . rw[e];exact I.eJ
 . rw[e]
   obtain⟨m,b,_⟩:=I.loc;refine .cons (by rw[I.ok.kind];decide) a b ?_ I.eJ
   exact Heap.get?_none_of_le (cq I.ok.jt I.ok.above)
theorem Inv.gj(I:Inv X pins σ H s):∀b∈iM X.stack,b∈X.env.locals::X.fs:=λb a=>by
 rcases I.ok.wj with e|⟨e,c⟩
 . rw[e]at a;exact gJ _ a
 . rw[e]at a
   unfold iM at a;rw[List.filterMap_cons,c]at a;exact a
theorem Inv.gh(I:Inv X pins σ H s):∀b∈iM X.stack,H b=none:=λb a=>by
 rcases eY.mp (I.gj b a)with e|a
 . rw[e];exact I.free
 . obtain⟨_,o,ho,_⟩:=I.ok.eJ.mem a
   exact I.base.free b o ho (I.ok.nz b a) λz=>I.ok.iL b z a
theorem Inv.step{t':Nat}{d':Drawn}{ch:List Addr}(I:Inv X pins σ H s)
 (hch:∀b∈ch,(b∈X.ex∨X.s₀.heap.objs.size<=b)/\b≠X.env.locals/\(∀x c,X.env.cells.lookup x=some c->c≠b)/\∀p∈X.pn++pins,p.1≠b)
 (keep:∀b o,b≠X.env.locals->b∉X.fs->b∉ch->s.heap.get? b=some o->H b=none->h'.get? b=some o)
 (slot:∀b o,b≠X.env.locals->b∈X.fs->b∉ch->s.heap.get? b=some o->H b=none->∃sl,h'.get? b=some { o with slots:=sl }) (free:∀b o,b∉ch->s.heap.get? b=some o->H b=none->H' b=none)
 (there:∀b o,b∉ch->s.heap.get? b=some o->∃o',h'.get? b=some o')
 (bq:∀b xs,H b=some (.tup xs)->H' b=some (.tup xs)) (aK:∀b o u,H b=some (.bj o u)->H' b=some (.bj o u)) (fm:∀b ps,H b=some (.oC ps)->∃more,H' b=some (.oC (ps++more)))
 (ns:∀m,s.heap.Ns X.env.locals m->h'.Ns X.env.locals m) (av:c9 X.prog X.w H' h') (hg:AllBare g'):
 Inv X pins σ H' { s with heap:=h',gens:=g',drawn:=d',toks:=t' }:=by
 have neL:∀b o,X.s₀.heap.get? b=some o->b≠X.env.locals:=λb o e=>cX (fT (bJ e) I.ok.above)
 have neC:∀b o,X.s₀.heap.get? b=some o->b∉X.ex->b∉ch:=λb o e hx hb=>by
  rcases(hch b hb).1 with z|z
  . exact hx z
  . exact aW (fT (bJ e) z) (km _)
 have cellK:∀x c,X.env.cells.lookup x=some c->∀v,s.heap.IsCell c v->h'.IsCell c v:=λx c e v ⟨o,ho,hd⟩=>by
  have nch:c∉ch:=λz=>(hch c z).2.2.1 x c e rfl
  by_cases hc:c∈X.fs
  . obtain⟨sl,q⟩:=slot c o (I.o6 x c e) hc nch ho (I.bT x c e)
    exact⟨_,q,hd⟩
  . exact⟨o,keep c o (I.o6 x c e) hc nch ho (I.bT x c e),hd⟩
 refine⟨I.ok,I.os,hg,⟨λb o e n hb hx=>?_,λb o e n hb hx=>?_,λb o e n hx=>?_,λb o e hx=>?_,λb xs e=>bq b xs (I.base.bq b xs e),λb o xs e=>aK b o xs (I.base.aK b o xs e),λb ps e=>?_⟩,?_,λx c e=>?_,?_,λx c e=>?_,λp hp=>?_,av,I.len⟩
 . exact keep b o (neL b o e) hb (neC b o e hx) (I.base.keep b o e n hb hx) (I.base.free b o e n hx)
 . obtain⟨sl,e1⟩:=I.base.slot b o e n hb hx
   obtain⟨sl',e2⟩:=slot b _ (neL b o e) hb (neC b o e hx) e1 (I.base.free b o e n hx);exact⟨sl',e2⟩
 . obtain⟨o',e1⟩:=I.base.there b o e hx
   exact free b o' (neC b o e hx) e1 (I.base.free b o e n hx)
 . obtain⟨o',e1⟩:=I.base.there b o e hx
   exact there b o' (neC b o e hx) e1
 . obtain⟨m1,e1⟩:=I.base.fm b ps e
   obtain⟨m2,e2⟩:=fm b _ e1;exact⟨m1++m2,by rw[e2,Array.append_assoc]⟩
 . obtain⟨m,hn,hl⟩:=I.loc
   refine⟨m,ns m hn,λi x v e1 e2 e3=>?_⟩
   obtain⟨u,r,l⟩:=hl i x v e1 e2 e3;refine⟨u,r,?_⟩;rcases l with l|⟨k,c,e,z⟩
   . exact .inl l
   . exact .inr ⟨k,c,e,cellK x c e _ z⟩
 . obtain⟨v,z⟩:=I.cell x c e
   exact⟨v,cellK x c e v z⟩
 . obtain⟨m,⟨o,_,_,ho,_⟩,_⟩:=I.loc
   exact free _ o (λz=>(hch _ z).2.1 rfl) ho I.free
 . obtain⟨v,o,ho,hd⟩:=I.cell x c e
   exact free c o (λz=>(hch c z).2.2.1 x c e rfl) ho (I.bT x c e)
 . obtain⟨e,n,ne,nf,d⟩:=I.pin p hp
   have nch:p.1∉ch:=λz=>(hch p.1 z).2.2.2 p hp rfl
   exact⟨keep p.1 p.2 ne nf nch e n,free p.1 p.2 nch e n,ne,nf,d⟩
theorem Inv.un(I:Inv X pins σ H s)(u:Un X.fs [] H H' s.heap h')(g:c9 X.prog X.w H' h'):Inv X pins σ H' { s with heap:=h',toks:=t' }:=by
 obtain⟨m,⟨o,l,k,ho,r⟩,_⟩:=id I.loc;obtain⟨sl,h⟩:=u.any ho I.free (by simp)
 exact I.step (g':=s.gens) (d':=s.drawn) (ch:=[]) (λ_ z=>nomatch z) (λb o _ f _ e n=>u.keep b o e n f (by simp)) (λb o _ f _ e n=>u.slot b o e n f (by simp)) (λb o _ e n=>u.free b o e n (by simp)) (λb o _ e=>u.there b o e (by simp)) u.bq u.aK u.fm (λm' i=>by
  obtain⟨t,d,c,a,j⟩:=i;rw[ho]at a;cases a;exact⟨_,d,c,h,j⟩) g I.bare
theorem Inv.call{ch:List Addr}(I:Inv X pins σ H s)(u:Un (iM X.stack) ch H H' s.heap h')(j:c9 X.prog X.w H' h')(l:AllBare g')
 (d:∀b∈ch,(b∈X.ex∨X.s₀.heap.objs.size<=b)/\b≠X.env.locals/\(∀x c,X.env.cells.lookup x=some c->c≠b)/\∀p∈X.pn++pins,p.1≠b):
 Inv X pins σ H' { s with heap:=h',gens:=g',drawn:=d',toks:=t' }:=by
 obtain⟨m,⟨o,y,w,ho,r⟩,_⟩:=id I.loc;obtain⟨sl,i⟩:=u.any ho I.free λz=>(d _ z).2.1 rfl
 exact I.step (ch:=ch) d (λb o i k a e n=>u.keep b o e n (λz=>(eY.mp (I.gj b z)).elim i k) a) (λb o _ _ a e n=>u.any e n a) (λb o a e n=>u.free b o e n a) (λb o a e=>u.there b o e a) u.bq u.aK u.fm (λm' t=>by
  obtain⟨A,h,g,f,v⟩:=t;rw[ho]at f;cases f;exact⟨_,h,g,i,v⟩) j l
theorem Inv.turned(I:Inv X pins σ H s)(k:∀b o,b≠it->s.heap.get? b=some o->h'.get? b=some o)(w:H it=none)(f:it≠X.env.locals)
 (i:it∈X.ex∨X.s₀.heap.objs.size<=it) (j:∀x c,X.env.cells.lookup x=some c->c≠it) (l:∀p∈X.pn++pins,p.1≠it):Inv X pins σ H { s with heap:=h',toks:=t' }:=by
 have d:∀b u,H b=some u->b≠it:=λb u e z=>by rw[z,w]at e;cases e
 refine I.step (g':=s.gens) (d':=s.drawn) (ch:=[it]) (λb m=>?_) (λb o _ _ a e _=>k b o (λz=>a (by simp[z])) e) (λb o _ _ a e _=>⟨o.slots,k b o (λz=>a (by simp[z])) e⟩) (λ_ _ _ _ n=>n)
  (λb o a e=>⟨o,k b o (λz=>a (by simp[z])) e⟩) (λ_ _ e=>e) (λ_ _ _ e=>e) (λb y e=>⟨#[],by rw[e];simp⟩) (λm t=>?_) (λb u e=>?_) I.bare
 . have e:b=it:=by simpa using m
   subst e;exact⟨i,f,j,l⟩
 . obtain⟨o,h,g,ho,r⟩:=t
   exact⟨o,h,g,k _ o (aY f) ho,r⟩
 . refine(I.av b u e).fj (λc v a q=>k c v ?_ q) (λ_ q=>q) λ_ _ q=>q
   rcases a with z|z
   . rw[z];exact d b u e
   . exact d c _ z
theorem Inv.tok(I:Inv X pins σ H s)(t:Nat):Inv X pins σ H { s with toks:=t }:=I.un (h':=s.heap) (t':=t) Un.refl I.av
theorem Inv.kept(I:Inv X pins σ H s)(k:∀b u,s.heap.get? b=some u->h'.get? b=some u):Inv X pins σ H { s with heap:=h',toks:=t' }:=I.un (Un.kept k) (I.av.kept k)
theorem Inv.laid{a:Addr}(I:Inv X pins σ H s)(k:∀b u,s.heap.get? b=some u->h'.get? b=some u)(c:s.heap.objs.size<=a)(d:aG X.prog X.w (upd H a o) h' a o):
 Inv X pins σ (upd H a o) { s with heap:=h',toks:=t' }:=I.un (Un.laid k c (I.av.fresh c)) (I.av.laid k c d)
theorem Inv.write{x e:Addr}(I:Inv X pins σ H s)(f:sY (H x))(d:e=x∨H e=some (.own x))(k:∀b u,b≠e->s.heap.get? b=some u->h'.get? b=some u)(a:∃u,h'.get? e=some u)
 (c:aG X.prog X.w (upd H x o) h' x o):Inv X pins σ (upd H x o) { s with heap:=h',toks:=t' }:=I.un (Un.write f d k a) (I.av.write f d k a c)
theorem Inv.fw(I:Inv X pins σ H s)(h:∀p∈a,s.heap.get? p.1=some p.2/\H p.1=none/\p.1≠X.env.locals/\p.1∉X.fs/\∀v,p.2.data≠.cell v):Inv X a σ H s:=
 ⟨I.ok,I.os,I.bare,I.base,I.loc,I.cell,I.free,I.bT,λp b=>(dZ.mp b).elim (λz=>I.pin p (oM _ z)) (h p),I.av,I.len⟩
theorem Ia{N:aE}(d:N.Nodup){i j:Nat}{x:Str}(a:N[i]? =some x)(b:N[j]? =some x):i=j:=by
 obtain⟨e,e1⟩:=ke.mp a;obtain⟨f,c⟩:=ke.mp b;exact(List.getElem_inj d).mp (e1.trans c.symm)
theorem GW{i:Nat}{x:Str}{v:V}(I:Inv X pins σ H s)(hN:X.N.Nodup)(hi:X.N[i]? =some x)(hx:Loc X.env.scope x)(r:RelV v u)
 (h:∀s',Inv X pins (σ.set i (some v)) H s'->(∃a,Heap.SameBut a s.heap s'.heap/\(a=X.env.locals∨X.env.cells.lookup x=some a))->Q () s') (hf:X.fn x=true∨X.env.scope.names.lookup x=some .local):wpAny M A (storeName X.env x u) Q E s:=by
 obtain⟨m,hn,hl⟩:=id I.loc;have O:(X.env.scope.kind== .class||(X.env.scope.kind== .module&&X.env.locals != X.env.globals))=false:=by rw[I.ok.kind];rfl
 have w:i<σ.length:=by rw[I.len];exact(ke.mp hi).1
 have o6:=I.o6;have f:∀{a:Addr} {h':Heap},(∃o,s.heap.get? a=some o/\H a=none)->Heap.SameBut a s.heap h'->c9 X.prog X.w H h':=λ{a h'} ha hs b ob e=>by
  obtain⟨_,_,l⟩:=ha;refine(I.av b ob e).fj (λc Z g q=>(hs.2 c ?_).trans q) (λ_ q=>q) λ_ _ q=>q
  rintro rfl;rcases g with rfl|g
  . rw[l]at e;cases e
  . rw[l]at g;cases g
 rcases hx with C|C
 . refine wpAny_storeName_local C hn (λh' hn' hs=>?_) O
   obtain⟨oL,_,_,hoL,_⟩:=id hn;refine h _ ⟨I.ok,I.os,I.bare,⟨λb o e n D hx=>?_,λb o e n D hx=>?_,I.base.free,λb o e hx=>?_,I.base.bq,I.base.aK,I.base.fm⟩,⟨_,hn',λj y v' e1 t e3=>?_⟩,λy c e=>?_,I.free,I.bT,λp hp=>?_,f ⟨oL,hoL,I.free⟩ hs,by simpa using I.len⟩ ⟨_,hs,.inl rfl⟩
   . exact(hs.2 b (cX (fT (bJ e) I.ok.above))).trans (I.base.keep b o e n D hx)
   . obtain⟨sl,e1⟩:=I.base.slot b o e n D hx
     exact⟨sl,(hs.2 b (cX (fT (bJ e) I.ok.above))).trans e1⟩
   . obtain⟨o',e1⟩:=I.base.there b o e hx
     exact⟨o',(hs.2 b (cX (fT (bJ e) I.ok.above))).trans e1⟩
   . by_cases J:j=i
     . subst J
       rw[hi]at e1;cases e1;rw[List.getElem?_set_self w]at t;cases t;exact⟨u,r,.inl ⟨C,by simp⟩⟩
     . rw[List.getElem?_set_ne (aY J)]at t
       obtain⟨u',r',q⟩:=hl j y v' e1 t e3;refine⟨u',r',?_⟩;rcases q with⟨k,e⟩|⟨k,c,e,z⟩
       . refine .inl ⟨k,?_⟩
         have:y≠x:=λe=>J (Ia hN e1 (e ▸ hi))
         simp[this,e]
       . exact .inr ⟨k,c,e,z.sameBut hs (o6 y c e)⟩
   . obtain⟨Z,z⟩:=I.cell y c e
     exact⟨Z,z.sameBut hs (o6 y c e)⟩
   . obtain⟨e,n,Y,nf,d⟩:=I.pin p hp
     exact⟨(hs.2 p.1 Y).trans e,n,Y,nf,d⟩
 . have F:X.fn x=true:=by
    rcases hf with z|z
    . exact z
    . rw[z]at C;cases C
   obtain⟨c,g⟩:=I.ok.has x (.inl C);obtain⟨Z,z⟩:=I.cell x c g;refine wpAny_storeName_cell I.ok.kind C g z (λh' L hs=>?_)
   obtain⟨oc,R,U⟩:=id z;refine h { s with heap:=h' } ⟨I.ok,I.os,I.bare,⟨λb o e n D hx=>?_,λb o e n D hx=>?_,I.base.free,λb o e hx=>?_,I.base.bq,I.base.aK,I.base.fm⟩,⟨m,hn.sameBut hs (aY (o6 x c g)),λj y v' e1 t e3=>?_⟩,λy W e=>?_,I.free,I.bT,λp hp=>?_,f ⟨oc,R,I.bT x c g⟩ hs,by simpa using I.len⟩ ⟨c,hs,.inr g⟩
   . exact(hs.2 b (cX (fT (bJ e) (I.ok.qY x c F g)))).trans (I.base.keep b o e n D hx)
   . obtain⟨sl,e1⟩:=I.base.slot b o e n D hx
     exact⟨sl,(hs.2 b (cX (fT (bJ e) (I.ok.qY x c F g)))).trans e1⟩
   . obtain⟨o',e1⟩:=I.base.there b o e hx
     exact⟨o',(hs.2 b (cX (fT (bJ e) (I.ok.qY x c F g)))).trans e1⟩
   . by_cases J:j=i
     . subst J
       rw[hi]at e1;cases e1;rw[List.getElem?_set_self w]at t;cases t;exact⟨u,r,.inr ⟨.inl C,c,g,L⟩⟩
     . rw[List.getElem?_set_ne (aY J)]at t
       obtain⟨u',r',q⟩:=hl j y v' e1 t e3;refine⟨u',r',?_⟩;rcases q with q|⟨k,W,e,z'⟩
       . exact .inl q
       . refine .inr ⟨k,W,e,z'.sameBut hs ?_⟩
         rintro rfl;exact J (Ia hN e1 (I.ok.inj _ _ _ e g ▸ hi))
   . by_cases N:W=c
     . subst N;exact⟨_,L⟩
     . obtain⟨w2,z2⟩:=I.cell y W e
       exact⟨w2,z2.sameBut hs N⟩
   . obtain⟨e,n,Y,nf,d⟩:=I.pin p hp
     refine⟨(hs.2 p.1 ?_).trans e,n,Y,nf,d⟩;intro q;rw[q,R]at e;have q':oc=p.2:=d0 e;exact d Z (by rw[<-q'];exact U)
theorem yb{i:Nat}{x:Str}{v:V}{Q:Unit->Shared->Prop}(I:Inv X pins σ H s)(hN:X.N.Nodup)(hi:X.N[i]? =some x)(hx:Loc X.env.scope x)(r:RelV v u)
 (h:∀s',Inv X pins (σ.set i (some v)) H s'->Q () s') (hf:X.fn x=true∨X.env.scope.names.lookup x=some .local):wpAny M A (storeName X.env x u) Q E s:=
 GW I hN hi hx r (λs' I' _=>h s' I') hf
theorem Inv.tq{a:Shared}{ch:List Addr}(I:Inv X pins σ H s)(ho:a.os=s.os)(u:Un (iM X.stack) ch H H' s.heap a.heap)(f:c9 X.prog X.w H' a.heap)(g:AllBare a.gens)
 (d:∀b∈ch,(b∈X.ex∨X.s₀.heap.objs.size<=b)/\b≠X.env.locals/\(∀x c,X.env.cells.lookup x=some c->c≠b)/\∀p∈X.pn++pins,p.1≠b):Inv X pins σ H' a:=by
 obtain⟨h',g',d',t',h⟩:=a;have e:h=s.os:=ho;subst e;exact I.call (g':=g') (t':=t') (d':=d') u f g d
end
abbrev XK:=Value->Option Addr->Hp->Prop
abbrev St:=List (Option V)
abbrev VK:=V->Hp->Prop
abbrev TE:=St->Hp->VK->Prop
abbrev TT:=St->Hp->(Bool->Hp->Prop)->Prop
abbrev TA:=St->Hp->(LV->Hp->Prop)->Prop
structure Ends where
 nx:St->Hp->Prop
 rt:VK
 bk:St->Hp->Prop:=λ_ _=>False
 ct:St->Hp->Prop:=λ_ _=>False
abbrev TS:=Ends->St->Hp->Prop
def EP(X:Cx)(a:aJ)(σ:St)(Q:VK)(u:Value)(c:Shared):Prop:=∃v b,Inv X a σ b c/\RelV v u/\Q v b
def TP(X:Cx)(a:aJ)(σ:St)(Q:Bool->Hp->Prop)(b:Bool)(d:Shared):Prop:=∃c,Inv X a σ c d/\Q b c
def AP(X:Cx)(a:aJ)(σ:St)(Q:LV->Hp->Prop)(us:az)(c:Shared):Prop:=∃vs b,Inv X a σ b c/\Vals vs us/\Q vs b
def SP(X:Cx)(b:aJ)(D:Ends)(f:Flow)(d:Shared):Prop:=
 match f with
 | .next=>∃a c,Inv X b a c d/\D.nx a c
 | .brk=>∃a c,Inv X b a c d/\D.bk a c
 | .cont=>∃a c,Inv X b a c d/\D.ct a c
 | .ret u=>∃v a c,Inv X b a c d/\RelV v u/\D.rt v c
def PE(X:Cx)(e:Expr)(t:TE):Prop:=
 ∀a s b H Q,Inv X a b H s->t b H Q->wpAny (model X.prog X.w) X.A (eval e X.env) (EP X a b Q) X.xe s
def PT(X:Cx)(e:Expr)(t:TT):Prop:=
 ∀(a:aJ) (s:Shared) (σ:St) (H:Hp) (Q:Bool->Hp->Prop),Inv X a σ H s->t σ H Q->wpAny (model X.prog X.w) X.A (isTrue e X.env (eval e X.env)) (TP X a σ Q) X.xe s
def PW(X:Cx)(e:Expr)(t:TT):Prop:=
 ∀(a:Sem Value) (pins:aJ) (s:Shared) (σ:St) (H:Hp) (Q:Bool->Hp->Prop),Inv X pins σ H s->t σ H Q->wpAny (model X.prog X.w) X.A (isTrue e X.env a) (TP X pins σ Q) X.xe s
theorem PW.pt{e:Expr}{t:TT}(h:PW X e t):PT X e t:=h _
def PA(X:Cx)(es:aV)(t:TA):Prop:=
 ∀(a:Pos) (pins:aJ) (s:Shared) (σ:St) (H:Hp) (Q:LV->Hp->Prop),Inv X pins σ H s->t σ H Q->wpAny (model X.prog X.w) X.A (spliced (backTo a (starEach es X.env))) (AP X pins σ Q) X.xe s
def PS(X:Cx)(st:Stmt)(t:TS):Prop:=
 ∀a s b H D,Inv X a b H s->t D b H->wpAny (model X.prog X.w) X.A (exec st X.env) (SP X a D) X.xe s
def gB(X:Cx)(st:List Stmt)(t:TS):Prop:=
 ∀a s b H D,Inv X a b H s->t D b H->wpAny (model X.prog X.w) X.A (execs st X.env) (SP X a D) X.xe s
theorem aB{t:Sem α}{s:Shared}(h:wpAny M A t Q E s)(b:∀a s,Q a s->Q' a s):wpAny M A t Q' E s:=ir h b λ_ _ x=>x
section
variable {X:Cx}
def Oc(i:Nat):TE:=λσ H Q=>∃v,σ[i]? =some (some v)/\Q v H
def tC(v:V):TE:=λ_ H Q=>Q v H
theorem WO{i:Nat}{x:Str}(k:X.N[i]? =some x)(w:tj X.env.scope x)(f:(x==("__debug__":Str))=false:=by decide)(d:(x==("__classdict__":Str))=false:=by decide):PE X (.Name x pos) (Oc i):=by
 intro b s y H Q I h;obtain⟨v,e,h⟩:=h;obtain⟨m,t,n⟩:=I.loc;obtain⟨u,r,l⟩:=n i x v k e w;have fin:EP X b y Q u s:=⟨v,H,I,r,h⟩;rcases l with⟨a,o⟩|⟨a,c,j,g⟩
 . exact wpAny_Name (wpAny_loadName_local I.ok.kind a t o fin) f
 . rcases a with a|a
   . exact wpAny_Name (wpAny_loadName_cell I.ok.kind a j g fin) f
   . exact wpAny_Name (wpAny_loadName_free I.ok.kind a j g fin d) f
theorem JH{i j pos}:PE X (.Constant (.int i) j pos) (tC (.int i)):=λ_ _ _ H _ I h=>wpAny_Constant_int ⟨.int i,H,I.tok _,⟨_,rfl⟩,h⟩
theorem YH{b j pos}:PE X (.Constant (.bool b) j pos) (tC (.bl b)):=λ_ _ _ H _ I h=>Constant_bool ⟨.bl b,H,I,rfl,h⟩
theorem WT{j pos}:PE X (.Constant .none j pos) (tC .aq):=λ_ _ _ H _ I h=>Constant_none ⟨.aq,H,I,rfl,h⟩
theorem Bk{x j pos}:PE X (.Constant (.str x) j pos) (tC (.str x)):=λ_ _ _ H _ I h=>Calls.Constant_str ⟨.str x,H,I.tok _,⟨_,rfl⟩,h⟩
def Gl(X:Cx)(x:Str):Prop:=X.env.kindOf x=some .globalImplicit
theorem qj{s:Shared}{x:Str}(I:Inv X pins σ H s)(b:Gl X x)(c:X.mg x=some u)(h:Q u s)
 (a:(x==("__debug__":Str))=false:=by decide):wpAny (model X.prog X.w) X.A (eval (.Name x pos) X.env) Q E s:=
 Calls.Name_function_global I.ok.kind b (Calls.loadGlobal_global (by rw[I.ok.glob];exact I.mod.glob.keeps I.bk) c h) a
theorem nN{s:Shared}{x:Str}(I:Inv X pins σ H s)(d:Gl X x)(e:X.mg x=none)(g:bootBuiltins x=some u)(h:Q u s)
 (f:x≠"__name__":=by decide) (c:(x==("__debug__":Str))=false:=by decide):wpAny (model X.prog X.w) X.A (eval (.Name x pos) X.env) Q E s:=by
 obtain⟨i,a,b⟩:=I.mod.blt;exact Calls.Name_function_global I.ok.kind d (Calls.loadGlobal_builtin (by rw[I.ok.glob];exact I.mod.glob.keeps I.bk) e (by rw[I.ok.blt];exact a.keeps I.bk) ((b x f).trans g) h) c
theorem U9{x:Str}{v:V}(b:Gl X x)(c:X.mg x=some u)(r:RelV v u)(a:(x==("__debug__":Str))=false:=by decide):PE X (.Name x pos) (tC v):=
 λ_ _ _ H _ I h=>qj I b c ⟨v,H,I,r,h⟩ a
theorem Vb{x:Str}{v:V}(b:Gl X x)(c:X.mg x=none)(e:bootBuiltins x=some u)(r:RelV v u)(d:x≠"__name__":=by decide)(a:(x==("__debug__":Str))=false:=by decide):PE X (.Name x pos) (tC v):=
 λ_ _ _ H _ I h=>nN I b c e ⟨v,H,I,r,h⟩ d a
variable {a b:Expr}{ta tb:TE}{pos:Pos}
def PC(X:Cx)(op:CmpOp)(a b:Expr)(t:TE):Prop:=
 ∀c s f H Q,Inv X c f H s->t f H Q->
  wpAny (model X.prog X.w) X.A (eval a X.env) (λv d=>wpAny (model X.prog X.w) X.A (eval b X.env) (λu e=>wpAny (model X.prog X.w) X.A (compareOp op v u) (EP X c f Q) X.xe e) X.xe d) X.xe s
theorem qjW(b:Expr){op:CmpOp}(h:op≠.In)(d:op≠.NotIn):behindInMarks op b=false:=by
 have e1:(op==CmpOp.In)=false:=by cases op<;>first|rfl|exact aW rfl h
 have c:(op==CmpOp.NotIn)=false:=by cases op<;>first|rfl|exact aW rfl d
 cases b<;>simp[behindInMarks,e1,c]
def tB(t:TE):TT:=λσ H Q=>t σ H λx H1=>∃c,x= .bl c/\Q c H1
theorem JI{op:CmpOp}{t:TE}(h:PC X op a b t)(h1:behindInMarks op b=false):PE X (.Compare a [op] [b] pos) t:=λpins s σ H Q I hw=>wpAny_Compare1 (h pins s σ H Q I hw) h1
theorem Ba{op:CmpOp}{t:TE}(h:PC X op a b t)(e:behindInMarks op b=false):PT X (.Compare a [op] [b] pos) (tB t):=by
 intro c s l H Q I i;refine wpAny_isTrue_Compare1 (aB (h c s l H _ I i) λv m e=>aB e λu n g=>aB g λc o k=>?_) e;obtain⟨x,H1,f,r1,j⟩:=k
 obtain⟨d,rfl,q⟩:=j;cases r1;exact jS ⟨H1,f,q⟩
theorem VJ{e:Expr}{t:TE}(h:PE X e t)(i:∀c,isTrue e X.env c=(do let v<-c;standAt e.pos;holding [v] (truthy v)):=by intro _;rfl):PT X e (tB t):=by
 intro f s m H Q I j;refine isTrue_plain (aB (h f s m H _ I j) λv n l=>?_) (i _);obtain⟨x,H1,g,r1,k⟩:=l
 obtain⟨d,rfl,q⟩:=k;cases r1;exact jS ⟨H1,g,q⟩
variable {tA tB':TT}{rest:aV}
def N3(t u:TT):TT:=λσ H Q=>t σ H λc H1=>if c=true then u σ H1 Q else Q false H1
def Z2(t u:TT):TT:=λσ H Q=>t σ H λc H1=>if c=true then Q true H1 else u σ H1 Q
def NW(t:TT):TT:=λσ H Q=>t σ H λc H1=>Q (!c) H1
theorem Ul(f:PT X a tA):PW X (.BoolOp .And [a] pos) tA:=by
 intro j d s g H Q I h;refine isTrue_and (aB (f d s g H Q I h) λc i e=>?_)
 cases c with
 |true=>exact isTrue_and_nil e
 |false=>exact e
theorem VH(f:PT X a tA):PW X (.BoolOp .Or [a] pos) tA:=by
 intro j d s g H Q I h;refine isTrue_or (aB (f d s g H Q I h) λc i e=>?_)
 cases c with
 |false=>exact isTrue_or_nil e
 |true=>exact e
theorem VI(i:PT X a tA)(j:PW X (.BoolOp .And (b::rest) pos) tB'):PW X (.BoolOp .And (a::b::rest) pos) (N3 tA tB'):=by
 intro l d s g H Q I h;refine isTrue_and (aB (i d s g H _ I h) λc k m=>?_);obtain⟨H1,e,f⟩:=m
 cases c with
 |true=>exact j l d k g H1 Q e f
 |false=>exact⟨H1,e,f⟩
theorem Yy(i:PT X a tA)(j:PW X (.BoolOp .Or (b::rest) pos) tB'):PW X (.BoolOp .Or (a::b::rest) pos) (Z2 tA tB'):=by
 intro l d s g H Q I h;refine isTrue_or (aB (i d s g H _ I h) λc k m=>?_);obtain⟨H1,e,f⟩:=m
 cases c with
 |true=>exact⟨H1,e,f⟩
 |false=>exact j l d k g H1 Q e f
theorem VL(e:PT X a tA):PT X (.UnaryOp .Not a pos) (NW tA):=by
 intro d s f H Q I h;exact isTrue_not (e d s f H (λc H1=>Q (!c) H1) I h)
def Yl(ta tb:TE):TE:=λσ H Q=>ta σ H λx H1=>∃c,x= .bl c/\if c=true then tb σ H1 Q else Q (.bl false) H1
def NV(ta tb:TE):TE:=λσ H Q=>ta σ H λx H1=>∃c,x= .bl c/\if c=true then Q (.bl true) H1 else tb σ H1 Q
def X9(ta:TE):TE:=λσ H Q=>ta σ H λx H1=>∃c,x= .bl c/\Q (.bl (!c)) H1
theorem WR{op}{t:TE}(h:PE X a t):PE X (.BoolOp op [a] pos) t:=λpins s σ H Q I hw=>BoolOp_one (h pins s σ H Q I hw)
theorem WV(i:PE X a ta)(j:PE X (.BoolOp .And (b::rest) pos) tb):PE X (.BoolOp .And (a::b::rest) pos) (Yl ta tb):=by
 intro d s g H Q I h;refine BoolOp_and (aB (i d s g H _ I h) λv k l=>?_);obtain⟨x,H1,f,r1,e⟩:=l
 obtain⟨c,rfl,e⟩:=e;cases r1;refine jS ?_;cases c with
 |true=>exact j d k g H1 Q f e
 |false=>exact⟨.bl false,H1,f,rfl,e⟩
theorem YD(i:PE X a ta)(j:PE X (.BoolOp .Or (b::rest) pos) tb):PE X (.BoolOp .Or (a::b::rest) pos) (NV ta tb):=by
 intro d s g H Q I h;refine BoolOp_or (aB (i d s g H _ I h) λv k l=>?_);obtain⟨x,H1,f,r1,e⟩:=l
 obtain⟨c,rfl,e⟩:=e;cases r1;refine jS ?_;cases c with
 |false=>exact j d k g H1 Q f e
 |true=>exact⟨.bl true,H1,f,rfl,e⟩
theorem WS(g:PE X a ta):PE X (.UnaryOp .Not a pos) (X9 ta):=by
 intro d s j H Q I h;refine UnaryOp_ (aB (g d s j H _ I h) λv k i=>?_);obtain⟨x,H1,f,r1,e⟩:=i
 obtain⟨c,rfl,e⟩:=e;cases r1;exact not_of (jS ⟨.bl (!c),H1,f,rfl,e⟩)
def Z1(t:TT)(ta tb:TE):TE:=λσ H Q=>t σ H λc H1=>if c=true then ta σ H1 Q else tb σ H1 Q
theorem TR(m:PT X c tA)(k:PE X a ta)(l:PE X b tb):PE X (.IfExp c a b pos) (Z1 tA ta tb):=by
 intro e s f H Q I h;refine wpAny_IfExp (aB (m e s f H _ I h) λd j n=>?_);obtain⟨H1,g,i⟩:=n
 cases d with
 |true=>exact k e j f H1 Q g i
 |false=>exact l e j f H1 Q g i
end
def dE(K:ag)(H:Hp)(a:Addr)(xs:LV):Prop:=
 Rd H a (.lst xs)∨
  ∃(o:Obj) (ab:Array Value) (n:Nat),K.lookup a=some o/\o.cls= .type "list"/\o.dict=none/\o.data= .seq ab n/\ab.size<=sizeLine/\Vals xs ab.toList
def bZ(K:ag)(H:Hp)(a:Addr)(xs:LV):Prop:=
 Rd H a (.tup xs)∨
  ∃(o:Obj) (ab:Array Value) (n:Nat),K.lookup a=some o/\o.cls= .type "tuple"/\o.data= .seq ab n/\ab.size<=sizeLine/\Vals xs ab.toList
noncomputable def O8:Value->Option V
 | .none=>some .aq
 | .bool b=>some (.bl b)
 | .int i _=>some (.int i)
 | .str x _=>some (.str x)
 | .bytes b _=>some (.wL b)
 | .float b _=>some (.pQ b)
 | .ref a=>some (.ref a)
 | .type n=>some (.ty n)
 |_=>none
theorem RelV.abs{x:V}(r:RelV x u):O8 u=some x:=by
 cases x with
 |aq=>cases r;rfl
 |bl _=>cases r;rfl
 |int _=>obtain⟨t,rfl⟩:=r;rfl
 |str _=>obtain⟨t,rfl⟩:=r;rfl
 |wL _=>obtain⟨t,rfl⟩:=r;rfl
 |pQ _=>obtain⟨t,rfl⟩:=r;rfl
 |ref _=>cases r;rfl
 |ty _=>cases r;rfl
theorem RelV.inj{x y:V}(r:RelV x u)(q:RelV y u):x=y:=d0 (r.abs.symm.trans q.abs)
theorem Vals.inj:∀{xs a:LV} {us:az},Vals xs us->Vals a us->xs=a
 |_,_,_,.nil,.nil=>rfl
 |_,_,_,.cons r t,.cons r' t'=>by rw[r.inj r',Vals.inj t t']
section
variable {X:Cx}{pins:aJ}{σ:St}{H:Hp}{s:Shared}{a:Addr}{xs ys:LV}
theorem dE.of{K:ag}(h:H a=some (.lst xs)):dE K H a xs:=.inl (.inl h)
theorem bZ.of{K:ag}(h:H a=some (.tup xs)):bZ K H a xs:=.inl (.inl h)
theorem Inv.list(I:Inv X pins σ H s)(h:dE X.K H a xs):∃ab:az,Vals xs ab/\PlainL s.heap a ab.toArray/\xs.length<=sizeLine:=by
 rcases h with h|⟨o,ab,n,d,b,c,hs,f,r⟩
 . obtain⟨z,ab,n,r,e⟩:=h.ok I.av
   exact⟨ab,r,⟨_,n,e,rfl,rfl,rfl⟩,z⟩
 . refine⟨ab.toList,r,⟨o,n,I.eL a o d,b,c,by simpa using hs⟩,?_⟩
   have e:=r.length;simp only[Array.length_toList]at e;omega
theorem Inv.tuple(I:Inv X pins σ H s)(h:bZ X.K H a xs):∃ab:az,Vals xs ab/\IsTup s.heap a ab.toArray/\xs.length<=sizeLine:=by
 rcases h with h|⟨o,ab,n,c,b,hs,d,r⟩
 . obtain⟨z,ab,r,p⟩:=h.ok I.av
   exact⟨ab,r,p,z⟩
 . refine⟨ab.toList,r,⟨o,I.eL a o c,b,n,by simpa using hs⟩,?_⟩
   have e:=r.length;simp only[Array.length_toList]at e;omega
theorem Inv.jx(I:Inv X pins σ H s)(h:dE X.K H a xs)(h':dE X.K H a ys):xs=ys:=by
 obtain⟨ab,r,⟨o,n,e,_,_,d⟩,_⟩:=I.list h;obtain⟨b,g,⟨j,i,f,_,_,c⟩,_⟩:=I.list h';rw[e]at f;cases f;rw[d]at c;injection c with d1 _
 have:ab=b:=by simpa using congrArg Array.toList d1
 subst this;exact r.inj g
theorem Inv.i6(I:Inv X pins σ H s)(h:bZ X.K H a xs)(h':bZ X.K H a ys):xs=ys:=by
 obtain⟨ab,r,⟨o,e,_,n,d⟩,_⟩:=I.tuple h;obtain⟨b,g,⟨j,f,_,i,c⟩,_⟩:=I.tuple h';rw[e]at f;cases f;rw[d]at c;injection c with d1 _
 have:ab=b:=by simpa using congrArg Array.toList d1
 subst this;exact r.inj g
end
noncomputable abbrev Cx.wish(X:Cx)(E:aX):Cx:={ X with xe:=E }
noncomputable abbrev Cx.rg(X:Cx):Cx:=X.wish λ_ _=>False
theorem Cx.Ok.wish{X:Cx}(a:X.Ok)(E):(X.wish E).Ok:=
 ⟨a.mod,a.kind,a.glob,a.blt,a.above,a.inj,a.has,a.qY,a.hd,a.frames,a.wj,a.tK,a.bs,a.jt,a.iQ,a.iL,a.eJ,a.nz⟩
theorem Cx.Ok.cD{X:Cx}(a:(X.wish E).Ok):X.Ok:=
 ⟨a.mod,a.kind,a.glob,a.blt,a.above,a.inj,a.has,a.qY,a.hd,a.frames,a.wj,a.tK,a.bs,a.jt,a.iQ,a.iL,a.eJ,a.nz⟩
section
variable {X:Cx}{pins:aJ}{σ:St}{H:Hp}{s:Shared}{E:aX}
theorem Inv.wish(I:Inv X pins σ H s)(E):Inv (X.wish E) pins σ H s:=⟨I.ok.wish E,I.os,I.bare,I.base,I.loc,I.cell,I.free,I.bT,I.pin,I.av,I.len⟩
theorem Inv.cD(I:Inv (X.wish E) pins σ H s):Inv X pins σ H s:=⟨I.ok.cD,I.os,I.bare,I.base,I.loc,I.cell,I.free,I.bT,I.pin,I.av,I.len⟩
theorem SP.cD(h:SP (X.wish E) pins D f s'):SP X pins D f s':=by
 cases f with
 |next=>obtain⟨a,b,I,q⟩:=h;exact⟨a,b,I.cD,q⟩
 |brk=>obtain⟨a,b,I,q⟩:=h;exact⟨a,b,I.cD,q⟩
 |cont=>obtain⟨a,b,I,q⟩:=h;exact⟨a,b,I.cD,q⟩
 |ret u=>obtain⟨v,a,b,I,r,q⟩:=h;exact⟨v,a,b,I.cD,r,q⟩
theorem gB.rg{st:List Stmt}{t:TS}(h:gB X.rg st t):gB X st t:=λpins s σ H D I a=>
 ir (h pins s σ H D (I.wish _) a) (λ_ _ q=>q.cD) λ_ _ z=>False.elim z
end
section
variable {X:Cx}{st:Stmt}{rest:List Stmt}{t u:TS}{e:Expr}{te:TE}{pos:Pos}
def Yb:TS:=λD a H=>D.nx a H
def Oe(t u:TS):TS:=λD a H=>t { D with nx:=u D } a H
theorem Um:gB X [] Yb:=λ_ _ a H _ I h=>wpAny_execs_nil ⟨a,H,I,h⟩
theorem TJ(g:PS X st t)(i:gB X rest u):gB X (st::rest) (Oe t u):=by
 intro a s k H D I h;refine wpAny_execs_cons (aB (g a s k H { D with nx:=u D } I h) λf j q=>?_)
 cases f with
 |next=>
  obtain⟨b,c,d,q⟩:=q;exact i a j b c D d q
 |ret v=>exact q
 |brk=>exact q
 |cont=>exact q
theorem Inv.quiet{s:Shared}(I:Inv X pins σ H s):interactive X.env=false:=by simp[interactive,I.ok.kind]
def Yg(te:TE):TS:=λD a H=>te a H λ_ H1=>D.nx a H1
theorem Up(c:PE X e te)(hs:swapsWith e none pos.line X.env=pure false:=by rfl):PS X (.Expr e pos) (Yg te):=by
 intro a s b H D I h;exact wpAny_Expr_any (aB (c a s b H _ I h) λv d ⟨x,H1,I1,r1,q1⟩=>⟨b,H1,I1,q1⟩) I.quiet hs
def NT(te:TE):TS:=λD a H=>te a H D.rt
theorem VN(c:PE X e te):PS X (.Return (some e) pos) (NT te):=by
 intro a s b H D I h;exact wpAny_Return_some (aB (c a s b H _ I h) λv d ⟨x,H1,I1,r1,q1⟩=>⟨x,b,H1,I1,r1,q1⟩)
def X7:TS:=λD _ H=>D.rt .aq H
theorem Uo:PS X (.Return none pos) X7:=λ_ _ a H _ I h=>wpAny_Return_none ⟨.aq,a,H,I,rfl,h⟩
def NY(c:TT)(t u:TS):TS:=λD a H=>c a H λb H1=>if b=true then t D a H1 else u D a H1
theorem YA{a b:List Stmt}(n:PT X c tc)(l:gB X a t)(m:gB X b u):PS X (.If c a b pos) (NY tc t u):=by
 intro f s g H D I h;refine wpAny_If (aB (n f s g H _ I h) λd k o=>?_);obtain⟨H1,i,j⟩:=o
 cases d with
 |true=>exact l f k g H1 D i j
 |false=>exact m f k g H1 D i j
end
abbrev TG:=V->St->Hp->(St->Hp->Prop)->Prop
abbrev nq:=LV->St->Hp->(St->Hp->Prop)->Prop
def PG(X:Cx)(a:Expr)(t:TG):Prop:=
 ∀(b:aJ) (s:Shared) (σ:St) (H:Hp) (v:V) (u:Value) (Q:St->Hp->Prop),Inv X b σ H s->RelV v u->t v σ H Q->
  wpAny (model X.prog X.w) X.A (assign a X.env u) (λ_ e=>∃c d,Inv X b c d e/\Q c d) X.xe s
def oU(X:Cx)(e:aV)(t:nq):Prop:=
 ∀(a:aJ) (s:Shared) (σ:St) (H:Hp) (vs:LV) (us:az) (Q:St->Hp->Prop),Inv X a σ H s->Vals vs us->t vs σ H Q->
  wpAny (model X.prog X.w) X.A (assignInOrder ((assignEach e X.env).map (·.2)) us) (λ_ d=>∃b c,Inv X a b c d/\Q b c) X.xe s
abbrev yW:=V->V->V->Hp->(Hp->Prop)->Prop
def yX(X:Cx)(t:yW):Prop:=
 ∀(a:aJ) (s:Shared) (σ:St) (H:Hp) (o i v:V) (ov iv u:Value) (Q:Hp->Prop),Inv X a σ H s->RelV o ov->RelV i iv->RelV v u->t o i v H Q->
  wpAny (model X.prog X.w) X.A (setItem ov iv u) (λ_ c=>∃b,Inv X a σ b c/\Q b) X.xe s
section
variable {X:Cx}{pos:Pos}
def BJ(i:Nat):TG:=λv a H Q=>Q (a.set i (some v)) H
theorem yr{i:Nat}{x:Str}(c:X.N.Nodup)(hi:X.N[i]? =some x)(hx:Loc X.env.scope x)(d:X.fn x=true∨X.env.scope.names.lookup x=some .local):PG X (.Name x pos) (BJ i):=by
 intro a s e H v u Q I r h;exact wpAny_assign_Name (yb I c hi hx r (λs' b=>⟨_,H,b,h⟩) d)
def EC:nq:=λvs a H Q=>vs= []/\Q a H
def KU(t:TG)(u:nq):nq:=λvs σ H Q=>∃v r,vs=v::r/\t v σ H λσ' H'=>u r σ' H' Q
theorem IM:oU X [] EC:=by
 intro a s b H vs us Q I r h;obtain⟨e,h⟩:=h;subst e;cases r;exact assignInOrder_nil ⟨b,H,I,h⟩
theorem HV{e:Expr}{t:TG}(d:PG X e t)(f:oU X es u)
 (hs:(assignEach (e::es) X.env).map (·.2)=assign e X.env::(assignEach es X.env).map (·.2):=by rfl):oU X (e::es) (KU t u):=by
 intro a s k H vs us Q I r h;obtain⟨v,l,e1,h⟩:=h;subst e1;cases r with
 |cons r rr=>
  rw[hs];refine assignInOrder_cons (aB (d a s k H _ _ _ I r h) λ_ i j=>?_);obtain⟨b,H1,c,g⟩:=j
  exact f a i b H1 _ _ Q c rr g
def EB(K:ag)(n:Nat)(t:nq):TG:=λv c H Q=>∃a b,v= .ref a/\bZ K H a b/\b.length=n/\t b c H Q
theorem JF{t:nq}{n:Nat}(hc:X.calm=true)(h:oU X es t)
 (hn:(assignEach es X.env).length=n:=by rfl) (hst:(assignEach es X.env).findIdx? (·.1)=none:=by rfl):PG X (.Tuple es k pos) (EB X.K n t):=by
 intro pins s σ H v u Q I r hw;obtain⟨a,xs,e1,hq,hl,hw⟩:=hw;subst e1;cases r;obtain⟨ab,rv,ht,hz⟩:=I.tuple hq;refine assign_Tuple_tuple (I.ok.hd hc) ht (by simp[hn,<-hl,rv.length]) hst λh' hx=>?_
 have I1:Inv X pins σ H { s with heap:=h' }:=I.kept (t':=s.toks) λb o e=>hx b o (cX (bJ e)) e
 exact h pins _ σ H xs _ Q I1 (by simpa using rv) hw
def Ov(to ti:TE)(t:yW):TG:=λv σ H Q=>to σ H λo H1=>ti σ H1 λi H2=>t o i v H2 λH3=>Q σ H3
theorem WN{o i:Expr}{t:yW}(ho:PE X o to)(hi:PE X i ti)(hs:yX X t)
 (ha:∀v,assign (.Subscript o i pos) X.env v=(do
  let ov<-holding [v] (eval o X.env)
  let iv<-holding [v,ov] (eval i X.env)
  standAt pos
  holding [v,ov,iv] (setItem ov iv v)
  release [v,ov,iv] []):=by intro _;rfl):PG X (.Subscript o i pos) (Ov to ti t):=by
 intro pins s σ H v u Q I r h;rw[ha];refine ah (kq (aB (ho pins s σ H _ I h) λov s1 zz=>?_));obtain⟨x,H1,I1,r1,q1⟩:=zz
 refine ah (kq (aB (hi pins s1 σ H1 _ I1 q1) λiv s2 zz=>?_));obtain⟨y,H2,I2,r2,q2⟩:=zz
 refine ah (wpAny_standAt (ah (kq (aB (hs pins s2 σ H2 x y v ov iv u _ I2 r1 r2 r q2) λ_ s3 zz=>?_))));obtain⟨H3,I3,q3⟩:=zz
 exact wpAny_release ⟨σ,H3,I3,q3⟩
def EV(b:TE)(g:TG):TS:=λD a H=>b a H λx H1=>g x a H1 D.nx
theorem WL{b e:Expr}{g:TG}(i:PE X e te)(j:PG X b g)(hs:swapsWithSole [b] e pos.line X.env=pure false:=by rfl)(k:swappedStores [b] e X.env=pure none:=by rfl)
 (f:(assignEach [b] X.env).map (·.2)= [assign b X.env]:=by rfl):PS X (.Assign [b] e pos) (EV te g):=by
 intro a s c H D I h;refine wpAny_Assign_stores (aB (i a s c H _ I h) λv m n=>?_) hs k;obtain⟨x,H1,d,r1,l⟩:=n
 rw[f];exact aB (j a m c H1 x v _ d r1 l) λ_ o q=>q
theorem VM{i:Nat}{x:Str}{e:Expr}(d:X.N.Nodup)(hi:X.N[i]? =some x)(hx:Loc X.env.scope x)(f:PE X e te)(hs:swapsWith e (some (.Name x pos')) pos.line X.env=pure false:=by rfl)(g:X.fn x=true∨X.env.scope.names.lookup x=some .local):
 PS X (.Assign [.Name x pos'] e pos) (EV te (BJ i)):=by
 intro a s l H D I h;refine wpAny_Assign_Name (aB (f a s l H _ I h) λv m k=>?_) hs;obtain⟨y,H1,b,r1,j⟩:=k
 exact yb b d hi hx r1 (λs2 c=>⟨_,H1,c,j⟩) g
def NU(i j:Nat)(ta:TA):TS:=λD a H=>ta a H λvs H1=>∃v w,vs= [v,w]/\D.nx ((a.set i (some v)).set j (some w)) H1
theorem VO{i j:Nat}{x y:Str}{a b:Expr}{ta:TA}{k l pt:Pos}{kt k2 pt2}(L:X.calm=true)(t:X.N.Nodup)(hi:X.N[i]? =some x)(M:X.N[j]? =some y)(f:i≠j)
 (hx:X.env.scope.names.lookup x=some .local) (u:X.env.scope.names.lookup y=some .local) (J:PA X [a,b] ta)
 (N:swappedStores [.Tuple [.Name x k,.Name y l] kt pt] (.Tuple [a,b] k2 pt2) X.env=pure (some [x,y]))
 (hs:swapsWithSole [.Tuple [.Name x k,.Name y l] kt pt] (.Tuple [a,b] k2 pt2) pos.line X.env=pure false:=by rfl):
 PS X (.Assign [.Tuple [.Name x k,.Name y l] kt pt] (.Tuple [a,b] k2 pt2) pos) (NU i j ta):=by
 intro c s z H D I h;rw[exec_Assign_arm];refine ah (wpAny_standAt ?_);rw[hs];refine ah (aD ?_);rw[ae (by decide)]
 refine ah (Tuple_ (aB (J _ c s z H _ I h) λus d O=>?_));obtain⟨vs,H1,A,r1,m⟩:=O
 obtain⟨v,w,e1,m⟩:=m;subst e1;obtain⟨u1,u2,rfl,rv,n⟩:∃u1 u2,us= [u1,u2]/\RelV v u1/\RelV w u2:=by
  cases r1 with
  |cons p q=>
   cases q with
   |cons p' q'=>
    cases q';exact⟨_,_,rfl,p,p'⟩
 refine i9 ?_ (by show 2<=sizeLine;decide)
 have C:Inv X c z H1 { d with heap:=d.heap.push { cls:=.type "tuple",data:=.seq [u1,u2].toArray } }:=A.kept (t':=d.toks) λb o e=>bK _ e
 rw[N];refine ah (aD ?_);show wpAny (model X.prog X.w) X.A (do rule "assign.swapped-stores";let items<-unpackItems (.ref d.heap.objs.size) 2 none;assignInOrder [λv=>bindName X.env y v,λv=>bindName X.env x v] items.reverse;pure Flow.next) _ _ _
 refine ah (wpAny_rule (ah (unpackItems_tuple (items:=#[u1,u2]) (I.ok.hd L) (IsTup.new d.heap _) λh' g=>?_)))
 have E:=C.kept (h':=h') (t':=d.toks) λb o e=>g b o (cX (bJ e)) e
 show wpAny _ _ (assignInOrder [λv=>bindName X.env y v,λv=>bindName X.env x v] [u2,u1] >>= λ_=>pure Flow.next) _ _ _
 refine ah (assignInOrder_cons (wpAny_bindName (yb E t M (.inl u) n (λs2 F=>?_) (.inr u))))
 refine assignInOrder_cons (wpAny_bindName (yb F t hi (.inl hx) rv (λs3 r=>assignInOrder_nil (aD ?_)) (.inr hx)))
 rw[List.set_comm _ _ (aY f)]at r;exact⟨_,H1,r,m⟩
end
structure It where
 go:Nat->Hp->Prop
 Cn:Nat->Hp->V->Hp->Prop
 stop:Nat->Hp->Prop
def mX(X:Cx)(a:aJ)(H:Hp)(b:Addr):Prop:=
 H b=none/\b≠X.env.locals/\b∉X.fs/\(b∈X.ex∨X.s₀.heap.objs.size<=b)/\(∀x c,X.env.cells.lookup x=some c->c≠b)/\∀p∈X.pn++a,p.1≠b
theorem Inv.fZ{s:Shared}{b:Addr}(I:Inv X pins σ H s)(a:s.heap.objs.size<=b)(d:H' b=none):mX X pins H' b:=by
 refine⟨d,Nat.ne_of_gt (fT I.lt a),I.tX a,.inr (cq I.sz a),λx c e z=>?_,λp f z=>?_⟩
 . obtain⟨v,q⟩:=I.cell x c e
   exact aW (fT q.lt (by rw[z];exact a)) (km _)
 . exact aW (fT (bJ (I.pin p f).1) (by rw[z];exact a)) (km _)
structure Turn(P:Program)(w:World)(K:ag)(tg:Expr)(J:It)(fp:List Addr)(it:Addr)(tn:Nat->Heap->Prop):Prop where
 mem:it∈fp
 obj:∀i h,tn i h->∀b∈fp,∃o,h.get? b=some o/\∀v,o.data≠.cell v
 keep:∀i h h',tn i h->(∀b∈fp,∀o,h.get? b=some o->h'.get? b=some o)->tn i h'
 item:∀(X:Cx),X.prog=P->X.w=w->X.K=K->X.calm=true->∀(i:Nat) (pins:aJ) (s:Shared) (σ:St) (H:Hp) (E:aX),Inv X pins σ H s->(∀b∈fp,mX X pins H b)->tn i s.heap->J.go i H->
  wpAny (model P w) X.A (pyNext (.ref it)) (λr s1=>∃u,r=some u/\
   wpAny (model P w) X.A (letOwnedTupleGo tg (.ref it) u) (λ_ s2=>∃x H',Inv X pins σ H' s2/\RelV x u/\J.Cn i H x H'/\tn (i+1) s2.heap/\∀b∈fp,H' b=none) E s1) E s
 done:∀(X:Cx),X.prog=P->X.w=w->X.K=K->X.calm=true->∀(i:Nat) (pins:aJ) (s:Shared) (σ:St) (H:Hp) (E:aX),Inv X pins σ H s->(∀b∈fp,mX X pins H b)->tn i s.heap->J.stop i H->
  wpAny (model P w) X.A (pyNext (.ref it)) (λr s1=>r=none/\Inv X pins σ H s1) E s
 self:∀(A:Around) (i:Nat) (s:Shared) (Q:aX) (E:aX),tn i s.heap->Q (.ref it) s->wpAny (model P w) A (pyIter (.ref it)) Q E s
abbrev TI:=St->Hp->(It->Hp->Prop)->Prop
def Cp(X:Cx)(a:aJ)(σ:St)(g:Expr)(R:It->Hp->Prop)(c:Value)(f:Shared):Prop:=
 ∃(e:Addr) (d:List Addr) (tn:Nat->Heap->Prop) (J:It) (H':Hp),c= .ref e/\Inv X a σ H' f/\Turn X.prog X.w X.K g J d e tn/\tn 0 f.heap/\(∀b∈d,mX X a H' b)/\R J H'
def PI(X:Cx)(d b:Expr)(e:TI):Prop:=
 ∀(a:aJ) (s:Shared) (σ:St) (H:Hp) (R:It->Hp->Prop),Inv X a σ H s->e σ H R->
  wpAny (model X.prog X.w) X.A (eval b X.env) (λv c=>wpAny (model X.prog X.w) X.A (pyIter v) (Cp X a σ d R) X.xe c) X.xe s
theorem rZ{s:Shared}{n:String}{vs:Array Value}(ho:s.heap.get? it=some o)(b:o.cls= .type n)(c:o.data= .fields vs)
 (d:["enumerate","zip","dict_itemiterator","dict_reverseitemiterator","odict_iterator","itertools.zip_longest","itertools.pairwise"].contains n=false) (a:Q () s):wpAny M A (letOwnedTupleGo tg (.ref it) u) Q E s:=by
 unfold letOwnedTupleGo;cases tg<;>first
  |exact aD a
  |(cases u<;>first
   |exact aD a
   |(refine ah (wpAny_load ho ?_)
     rw[b,c];show wpAny M A (if(["enumerate","zip","dict_itemiterator","dict_reverseitemiterator","odict_iterator","itertools.zip_longest","itertools.pairwise"].contains n&&vs[0]? ==some (rawInt _))=true then _ else _) Q E s
     rw[ae (by intro h;rw[d,Bool.false_and]at h;cases h)]
     exact aD a))
noncomputable def wB (K:ag)(a:Addr):It:=
 ⟨λi H=>∃b x,dE K H a b/\b[i]? =some x,λi H x c=>c=H/\∀b,dE K H a b->b[i]? =some x,λi H=>∃b,dE K H a b/\b.length<=i⟩
noncomputable def Co (K:ag)(a:Addr):It:=
 ⟨λi H=>∃b x,bZ K H a b/\b[i]? =some x,λi H x c=>c=H/\∀b,bZ K H a b->b[i]? =some x,λi H=>∃b,bZ K H a b/\b.length<=i⟩
def wC(b:Int)(n:Nat):It:=⟨λi _=>i<n,λi H x a=>a=H/\x= .int (b+i),λi _=>n<=i⟩
theorem RT{P:Program}{K:ag}(a it:Addr):Turn P w K tg (wB K a) [it] it (λi h=>h.IsListIter it a i) where
 mem:=by simp
 obj:=λi h st b hb=>by
  have e:b=it:=by simpa using hb
  subst e;obtain⟨o,e,c,d⟩:=st;exact⟨o,e,λv z=>by rw[d]at z;cases z⟩
 keep:=λi h h' st k=>st.at λo e=>k it (by simp) o e
 item:=by
  intro X hP hw hK hc i pins s σ H E I hf st hg;subst hP hw hK;obtain⟨xs,x,hq,hx⟩:=hg;obtain⟨ab,rv,p,hz⟩:=I.list hq;obtain⟨u,hu,ru⟩:=rv.get hx;obtain⟨f0,f1,f2,f3,f4,f5⟩:=hf it (by simp)
  refine wpAny_pyNext_list_item st p.isList (x:=u) (by simpa using hu) λh' st' sb=>?_
  have I1:Inv X pins σ H { s with heap:=h' }:=I.turned (t':=s.toks) (λb o hb e=>(sb.2 b hb).trans e) f0 f1 f3 f4 f5
  obtain⟨o,e,c,d⟩:=id st';exact⟨u,rfl,rZ (s:={ s with heap:=h' }) e c d (by decide) ⟨x,H,I1,ru,⟨rfl,λys hy=>by rw[I.jx hy hq];exact hx⟩,st',λb hb=>(hf b hb).1⟩⟩
 done:=by
  intro X hP hw hK hc i pins s σ H E I hf st hg;subst hP hw hK;obtain⟨xs,hq,hx⟩:=hg;obtain⟨ab,rv,p,hz⟩:=I.list hq;obtain⟨f0,f1,f2,f3,f4,f5⟩:=hf it (by simp)
  have hl:=rv.length;exact wpAny_pyNext_list_end (I.ok.hd hc) st p.isList (by simp;omega) λh' eb=>⟨rfl,I.turned (t':=s.toks) (λb o hb e=>eb b o hb e) f0 f1 f3 f4 f5⟩
 self:=λ_ _ _ _ _ st h=>wpAny_pyIter_listiter st h
theorem Q8{P:Program}{K:ag}(a it:Addr):Turn P w K tg (Co K a) [it] it (λi h=>h.IsTupleIter it a i) where
 mem:=by simp
 obj:=λi h st b hb=>by
  have e:b=it:=by simpa using hb
  subst e;obtain⟨o,e,c,d⟩:=st;exact⟨o,e,λv z=>by rw[d]at z;cases z⟩
 keep:=λi h h' st k=>st.at λo e=>k it (by simp) o e
 item:=by
  intro X hP hw hK hc i pins s σ H E I hf st hg;subst hP hw hK;obtain⟨xs,x,hq,hx⟩:=hg;obtain⟨ab,rv,p,hz⟩:=I.tuple hq;obtain⟨u,hu,ru⟩:=rv.get hx;obtain⟨f0,f1,f2,f3,f4,f5⟩:=hf it (by simp)
  refine wpAny_pyNext_tuple_item st (show s.heap.IsTuple a ab.toArray from p) (x:=u) (by simpa using hu) λh' st' sb=>?_
  have I1:Inv X pins σ H { s with heap:=h' }:=I.turned (t':=s.toks) (λb o hb e=>(sb.2 b hb).trans e) f0 f1 f3 f4 f5
  obtain⟨o,e,c,d⟩:=id st';exact⟨u,rfl,rZ (s:={ s with heap:=h' }) e c d (by decide) ⟨x,H,I1,ru,⟨rfl,λys hy=>by rw[I.i6 hy hq];exact hx⟩,st',λb hb=>(hf b hb).1⟩⟩
 done:=by
  intro X hP hw hK hc i pins s σ H E I hf st hg;subst hP hw hK;obtain⟨xs,hq,hx⟩:=hg;obtain⟨ab,rv,p,hz⟩:=I.tuple hq;obtain⟨f0,f1,f2,f3,f4,f5⟩:=hf it (by simp)
  have hl:=rv.length;exact wpAny_pyNext_tuple_end (I.ok.hd hc) st (show s.heap.IsTuple a ab.toArray from p) (by simp;omega) λh' eb=>⟨rfl,I.turned (t':=s.toks) (λb o hb e=>eb b o hb e) f0 f1 f3 f4 f5⟩
 self:=λ_ _ _ _ _ st h=>wpAny_pyIter_tupleiter st h
theorem Q9{P:Program}{K:ag}(it:Addr)(lo:Int)(n:Nat):Turn P w K tg (wC lo n) [it] it (λi h=>IsRangeIter h it (lo+(i:Nat)*1) ((n:Int)-(i:Nat)) 1) where
 mem:=by simp
 obj:=λi h st b hb=>by
  have e:b=it:=by simpa using hb
  subst e;exact⟨_,st,λv z=>by
   have z':Data.fields _=Data.cell v:=z;cases z'⟩
 keep:=λi h h' st k=>k it (by simp) _ st
 item:=by
  intro X hP hw hK hc i pins s σ H E I hf st hg;subst hP hw hK;obtain⟨f0,f1,f2,f3,f4,f5⟩:=hf it (by simp)
  have W:=Walks.range (prog:=X.prog) (w:=X.w) (I.ok.hd hc) it lo 1 n;refine W.item i s _ _ hg st λv h' tk hv st' kk=>?_
  obtain⟨t,rfl⟩:=hv;have I1:Inv X pins σ H { s with heap:=h',toks:=tk }:=I.turned (λb o hb e=>kk b o (by simpa using hb) e) f0 f1 f3 f4 f5
  refine⟨_,rfl,rZ (s:={ s with heap:=h',toks:=tk }) (n:="range_iterator") st' rfl rfl (by decide) ⟨.int (lo+i),H,I1,⟨t,?_⟩,⟨rfl,rfl⟩,st',λb hb=>(hf b hb).1⟩⟩
  rw[Int.mul_one]
 done:=by
  intro X hP hw hK hc i pins s σ H E I hf st hg;subst hP hw hK;obtain⟨f0,f1,f2,f3,f4,f5⟩:=hf it (by simp)
  exact wpAny_pyNext_range_end (I.ok.hd hc) st (by have:n<=i:=hg;omega) λh' eb=>⟨rfl,I.turned (t':=s.toks) (λb o hb e=>eb b o hb e) f0 f1 f3 f4 f5⟩
 self:=λ_ _ _ _ _ st h=>wpAny_pyIter_rangeiter st h
section
variable {X:Cx}{tg:Expr}
theorem Tt{s:Shared}{lo hi:Int}{t u v:Tok}{tk:Nat}(I:Inv X pins σ H s)(d:-(2 ^ 62)<=lo)(f:lo<2 ^ 62)(g:-(2 ^ 62)<=hi)(h:hi<2 ^ 62)
 (q:R (wC lo (hi-lo).toNat) H):wpAny (model X.prog X.w) X.A (pyIter (.ref s.heap.objs.size)) (Cp X pins σ tg R) E { s with heap:=s.heap.push { cls:=.type "range",data:=.fields #[.int lo t,.int hi u,.int 1 v] },toks:=tk }:=by
 refine wpAny_pyIter_range (IsRange.new ..) (small_one d f g h) ?_;have a:Inv X pins σ H { s with heap:=s.heap.push { cls:=.type "range",data:=.fields #[.int lo t,.int hi u,.int 1 v] },toks:=tk }:=I.kept λb o e=>bK _ e
 refine⟨(s.heap.push { cls:=.type "range",data:=.fields #[.int lo t,.int hi u,.int 1 v] }).objs.size,[(s.heap.push { cls:=.type "range",data:=.fields #[.int lo t,.int hi u,.int 1 v] }).objs.size],_,_,H,rfl,
  a.kept (t':=tk) λb o e=>bK _ e,Q9 _ lo (hi-lo).toNat,?_,λb i=>?_,q⟩
 . have e1:lo+((0:Nat):Int)*1=lo:=by simp
   have c:(((hi-lo).toNat:Nat):Int)-((0:Nat):Int)=Builtin.Range.rangeSize lo hi 1:=by rw[rangeSize_one];split<;>omega
   show IsRangeIter _ _ (lo+((0:Nat):Int)*1) ((((hi-lo).toNat:Nat):Int)-((0:Nat):Int)) 1;rw[e1,c];exact dJ _ rfl
 . have e:b=(s.heap.push { cls:=.type "range",data:=.fields #[.int lo t,.int hi u,.int 1 v] }).objs.size:=by simpa using i
   subst e;exact a.fZ (aU _) (a.av.fresh (aU _))
def ZI(ta:TA):TI:=λσ H R=>ta σ H λvs H1=>∃j:Int,vs= [.int j]/\-(2 ^ 62)<=j/\j<2 ^ 62/\R (wC 0 j.toNat) H1
theorem R7{a:Expr}{ta:TA}{p pos:Pos}(g:Gl X "range")(i:X.mg "range" =none)(f:PA X [a] ta)(hs:starEach [a] X.env= [(false,eval a X.env)]:=by rfl):PI X tg (.Call (.Name "range" p) [a] [] pos) (ZI ta):=by
 intro b s m H R I h;refine Call_ (nN I g i boot_range (wu (aB (f pos b s m H _ I h) λus n l=>?_) hs rfl));obtain⟨vs,H1,d,r1,c⟩:=l
 obtain⟨j,e,c,k,q⟩:=c;subst e;cases r1 with
 |cons r rr=>
  cases rr;obtain⟨t,rfl⟩:=r;exact call_range_1 (Tt d (by omega) (by omega) c k (by simpa using q))
noncomputable def NZ (wi:TI)(g:TG)(tb:TS):TS:=λD σ H=>wi σ H λJ H1=>∃W:Nat->Nat->St->Hp->Prop,(∃m,W 0 m σ H1)/\∀i m σ H,W i m σ H->
 (J.stop i H/\D.nx σ H)∨(J.go i H/\∃N:St->Hp->Prop,(∀σ' H',N σ' H'->∃m',m'<m/\W (i+1) m' σ' H')/\∀x H',J.Cn i H x H'->g x σ H' λσ2 H2=>tb { D with nx:=N,ct:=N,bk:=D.nx } σ2 H2)
def nQ(a:List Addr)(h:Heap):aJ:=a.filterMap λb=>(h.get? b).map λo=>(b,o)
theorem As{h:Heap}{b:Addr}(a:b∈fp)(e:h.get? b=some o):(b,o)∈nQ fp h:=wo.mpr ⟨b,a,by rw[e];rfl⟩
theorem GP{p:Addr×Obj}(d:p∈nQ fp h):p.1∈fp/\h.get? p.1=some p.2:=by
 obtain⟨b,c,e⟩:=wo.mp d;cases q:h.get? b with
 |none=>rw[q]at e;cases e
 |some o=>
  rw[q]at e;have a:(b,o)=p:=d0 e;subst a;exact⟨c,q⟩
theorem Inv.pinned{s:Shared}(I:Inv X pins σ H s)(j:∀b∈c,mX X pins H b)(ho:∀b∈c,∃o,s.heap.get? b=some o/\∀v,o.data≠.cell v):Inv X (pins++nQ c s.heap) σ H s:=
 I.fw λp k=>(dZ.mp k).elim (λz=>I.pin p (gV _ z)) λz=>by
  obtain⟨f,e⟩:=GP z;obtain⟨g,h,i,_⟩:=j p.1 f;obtain⟨o,a,d⟩:=ho p.1 f;rw[e]at a;cases a;exact⟨e,g,h,i,d⟩
theorem Inv.dW{a pl:aJ}{s:Shared}(I:Inv X (a++pl) σ H s):Inv X a σ H s:=I.fw λp b=>I.pin p (gV _ (oM _ b))
theorem VP{body:List Stmt}{g:TG}{tb:TS}(M:PassesOwn (model X.prog X.w) X.A X.env X.xe)(hc:X.calm=true)(hi:PI X tg iter wi)(hg:PG X tg g)(r:gB X body tb)
 (hs:∀x,foldedSetIterable iter X.env x=pure x:=by intro _;rfl):PS X (.For tg iter body [] pos) (NZ wi g tb):=by
 intro a s σ H D I h;refine wpAny_For (aB (hi a s σ H _ I h) λv s1 h1=>aB h1 λitv s2 h2=>?_) hs
 obtain⟨it,F,tn,J,H2,e,I2,T,st2,f2,W,⟨m0,w0⟩,Y⟩:=h2;subst e;have t:∀{z:Hp},(∀b∈F,z b=none)->∀b∈F,mX X a z b:=λhn b r=>⟨hn b r,(f2 b r).2⟩
 refine codeAny_forLoop_any (λn s'=>∃i w z,Inv X a w z s'/\tn i s'.heap/\(∀b∈F,z b=none)/\W i n w z) ?_ m0 ⟨0,σ,H2,I2,st2,λb r=>(f2 b r).1,w0⟩
 rintro n s3 ⟨i,y,Z,I3,Q,L,w3⟩;rcases Y i n y Z w3 with⟨U,qn⟩|⟨go,N,hN,R⟩
 . refine wpAny_passesOwn M (aB (T.done X rfl rfl rfl hc i a s3 y Z X.xe I3 (t L) Q U) λr s4 E=>?_);obtain⟨hr,I4⟩:=E
   subst hr;exact wpAny_execs_nil ⟨y,Z,I4,qn⟩
 . refine wpAny_passesOwn M (aB (T.item X rfl rfl rfl hc i a s3 y Z X.xe I3 (t L) Q go) λr s4 E=>?_);obtain⟨u,hr,h4⟩:=E
   subst hr;refine wpAny_passesOwn M (aB h4 λ_ s5 E=>?_);obtain⟨x,H5,I5,r5,y5,C,fr5⟩:=E
   have I5':=I5.pinned (t fr5) (T.obj _ _ C);refine wpAny_passesOwn M (aB (hg _ s5 y H5 x u _ I5' r5 (R x H5 y5)) λ_ s6 E=>?_);obtain⟨σ6,H6,I6,q6⟩:=E
   refine wpAny_passesOwn M (aB (r _ s6 σ6 H6 _ I6 q6) λf s7 A=>?_)
   have l:∀{c:St} {j:Hp},Inv X (a++nQ F s5.heap) c j s7->N c j->∃m,m<n/\∃i w z,Inv X a w z s7/\tn i s7.heap/\(∀b∈F,z b=none)/\W i m w z:=λ{c j} k O=>by
    obtain⟨m',hm,w7⟩:=hN c j O;refine⟨m',hm,i+1,c,j,k.dW,T.keep _ _ _ C λb r o e=>(k.pin (b,o) (gV _ (gV _ (As r e)))).1,λb r=>?_,w7⟩
    obtain⟨o,e,d⟩:=T.obj _ _ C b r;exact(k.pin (b,o) (gV _ (gV _ (As r e)))).2.1
   cases f with
   |next=>obtain⟨c,j,k,O⟩:=A;exact l k O
   |cont=>obtain⟨c,j,k,O⟩:=A;exact l k O
   |brk=>obtain⟨c,j,k,A⟩:=A;exact⟨c,j,k.dW,A⟩
   |ret v=>obtain⟨x7,c,j,k,r7,A⟩:=A;exact⟨x7,c,j,k.dW,r7,A⟩
end
abbrev R2:=V->V->Hp->VK->Prop
def eI(X:Cx)(f:Value->Value->Sem Value)(r:R2):Prop:=
 ∀a s b H x y v u Q,Inv X a b H s->RelV x v->RelV y u->r x y H Q->
  wpAny (model X.prog X.w) X.A (f v u) (EP X a b Q) X.xe s
def dm(X:Cx)(f:Value)(r:LV->Hp->VK->Prop):Prop:=
 ∀a s c H b us Q,Inv X a c H s->Vals b us->r b H Q->
  wpAny (model X.prog X.w) X.A (call f us) (EP X a c Q) X.xe s
def sM(r:R2)(ta tb:TE):TE:=λσ H Q=>ta σ H λx H1=>tb σ H1 λy H2=>r x y H2 Q
def rI(C:Int->Int->Prop)(g:Int->Int->V):R2:=λx y H Q=>∃i j,x= .int i/\y= .int j/\C i j/\Q (g i j) H
def oq(g:Int->Int->V):R2:=λx y H Q=>∃i j,x= .int i/\y= .int j/\Q (g i j) H
section
variable {X:Cx}{a b c:Expr}{ta tb tc:TE}{pos:Pos}
theorem BU(n:PE X a ta)(o:PE X b tb){d:aJ}{s:Shared}{σ:St}{H:Hp}{R:V->V->Hp->Prop}(I:Inv X d σ H s)
 (h:ta σ H λx H1=>tb σ H1 λy e=>R x y e) {Q:aX} {f:Value->Value->Sem Value}
 (r:∀v u j x y e,Inv X d σ e j->RelV x v->RelV y u->R x y e->wpAny (model X.prog X.w) X.A (f v u) Q X.xe j):
 wpAny (model X.prog X.w) X.A (eval a X.env) (λv g=>wpAny (model X.prog X.w) X.A (eval b X.env) (λu i=>wpAny (model X.prog X.w) X.A (f v u) Q X.xe i) X.xe g) X.xe s:=by
 refine aB (n d s σ H _ I h) λv A k=>?_;obtain⟨x,H1,l,r1,t⟩:=k
 refine aB (o d A σ H1 _ l t) λu j k=>?_;obtain⟨y,e,m,z,w⟩:=k
 exact r v u j x y e m r1 z w
theorem YE{op:Operator}(ho:eI X (binaryOp op) r)(g:PE X a ta)(i:PE X b tb):PE X (.BinOp a op b pos) (sM r ta tb):=by
 intro d s m H Q I h;exact wpAny_BinOp (BU g i I h λv u l x y e f j k q=>ho d l m e x y v u Q f j k q)
theorem xi{g:Int->Int->Int}
 (d:∀i j t u s Q E,C i j->Q (.int (g i j) s.toks) { s with toks:=s.toks+1 }->wpAny (model X.prog X.w) X.A (f (.int i t) (.int j u)) Q E s):
 eI X f (rI C λi j=>.int (g i j)):=by
 intro e s o H x y v u Q I l m h;obtain⟨i,j,rfl,rfl,k,q⟩:=h;obtain⟨t,rfl⟩:=l;obtain⟨n,rfl⟩:=m;exact d i j t n s _ _ k ⟨.int (g i j),H,I.tok _,⟨_,rfl⟩,q⟩
theorem Ew{g:Int->Int->Int}
 (d:∀i j t u s Q E,Q (.int (g i j) s.toks) { s with toks:=s.toks+1 }->wpAny (model X.prog X.w) X.A (f (.int i t) (.int j u)) Q E s):
 eI X f (oq λi j=>.int (g i j)):=by
 intro e s n H x y v u Q I k l h;obtain⟨i,j,rfl,rfl,q⟩:=h;obtain⟨t,rfl⟩:=k;obtain⟨m,rfl⟩:=l;exact d i j t m s _ _ ⟨.int (g i j),H,I.tok _,⟨_,rfl⟩,q⟩
theorem zi{g:Int->Int->Bool}
 (d:∀i j t u s Q E,Q (.bool (g i j)) s->wpAny (model X.prog X.w) X.A (f (.int i t) (.int j u)) Q E s):
 eI X f (oq λi j=>.bl (g i j)):=by
 intro e s n H x y v u Q I k l h;obtain⟨i,j,rfl,rfl,q⟩:=h;obtain⟨t,rfl⟩:=k;obtain⟨m,rfl⟩:=l;exact d i j t m s _ _ ⟨.bl (g i j),H,I,rfl,q⟩
def Pd(i j:Int):Prop:=0<j/\j<1073741824
def Pc(i j:Int):Prop:=0<=j/\j<=1000000/\i.natAbs<2 ^ 64
def iI(i j:Int):Prop:=(-(2 ^ 64)<i/\i<2 ^ 64)∨(-(2 ^ 64)<j/\j<2 ^ 64)
theorem iI.ok{i j:Int}(h:iI i j):IntMulOk i j:=by
 rcases h with⟨d,e⟩|⟨d,e⟩
 . exact .of_left (intBits_le_64 d e)
 . exact .of_right (intBits_le_64 d e)
theorem W6:eI X (binaryOp .Add) (oq λi j=>.int (i+j)):=Ew λ_ _ _ _ _ _ _ q=>add_int q
theorem WZ:eI X (binaryOp .Sub) (oq λi j=>.int (i-j)):=Ew λ_ _ _ _ _ _ _ q=>sub_int q
theorem W3:eI X (binaryOp .Mult) (rI iI λi j=>.int (i*j)):=xi λ_ _ _ _ _ _ _ d q=>mul_int q d.ok
theorem Vf:eI X (binaryOp .FloorDiv) (rI Pd λi j=>.int (i / j)):=xi λi j _ _ _ _ _ d q=>by
 have e:(0:Int)<j:=d.1;have f:j<1073741824:=d.2;exact floordiv_int (by omega) (by rw[Int.fdiv_eq_ediv_of_nonneg i (by omega)];exact q) (.inl (PyProof.noPylong_small (by omega)))
theorem W4:eI X (binaryOp .Mod) (rI (λ_ j=>0<j) λi j=>.int (i % j)):=xi λi j _ _ _ _ _ d q=>by
 have e:(0:Int)<j:=d;exact mod_int' (by omega) (by rw[Int.fmod_eq_emod_of_nonneg i (by omega)];exact q)
theorem W2:eI X (binaryOp .Pow) (rI Pc λi j=>.int (i ^ j.toNat)):=xi λ_ _ _ _ _ _ _ d q=>pow_int_small d.1 d.2.1 d.2.2 q
theorem JY{s:Shared}(I:Inv X pins σ H s)(q:Q (.bl k) H)(e:k=k'):EP X pins σ Q (.bool k') s:=by
 subst e;exact⟨.bl k,H,I,rfl,q⟩
theorem YJ:eI X (compareOp .Lt) (oq λi j=>.bl (decide (i<j))):=zi λ_ _ _ _ _ _ _ q=>lt_int q
theorem Yo:eI X (compareOp .LtE) (oq λi j=>.bl (decide (i<=j))):=zi λ_ _ _ _ _ _ _ q=>le_int q
theorem Yp:eI X (compareOp .Gt) (oq λi j=>.bl (decide (j<i))):=zi λ_ _ _ _ _ _ _ q=>gt_int q
theorem Yq:eI X (compareOp .GtE) (oq λi j=>.bl (decide (j<=i))):=zi λ_ _ _ _ _ _ _ q=>ge_int q
theorem W5:eI X (compareOp .Is) (λx y H Q=>y= .aq/\Q (.bl (decide (x= .aq))) H):=by
 intro d s g H x y v u Q I e f h;obtain⟨rfl,q⟩:=h;cases f;refine is_none_gen (JY I q ?_);cases x<;>first
  |(cases e;rfl)
  |(obtain⟨t,rfl⟩:=e;rfl)
theorem Ve:eI X (compareOp .IsNot) (λx y H Q=>y= .aq/\Q (.bl (!decide (x= .aq))) H):=by
 intro d s g H x y v u Q I e f h;obtain⟨rfl,q⟩:=h;cases f;refine isnot_none_gen (JY I q ?_);cases x<;>first
  |(cases e;rfl)
  |(obtain⟨t,rfl⟩:=e;rfl)
theorem qpS(b:Expr){op:CmpOp}(h:op≠.In:=by decide)(e:op≠.NotIn:=by decide):behindInMarks op b=false:=by
 have e1:(op==CmpOp.In)=false:=by cases op<;>first|rfl|exact aW rfl h
 have d:(op==CmpOp.NotIn)=false:=by cases op<;>first|rfl|exact aW rfl e
 cases b<;>simp[behindInMarks,e1,d]
theorem IS{op:CmpOp}(ho:eI X (compareOp op) r)(g:PE X a ta)(i:PE X b tb)(j:behindInMarks op b=false):PE X (.Compare a [op] [b] pos) (sM r ta tb):=by
 intro d s n H Q I h;exact wpAny_Compare1 (BU g i I h λv u m x y e f k l q=>ho d m n e x y v u Q f k l q) j
def Ku(t:TE):TT:=λσ H Q=>t σ H λx H'=>∃k,x= .bl k/\Q k H'
theorem Ik{op:CmpOp}(ho:eI X (compareOp op) r)(g:PE X a ta)(i:PE X b tb)(j:behindInMarks op b=false):PT X (.Compare a [op] [b] pos) (Ku (sM r ta tb)):=by
 intro d s f H Q I h;refine wpAny_isTrue_Compare1 (aB (g d s f H _ I h) λv l ⟨x,H1,I1,r1,q1⟩=>aB (i d l f H1 _ I1 q1) λu m ⟨y,H2,I2,r2,q2⟩=>
  aB (ho d m f H2 x y v u _ I2 r1 r2 q2) λc n ⟨z,H3,I3,r3,k,e,q3⟩=>?_) j
 subst e;cases r3;exact jS ⟨H3,I3,q3⟩
noncomputable def Bh (r r':R2)(ta tb tc:TE):TE:=λσ H Q=>ta σ H λx H1=>tb σ H1 λy H2=>r x y H2 λz H3=>∃k,z= .bl k/\
 (if k=true then tc σ H3 λw' H4=>r' y w' H4 Q else Q (.bl false) H3)
theorem TY{op op':CmpOp}(ho:eI X (compareOp op) r)(ho':eI X (compareOp op') r')(ha:PE X a ta)(hb:PE X b tb)(hc:PE X c tc)
 (hm:lastMarks [op,op'] [b,c]=false:=by with_unfolding_all rfl):PE X (.Compare a [op,op'] [b,c] pos) (Bh r r' ta tb tc):=by
 intro pins s σ H Q I h;refine Compare_chain (aB (ha pins s σ H _ I h) λv s1 ⟨x,H1,I1,r1,q1⟩=>chain_link (aB (hb pins s1 σ H1 _ I1 q1) λu s2 ⟨y,H2,I2,r2,q2⟩=>
  aB (ho pins s2 σ H2 x y v u _ I2 r1 r2 q2) λd s3 ⟨z,H3,I3,r3,k,e,q3⟩=>?_)) hm
 subst e;cases r3;refine jS ?_;cases k with
 |false=>exact ite_ff ⟨.bl false,H3,I3,rfl,q3⟩
 |true=>exact ite_tt (chain_last (aB (hc pins s3 σ H3 _ I3 q3) λw' s4 ⟨z',H4,I4,r4,q4⟩=>ho' pins s4 σ H4 y z' u w' Q I4 r2 r4 q4))
theorem TH{op op':CmpOp}(ho:eI X (compareOp op) r)(ho':eI X (compareOp op') r')(ha:PE X a ta)(hb:PE X b tb)(hc:PE X c tc)
 (hm:lastMarks [op,op'] [b,c]=false:=by with_unfolding_all rfl):PT X (.Compare a [op,op'] [b,c] pos) (Ku (Bh r r' ta tb tc)):=by
 intro pins s σ H Q I h;refine isTrue_chain (aB (ha pins s σ H _ I h) λv s1 ⟨x,H1,I1,r1,q1⟩=>test_link (aB (hb pins s1 σ H1 _ I1 q1) λu s2 ⟨y,H2,I2,r2,q2⟩=>
  aB (ho pins s2 σ H2 x y v u _ I2 r1 r2 q2) λd s3 ⟨z,H3,I3,r3,k,e,q3⟩=>?_)) hm
 subst e;cases r3;refine jS ?_;cases k with
 |false=>
  obtain⟨k',e',q'⟩:=q3;cases e';exact ite_ff ⟨H3,I3,q'⟩
 |true=>
  refine ite_tt (test_last (aB (hc pins s3 σ H3 _ I3 q3) λw' s4 ⟨z',H4,I4,r4,q4⟩=>aB (ho' pins s4 σ H4 y z' u w' _ I4 r2 r4 q4) λd' s5 zz=>?_));obtain⟨z2,H5,I5,r5,k2,e2,q5⟩:=zz
  subst e2;cases r5;exact jS ⟨H5,I5,q5⟩
theorem rU:(sizeLine:Nat)<2 ^ 63:=by rw[sizeLine_eq];decide
theorem QV:eI X (binaryOp .Add) (λx y H Q=>∃i j,x= .str i/\y= .str j/\i.length+j.length<=sizeLine/\Q (.str (i++j)) H):=by
 intro d s l H x y v u Q I f g h;obtain⟨i,j,rfl,rfl,e,q⟩:=h;obtain⟨t,rfl⟩:=f;obtain⟨k,rfl⟩:=g;exact add_str (λt' tk=>⟨.str (i++j),H,I.tok _,⟨_,rfl⟩,q⟩) e
theorem vals1{x:V}{us:az}(r:Vals [x] us):∃u,us= [u]/\RelV x u:=by
 cases r with
 |cons r1 r2=>cases r2;exact⟨_,rfl,r1⟩
theorem vals2{x y:V}{us:az}(r:Vals [x,y] us):∃u d,us= [u,d]/\RelV x u/\RelV y d:=by
 cases r with
 |cons r1 r2=>
  cases r2 with
  |cons r3 r4=>cases r4;exact⟨_,_,rfl,r1,r3⟩
theorem Sw(hc:X.calm=true):dm X (.builtin "max") (λxs H Q=>∃i j,xs= [.int i,.int j]/\Q (.int (if j > i then j else i)) H):=by
 intro pins s σ H xs us Q I r h;obtain⟨i,j,rfl,q⟩:=h;obtain⟨u,w',rfl,⟨t,rfl⟩,⟨t',rfl⟩⟩:=vals2 r;refine max_two_ints (I.ok.hd hc) λh' tk k=>⟨_,H,I.kept k,?_,q⟩
 by_cases hj:j > i
 . rw[ai hj,ai hj];exact⟨_,rfl⟩
 . rw[ae hj,ae hj];exact⟨_,rfl⟩
theorem Ue:dm X (.builtin "ord") (λxs H Q=>∃x,xs= [.str x]/\x.length=1/\Q (.int (x.cps.getD 0 0:Nat)) H):=by
 intro pins s σ H xs us Q I r h;obtain⟨x,rfl,hz,q⟩:=h;obtain⟨u,rfl,t,rfl⟩:=vals1 r;exact ord_of_one hz ⟨.int _,H,I.tok _,⟨_,rfl⟩,q⟩
end
structure eG(h:Heap)(x dx C:Addr)(mA:bC):Prop where
 obj:h.get? x=some (oF C dx)
 ns:h.Ns1 dx mA
 ne:dx≠x
theorem RZ{h:Heap}(n:h.Ns1 dx mA):∃od,h.get? dx=some od/\∀name,PySem.W.lookIn name od=some (mA name):=by
 obtain⟨o,es,ep,ho,hd,hk,_,hm⟩:=n;refine⟨o,ho,λname=>?_⟩
 have e:=hm name;unfold nsFind findBy at e;rw[<-Array.find?_toList]at e;unfold PySem.W.lookIn;rw[hd];dsimp only;split
 . rename_i y q
   rw[q]at e;exact congrArg some e
 . rename_i q
   rw[q]at e;have a:es.toList.any (·.refKey)=false:=by
    rw[List.any_eq_false];intro y hy;obtain⟨z,t,hkey⟩:=hk y (Array.mem_toList_iff.mp hy);simp[DictEntry.refKey,hkey]
   have a':¬es.toList.any (·.refKey)=true:=by rw[a];exact gX
   rw[ae a'];exact congrArg some e
theorem eG.look{x c C:Addr}(I:eG h x c C mA):∃b,PySem.W.InstAt h x (oF C c) C (some b)/\∀a,PySem.W.lookIn a b=some (mA a):=
 let⟨b,ho,hl⟩:=RZ I.ns
 ⟨b,⟨I.obj,rfl,rfl,ho⟩,hl⟩
section
variable {prog:Program}{w:World}{A:Around}{E:aX}{s:Shared}{K:ag}{x dx C f:Addr}{mA:bC}{name:Str}{v:Value}
theorem get_map(X:K.In s.heap)(I:eG s.heap x dx C mA)(c:wt K C name=true)(d:zF K C=true)
 (b:PySem.W.findIn K (.ref C) name=some none) (g:mA name=some v) (a:PySem.W.handedIn v=true) (h:Q v { s with toks:=s.toks+1 }):
 wpAny (model prog w) A (getAttr (.ref x) name expr) Q E s:=by
 obtain⟨i,J,e⟩:=I.look;exact PySem.W.get_value X J (PySem.W.plainGet_of c).1 (PySem.W.findObj_own d b rfl (by rw[e,g])) a h
theorem Ts{pl:Sem Bool}(X:K.In s.heap)(I:eG s.heap x dx C mA)(a:wt K C name=true)
 (b:PySem.W.findIn K (.ref C) name=some (some (.ref f))) (d:PySem.W.isFn K (.ref f)=true) (e:mA name=none) (h:Q (.ref f,[.ref x]) s):
 wpAny (model prog w) A (getMethod (.ref x) name pl) Q E s:=by
 obtain⟨g,J,c⟩:=I.look;exact PySem.W.method_fn X J (PySem.W.plainGet_of a).1 (PySem.W.plainGet_of a).2 b (fM.mp d) (by show(PySem.W.lookIn name g).map (·.isSome)=some false;rw[c,e];rfl) h
theorem Uw{ns:aE}(X:K.In s.heap)(I:eG s.heap x dx C mA)
 (hs:PySem.W.findIn K (.ref C) "__setattr__" =some (some (.builtin "object.__setattr__"))) (o:PySem.W.plainOver K C=true) (t:PySem.W.takerIn K C name=some none) (n:zF K C=true)
 (u:PySem.Within mA ns) (hsz:ns.length<=sizeLine)
 (h:∀d,eG d x dx C (λy=>if y=name then some v else mA y)->Heap.SameBut dx s.heap d->Q () { s with heap:=d,toks:=s.toks+2 }):
 wpAny (model prog w) A (setAttr (.ref x) name v) Q E s:=by
 obtain⟨F,J,z⟩:=I.look;refine PySem.W.set_plain X J hs (PySem.W.osa_open (s:={ s with toks:=s.toks+1 }) (r:=none) X J o t λb=>?_)
 obtain⟨cd,m,g⟩:=PySem.W.any_some n;have hx:s.heap.get? x=some ⟨.ref C,some dx,.plain,#[]⟩:=I.obj;refine ah (aD (ah (ah (wpAny_loadPart hx (ah (PySem.W.Looks.here (s:={ s with toks:=s.toks+1 }) (PySem.W.looks_clsIn X m) ?_))))))
 rw[g];refine aD (a:=some dx) (ah (aD (ah ?_)));refine wpAny_nsSet1 (s:={ s with toks:=s.toks+1 }) I.ns λh' b c=>?_
 obtain⟨D,l,k,j,i,e⟩:=b.count (PySem.Within.cons name v u);refine ah (wpAny_lookBehind j (by rw[i];exact pastItsLine_dict (cq e (by rw[cY];omega))) ?_)
 exact aD (h _ ⟨(c.2 _ (aY I.ne)).trans I.obj,b,I.ne⟩ c)
theorem Td{vs:az}(X:K.In s.heap)(hm:PySem.W.makesIn K C=true)
 (hi:PySem.W.findIn K (.ref C) "__init__" =some (some (.ref f))) (hf:PySem.W.typeIn K (.ref f)=some (.type "function"))
 (h:codeAny (model prog w) (A.under (.builtin "type.__call__" ⟨.ref C::vs,kw⟩)) (.call (.ref f) ⟨.ref (s.heap.objs.size+1)::vs,kw⟩) (PySem.W.InitBack (s.heap.objs.size+1) R)
  { s with heap:=(s.heap.push m7).push (oF C s.heap.objs.size) }):
 codeAny (model prog w) A (.call (.ref C) ⟨vs,kw⟩) R s:=by
 obtain⟨hh,g,d,t,os⟩:=s;exact PySem.W.make_core (PySem.W.makes_of X hm) (PySem.W.looks_findIn X hi) (λself=>PySem.W.bind_fn X self hf) (.inl rfl) h
end
noncomputable def fQ(f:Str)(v:V):List (Str×V)->List (Str×V)
 | []=>[(f,v)]
 |(g,x)::r=>if g=f then(g,v)::r else(g,x)::fQ f v r
theorem FZ(f g:Str)(v):∀c:List (Str×V),(fQ f v c).lookup g=if g=f then some v else c.lookup g
 | []=>by
  show List.lookup g [(f,v)]=_
  by_cases h:g=f
  . have a:(g==f)=true:=fM.mpr h
    simp only[List.lookup,a,ai h]
  . have a:(g==f)=false:=oO.mpr h
    simp only[List.lookup,a,ae h]
 |(k,x)::r=>by
  have d:=FZ f g v r;rw[show fQ f v ((k,x)::r)=(if k=f then(k,v)::r else(k,x)::fQ f v r)from rfl]
  by_cases b:k=f
  . rw[ai b]
    by_cases h:g=k
    . have a:(g==k)=true:=fM.mpr h
      simp only[List.lookup,a,ai (h.trans b)]
    . have a:(g==k)=false:=oO.mpr h
      simp only[List.lookup,a,ae (λe:g=f=>h (e.trans b.symm))]
  . rw[ae b]
    by_cases h:g=k
    . have a:(g==k)=true:=fM.mpr h
      simp only[List.lookup,a,ae (λe:g=f=>b (h.symm.trans e))]
    . have a:(g==k)=false:=oO.mpr h
      simp only[List.lookup,a];exact d
theorem AB(f)(v):∀a:List (Str×V),f∈(fQ f v a).map (·.1)/\∀g,g∈a.map (·.1)->g∈(fQ f v a).map (·.1)
 | []=>⟨by simp[fQ],λg h=>by simp at h⟩
 |(k,x)::r=>by
  obtain⟨c,d⟩:=AB f v r;rw[show fQ f v ((k,x)::r)=(if k=f then(k,v)::r else(k,x)::fQ f v r)from rfl]
  by_cases b:k=f
  . rw[ai b]
    subst b;exact⟨by simp,λg h=>by simpa using h⟩
  . rw[ae b]
    refine⟨?_,λg h=>?_⟩
    . rw[bF]
      exact gJ _ c
    . rw[bF]at h ⊢
      rcases eY.mp h with e|e
      . exact eY.mpr (.inl e)
      . exact gJ _ (d g e)
theorem F0(f)(v):∀a:List (Str×V),(fQ f v a).length<=a.length+1
 | []=>by simp[fQ]
 |(k,x)::r=>by
  have c:=F0 f v r;rw[show fQ f v ((k,x)::r)=(if k=f then(k,v)::r else(k,x)::fQ f v r)from rfl]
  by_cases b:k=f
  . rw[ai b,cY,cY];omega
  . rw[ae b,cY,cY];omega
theorem bS.some_of{v:V}(r:bS (some v) o):∃u,o=some u/\RelV v u:=by
 cases o with
 |none=>exact(show False from r).elim
 |some u=>exact⟨u,rfl,r⟩
theorem bS.none_of(r:bS none o):o=none:=by
 cases o with
 |none=>rfl
 |some u=>exact(show False from r).elim
theorem SG{v:V}(r:RelV v u):PySem.W.handedIn u=true:=by
 cases v with
 |aq=>cases(show u=Value.none from r);rfl
 |bl b=>cases(show u=Value.bool b from r);rfl
 |int i=>obtain⟨t,e⟩:=(show ∃t,u=Value.int i t from r);cases e;rfl
 |str x=>obtain⟨t,e⟩:=(show ∃t,u=Value.str x t from r);cases e;rfl
 |wL b=>obtain⟨t,e⟩:=(show ∃t,u=Value.bytes b t from r);cases e;rfl
 |pQ b=>obtain⟨t,e⟩:=(show ∃t,u=Value.float b t from r);cases e;rfl
 |ref a=>cases(show u=Value.ref a from r);rfl
 |ty n=>cases(show u=Value.type n from r);rfl
section
variable {P:Program}{w:World}{H H':Hp}{h h':Heap}{a C dx:Addr}{fs fs':List (Str×V)}
theorem yu(c:c9 P w H h)(e:H a=some (.ins C dx fs)):∃b,eG h a dx C b/\(∀f,bS (fs.lookup f) (b f))/\PySem.Within b (fs.map (·.1))/\fs.length<=1000/\H dx=some (.own a):=by
 obtain⟨d,z,g,ob,b,n,r,q⟩:=(show aG P w H h a (.ins C dx fs)from c a _ e)
 exact⟨b,⟨ob,n,g⟩,r,q,z,d⟩
end
structure cZ(K:ag)(C:Addr):Prop where
 pg:wt K C Str.empty=true
 hd:zF K C=true
 po:PySem.W.plainOver K C=true
 sa:PySem.W.findIn K (.ref C) "__setattr__" =some (some (.builtin "object.__setattr__"))
theorem cZ.get{K:ag}(c:cZ K C)(f:Str):wt K C f=true:=c.pg
def aZ(K:ag)(C:Addr)(f:Str):Prop:=PySem.W.findIn K (.ref C) f=some none
theorem aZ.wk{K:ag}(n:aZ K C f):PySem.W.takerIn K C f=some none:=by
 unfold PySem.W.takerIn;rw[show PySem.W.findIn K (.ref C) f=some none from n]
 rfl
structure Meth(K:ag)(C:Addr)(m:Str)(f:Addr):Prop where
 at_:PySem.W.findIn K (.ref C) m=some (some (.ref f))
 fn:PySem.W.isFn K (.ref f)=true
 kp:PySem.W.keepIn K (.ref f)=true
section
variable {X:Cx}{pins:aJ}{σ:St}{H:Hp}{s:Shared}{a C dx:Addr}{fs:List (Str×V)}{f:Str}{v:V}{A:Around}{E:aX}
theorem GB{b:Bool}(I:Inv X pins σ H s)(e:H a=some (.ins C dx fs))(c:cZ X.K C)(n:aZ X.K C f)(l:fs.lookup f=some v)
 (h:∀u d,Inv X pins σ H d->RelV v u->Q u d):wpAny (model X.prog X.w) A (getAttr (.ref a) f b) Q E s:=by
 obtain⟨i,O,r,_,_,_⟩:=yu I.av e;obtain⟨u,g,ru⟩:=bS.some_of (v:=v) (o:=i f) (by rw[<-l];exact r f)
 exact get_map I.eL O (c.get f) c.hd n g (SG ru) (h u _ (I.tok _) ru)
theorem GA{g:Addr}{pl:Sem Bool}(I:Inv X pins σ H s)(e:H a=some (.ins C dx fs))(c:cZ X.K C)(k:Meth X.K C m g)(l:fs.lookup m=none)
 (h:Q (.ref g,[.ref a]) s):wpAny (model X.prog X.w) A (getMethod (.ref a) m pl) Q E s:=by
 obtain⟨d,O,r,_,_,_⟩:=yu I.av e;have b:d m=none:=bS.none_of (by rw[<-l];exact r m)
 exact Ts I.eL O (c.get m) k.at_ k.fn b h
theorem Gs{Q:Unit->Shared->Prop}(I:Inv X pins σ H s)(e:H a=some (.ins C dx fs))(c:cZ X.K C)(n:aZ X.K C f)(hl:fs.length<1000)(ry:RelV y u)
 (h:∀s',Inv X pins σ (upd H a (.ins C dx (fQ f y fs))) s'->Q () s'):wpAny (model X.prog X.w) A (setAttr (.ref a) f u) Q E s:=by
 obtain⟨mA,O,r,wi,_,ho⟩:=yu I.av e;have hz:(fs.map (·.1)).length<=sizeLine:=by rw[bo,sizeLine_eq];omega
 refine Uw I.eL O c.sa c.po n.wk c.hd wi hz λh' O' sb=>h _ ?_
 have hd:∃o,h'.get? dx=some o:=let⟨o,_,_,e',_⟩:=O'.ns;⟨o,e'⟩;refine I.write (x:=a) (e:=dx) (by rw[e];exact True.intro) (.inr ho) (λb q hb z=>(sb.2 b hb).trans z) hd ?_
 refine⟨by rw[au O.ne];exact ho,?_,O.ne,O'.obj,_,O'.ns,λg=>?_,λg hg=>?_⟩
 . have:=F0 f y fs;omega
 . show bS ((fQ f y fs).lookup g) (if g=f then some u else mA g)
   rw[FZ]
   by_cases q:g=f
   . rw[ai q,ai q];exact ry
   . rw[ae q,ae q];exact r g
 . by_cases q:g=f
   . rw[q];exact(AB f y fs).1
   . refine(AB f y fs).2 g (wi g λz=>hg ?_)
     show(if g=f then some u else mA g)=none
     rw[ae q];exact z
theorem Inv.made(I:Inv X pins σ H s):Inv X pins σ (upd (upd H s.heap.objs.size (.own (s.heap.objs.size+1))) (s.heap.objs.size+1) (.ins C s.heap.objs.size []))
 { s with heap:=(s.heap.push m7).push (oF C s.heap.objs.size) }:=by
 have e1:(s.heap.push m7).get? s.heap.objs.size=some m7:=dJ s.heap rfl;have d:((s.heap.push m7).push (oF C s.heap.objs.size)).get? (s.heap.objs.size+1)=some (oF C s.heap.objs.size):=by
  have:=dJ (s.heap.push m7) (o:=oF C s.heap.objs.size) rfl
  rwa [Heap.size_push]at this
 have e:(s.heap.push m7).Ns s.heap.objs.size (λ_=>none):=⟨m7,#[],_,e1,rfl,(λe g=>aW g (by simp)),λ_=>rfl⟩
 have c:=I.laid (a:=s.heap.objs.size) (o:=.own (s.heap.objs.size+1)) (h':=s.heap.push m7) (t':=s.toks) (λb u q=>bK _ q) (aU _) ⟨_,e1⟩
 refine c.laid (a:=s.heap.objs.size+1) (o:=.ins C s.heap.objs.size []) (t':=s.toks) (λb u q=>bK _ q) (Nat.le_of_eq (Heap.size_push _ _)) ?_
 have b:s.heap.objs.size≠s.heap.objs.size+1:=cX (sS _);refine⟨by rw[au b,bO],qT _,b,d,λ_=>none,(Heap.Ns1.of_empty e).at λo q=>bK _ q,λ_=>True.intro,λy h=>aW rfl h⟩
theorem Jc{env:Env}{e:Expr}{s:Shared}(c:attributeBase e f env (eval e env)=eval e env)
 (h:wpAny (model prog w) A (eval e env) (λo b=>wpAny (model prog w) A (getAttr o f true) Q E b) E s):wpAny (model prog w) A (eval (.Attribute e f pos) env) Q E s:=
 Attribute_any_ h (by rw[arm_eval_Attribute,c])
end
noncomputable def N0 (K:ag)(ta:TE)(f:Str):TE:=λσ H Q=>ta σ H λx H1=>∃a C dx fs v,x= .ref a/\H1 a=some (.ins C dx fs)/\cZ K C/\aZ K C f/\fs.lookup f=some v/\Q v H1
noncomputable def NL (K:ag)(ta g:TE)(f:Str):TS:=λD c H=>g c H λy H1=>ta c H1 λx d=>∃a C e b,x= .ref a/\d a=some (.ins C e b)/\cZ K C/\aZ K C f/\b.length<1000/\
 D.nx c (upd d a (.ins C e (fQ f y b)))
def Fw(X:Cx)(op:Operator)(rd:V->V->Hp->VK->Prop):Prop:=
 ∀a s b H x y u v Q,Inv X a b H s->RelV x u->RelV y v->rd x y H Q->wpAny (model X.prog X.w) X.A (inplaceOp op u v) (EP X a b Q) X.xe s
noncomputable def Uz (K:ag)(ta j:TE)(rd:V->V->Hp->VK->Prop)(f:Str):TS:=λD d H=>ta d H λx H1=>∃a C i g v,x= .ref a/\H1 a=some (.ins C i g)/\cZ K C/\aZ K C f/\g.lookup f=some v/\
 j d H1 λy h=>rd v y h λz e=>∃c b,e a=some (.ins C c b)/\b.length<1000/\D.nx d (upd e a (.ins C c (fQ f z b)))
section
variable {X:Cx}{o e value:Expr}{f:Str}{pos pos' tpos:Pos}{ta tv:TE}
theorem WU(k:PE X e ta)(j:attributeBase e f X.env (eval e X.env)=eval e X.env):PE X (.Attribute e f pos) (N0 X.K ta f):=by
 intro b s t H Q I h;refine Jc j (aB (k b s t H _ I h) λu z r=>?_);obtain⟨x,H1,d,m,a,C,w,y,v,ex,i,c,n,l,q⟩:=r
 subst ex;obtain rfl:u=Value.ref a:=m;exact GB d i c n l λu' A g ru=>⟨v,H1,g,ru,q⟩
theorem WK(ha:PE X o ta)(hv:PE X value tv)(hs:swapsWith value (some (.Attribute o f pos')) pos.line X.env=pure false):PS X (.Assign [.Attribute o f pos'] value pos) (NL X.K ta tv f):=by
 intro pins s σ H D I h;refine plainObj_wpAny_Assign_Attribute (aB (hv pins s σ H _ I h) λu s1 ⟨y,H1,I1,ry,q⟩=>aB (ha pins s1 σ H1 _ I1 q) λov s2 zz=>?_) hs;obtain⟨x,H2,I2,rx,a,C,dx,fs,ex,ea,c,n,l,q2⟩:=zz
 subst ex;obtain rfl:ov=Value.ref a:=rx;exact Gs I2 ea c n l ry λs3 I3=>⟨σ,_,I3,q2⟩
theorem Rq{op:Operator}{rd:V->V->Hp->VK->Prop}(ha:PE X o ta)(hv:PE X value tv)(hop:Fw X op rd):PS X (.AugAssign (.Attribute o f tpos) op value pos) (Uz X.K ta tv rd f):=by
 intro pins s σ H D I h;refine wpAny_AugAssign_AttributeAny (aB (ha pins s σ H _ I h) λov s1 zz=>?_);obtain⟨x,H1,I1,rx,a,C,dx,fs,v,ex,ea,c,n,l,q⟩:=zz
 subst ex;obtain rfl:ov=Value.ref a:=rx;refine GB I1 ea c n l λu s2 I2 ru=>aB (hv pins s2 σ H1 _ I2 q) λw3 s3 ⟨y,H2,I3,ry,q3⟩=>aB (hop pins s3 σ H2 v y u w3 _ I3 ru ry q3) λw4 s4 zz=>?_;obtain⟨z,H3,I4,rz,dx',fs',ea',l',q4⟩:=zz
 exact Gs I4 ea' c n l' rz λs5 I5=>⟨σ,_,I5,q4⟩
def zg:V->V->Hp->VK->Prop:=λx y H Q=>∃i j,x= .int i/\y= .int j/\Q (.int (i+j)) H
theorem Xs:Fw X .Add zg:=by
 rintro a s g H x y u v Q I c d ⟨i,j,rfl,rfl,q⟩;obtain⟨t,rfl⟩:=(show ∃t,u=Value.int i t from c)
 obtain⟨b,rfl⟩:=(show ∃b,v=Value.int j b from d)
 exact PyProof.Rows.iadd_int ⟨.int (i+j),H,I.tok _,⟨_,rfl⟩,q⟩
end
structure aN(k:Nat)(A:Around):Prop where
 hd:A.handled=none
 dp:A.depth+3*k+5<recursionLimit
 un:A.units+16*k+200<cLine
theorem aN.mono(r:aN k A)(h:j<=k):aN j A:=⟨r.hd,by have:=r.dp;omega,by have:=r.un;omega⟩
theorem aN.deeper(r:aN (k+1) A)(env):aN k (A.deeper env):=
 ⟨r.hd,by have:=r.dp;show A.depth+1+3*k+5<_;omega,by have:=r.un;show A.units+3+16*k+200<_;omega⟩
theorem QY{A:Around}{us:az}:(A.under (.builtin "type.__call__" ⟨.ref C::us,kw⟩)).depth=A.depth+1:=by
 first|rfl|simp[Around.under,Code.weight,Code.isCreation,Code.isGuard,Code.isCaller,Code.frames,Code.isFrame,guardIds]
theorem QX{A:Around}{us:az}:(A.under (.builtin "type.__call__" ⟨.ref C::us,kw⟩)).units=A.units+1:=by
 first|rfl|simp[Around.under,Code.cUnits,Code.frames,Code.isFrame]
theorem aN.make(r:aN (k+1) A)(C)(us)(a:List (Str×Value)):aN k (A.under (.builtin "type.__call__" ⟨.ref C::us,a⟩)):=
 ⟨r.hd,by have:=r.dp;rw[QY];omega,by have:=r.un;rw[QX];omega⟩
theorem aN.depth(r:aN k A):A.depth<recursionLimit:=by have:=r.dp;omega
theorem aN.units(r:aN k A):A.units+64<cLine:=by have:=r.un;omega
def yZ:TA:=λ_ H Q=>Q [] H
def Yk(ta:TE)(tr:TA):TA:=λσ H Q=>ta σ H λx H1=>tr σ H1 λxs H2=>Q (x::xs) H2
section
variable {X:Cx}{e:Expr}{es:aV}{te:TE}{t:TA}{pos:Pos}
theorem WW:PA X [] yZ:=λ_ _ _ _ H Q I h=>Calls.spliced_nil ⟨[],H,I,.nil,h⟩
theorem Vc(d:PE X e te)(f:PA X es t)(hs:starEach (e::es) X.env=(false,eval e X.env)::starEach es X.env:=by rfl):PA X (e::es) (Yk te t):=by
 intro pos a s b H Q I h;rw[hs];show wpAny _ _ (spliced ((false,eval e X.env)::backTo pos (starEach es X.env))) _ _ s;refine Calls.spliced_cons (aB (d a s b H _ I h) λu i k=>?_);obtain⟨x,H1,c,r1,g⟩:=k
 exact aB (f pos a i b H1 _ c g) λus l ⟨j,H2,I2,r2,q2⟩=>⟨x::j,H2,I2,.cons r1 r2,q2⟩
def Od(t:TA):TE:=λσ H Q=>t σ H λxs H1=>xs.length<=sizeLine/\∀p,H1 p=none->Q (.ref p) (upd H1 p (.tup xs))
def NX(t:TA):TE:=λσ H Q=>t σ H λxs H1=>xs.length<=sizeLine/\∀p,H1 p=none->Q (.ref p) (upd H1 p (.lst xs))
theorem WQ{x1}(h:PA X es t):PE X (.Tuple es x1 pos) (Od t):=by
 intro a s g H Q I d;refine wpAny_Tuple_spliced (aB (h pos a s g H _ I d) λus b ⟨f,H1,I1,r,z,q⟩=>⟨by rw[<-r.length];exact z,?_⟩)
 have c:H1 b.heap.objs.size=none:=I1.av.fresh (aU _);refine⟨.ref b.heap.objs.size,upd H1 b.heap.objs.size (.tup f),I1.laid (t':=b.toks) (λb u e=>bK _ e) (aU _) ?_,rfl,q _ c⟩
 exact⟨z,us,r,⟨_,dJ _ rfl,rfl,_,rfl⟩⟩
theorem JG(h:PA X es t):PE X (.List es pos) (NX t):=by
 intro a s g H Q I d;refine wpAny_List_spliced (aB (h pos a s g H _ I d) λus b ⟨f,H1,I1,r,z,q⟩=>⟨by rw[<-r.length];exact z,?_⟩)
 have c:H1 b.heap.objs.size=none:=I1.av.fresh (aU _);refine⟨.ref b.heap.objs.size,upd H1 b.heap.objs.size (.lst f),I1.laid (t':=b.toks) (λb u e=>bK _ e) (aU _) ?_,rfl,q _ c⟩
 exact⟨z,us,0,r,dJ _ rfl⟩
end
abbrev Sp:=LV->Hp->VK->XK->Prop
abbrev ni:=List Env->Hp->Shared->XK->aX
structure gZ(P:Program)(w:World)(K:ag)(mg:bC)(base:Heap)(A:Around)(outer:List Env)(s:Shared)(H:Hp):Prop where
 frames:A.frames=some outer
 mod:Mod K mg base
 bs:∀b o,base.get? b=some o->s.heap.get? b=some o/\H b=none
 jt:base.objs.size<=s.heap.objs.size
 eJ:s.heap.FunFrames base outer
 nz:∀b∈iM outer,H b=none
 av:c9 P w H s.heap
 bare:AllBare s.gens
def CE(a:List Env)(P:Program)(w:World)(H:Hp)(s:Shared)(Q:VK)(u:Value)(b:Shared):Prop:=
 ∃v c,b.os=s.os/\AllBare b.gens/\Un (iM a) [] H c s.heap b.heap/\c9 P w c b.heap/\RelV v u/\Q v c
def CR(c:ni)(a:List Env)(P:Program)(w:World)(H:Hp)(s:Shared)(Q:VK)(E:XK)(r:Result)(b:Shared):Prop:=
 match r with
 | .ok (.ret u)=>CE a P w H s Q u b
 | .ok _=>False
 | .error e=>c a H s E e b
structure eW(P:Program)(w:World)(K:ag)(mg:bC)(base:Heap)(CX:ni)(k:Nat)(f:Addr)(fd:FuncData)(ps:aE)(sp:Sp):Prop where
 len:∀vs H Q E,sp vs H Q E->vs.length=ps.length
 run:∀(A:Around) (outer:List Env) (s:Shared) (H:Hp) (args:Args) (us:az) (vs:LV) (Q:VK) (E:XK),aN k A->gZ P w K mg base A outer s H->BindsTo s fd args (ps.zip us)->Vals vs us->sp vs H Q E->
  codeAny (model P w) A (.call (.ref f) args) (CR CX outer P w H s Q E) s
theorem gZ.make{P:Program}{K:ag}{s:Shared}(e:gZ P w K mg base A outer s H)(C)(us)(a:List (Str×Value)):
 gZ P w K mg base (A.under (.builtin "type.__call__" ⟨.ref C::us,a⟩)) outer s H:=⟨by first|exact e.frames|(simpa[Around.under,Code.envs,Code.isFrame,pushEnvs]using e.frames),e.mod,e.bs,e.jt,e.eJ,e.nz,e.av,e.bare⟩
section
variable {X:Cx}{pins:aJ}{σ:St}{H:Hp}{s s':Shared}
theorem Inv.tJ(I:Inv X pins σ H s):gZ X.prog X.w X.K X.mg X.base X.A X.stack s H:=
 ⟨I.ok.frames,I.ok.mod,I.bs,cq I.ok.jt I.sz,I.stack,I.gh,I.av,I.bare⟩
theorem Inv.after(I:Inv X pins σ H s)(h:CE X.stack X.prog X.w H s Q u s'):EP X pins σ Q u s':=by
 obtain⟨v,c,os,a,un,e,r,q⟩:=h;obtain⟨f,g,d,t,b⟩:=s';obtain rfl:b=s.os:=os;exact⟨v,c,I.call (h':=f) (g':=g) (d':=d) (t':=t) (ch:=[]) un e a (λb z=>aW z (by simp)),r,q⟩
end
def Kx(sp:Sp)(dvs:LV)(E:XK)(t:TA):TE:=λσ H Q=>t σ H λvs H1=>sp (vs++dvs) H1 Q E
noncomputable def Bt (C:Addr)(m:Str)(sp:Sp)(dvs:LV)(E:XK)(ta:TE)(t:TA):TE:=λσ H Q=>ta σ H λx H1=>∃a dx fs,x= .ref a/\H1 a=some (.ins C dx fs)/\fs.lookup m=none/\
 t σ H1 λvs H2=>sp (x::(vs++dvs)) H2 Q E
noncomputable def Kw (C:Addr)(sp:Sp)(dvs:LV)(E:XK)(t:TA):TE:=λσ H Q=>t σ H λvs H1=>∀x dx,H1 x=none->H1 dx=none->dx≠x->
 sp (.ref x::(vs++dvs)) (upd (upd H1 dx (.own x)) x (.ins C dx [])) (λv H2=>v= .aq/\Q (.ref x) H2) E
def Binds(K:ag)(b:FuncData)(ps:aE)(a:az):Prop:=
 ∀s us,K.In s.heap->(us++a).length=ps.length->BindsTo s b ⟨us,[]⟩ (ps.zip (us++a))
theorem Binds.all{K:ag}{ps:aE}(h:∀us:az,us.length=ps.length->bindArgs fd ⟨us,[]⟩=pure (ps.zip us)):Binds K fd ps []:=λs us _ a=>by
 rw[oG]at a ⊢;exact .of_eq (h us a)
def Passes(c:ni)(X:Cx)(E:XK):Prop:=∀a d H s e b,Inv X a d H s->c X.stack H s E e b->X.xe e b
section
variable {X:Cx}{CX:ni}{k:Nat}{f C:Addr}{fd:FuncData}{ps:aE}{sp:Sp}{dvs:LV}{ds:az}{E:XK}{x m:Str}{p pos apos:Pos}{e o:Expr}{es:aV}{ta:TE}{t:TA}
theorem vd{s:Shared}{us:az}{vs:LV}(F:eW X.prog X.w X.K X.mg X.base CX k f fd ps sp)(i:aN k X.A)(c:Binds X.K fd ps ds)(d:Vals dvs ds)(hx:Passes CX X E)
 (I:Inv X pins σ H s) (r:Vals vs us) (h:sp (vs++dvs) H Q E):wpAny (model X.prog X.w) X.A (call (.ref f) us) (EP X pins σ Q) X.xe s:=by
 have b:Vals (vs++dvs) (us++ds):=r.append d;have g:(us++ds).length=ps.length:=by rw[<-b.length];exact F.len _ _ _ _ h
 refine wpAny_call (codeAny_mono (F.run X.A X.stack s H ⟨us,[]⟩ (us++ds) (vs++dvs) Q E i I.tJ (c s us I.eL g) b h) λr j a=>?_)
 cases r with
 |error e=>exact hx pins σ H s e j I a
 |ok fl=>
  cases fl with
  |ret u=>exact I.after a
  |next=>exact False.elim a
  |brk=>exact False.elim a
  |cont=>exact False.elim a
theorem Va(F:eW X.prog X.w X.K X.mg X.base CX k f fd ps sp)(u:aN k X.A)(l:Gl X x)(n:X.mg x=some (.ref f))(hk:PySem.W.keepIn X.K (.ref f)=true)(g:Binds X.K fd ps ds)(i:Vals dvs ds)(hx:Passes CX X E)
 (d:PA X (e::es) t) (b:(x==("__debug__":Str))=false:=by decide) (j:starEach (e::es) X.env=(false,eval e X.env)::starEach es X.env:=by rfl) (c:(backTo pos (starEach es X.env)).any (·.1)=false:=by rfl):
 PE X (.Call (.Name x p) (e::es) [] pos) (Kx sp dvs E t):=by
 intro a s v H Q I h;refine wpAny_Call_Name_kw (qj I l n ?_ b);refine zE (h₀:=X.base) I.ok.mod.mz hk (aB (d pos a s v H _ I h) λus w ⟨vs,H1,I1,r,q⟩=>⟨I1.eL,?_⟩) j c
 exact vd F u g i hx I1 r q
theorem T1(F:eW X.prog X.w X.K X.mg X.base CX k f fd ps sp)(j:aN k X.A)(g:Gl X x)(i:X.mg x=some (.ref f))(hk:PySem.W.keepIn X.K (.ref f)=true)(c:Binds X.K fd ps ds)(d:Vals dvs ds)(hx:Passes CX X E)
 (a:(x==("__debug__":Str))=false:=by decide):PE X (.Call (.Name x p) [] [] pos) (Kx sp dvs E yZ):=by
 intro b s l H Q I h;refine wpAny_Call_Name_kw (qj I g i ?_ a);exact PySem.W.callWith_K0 I.eL hk (vd (us:=[]) F j c d hx I .nil h)
theorem U7{pl:Sem Bool}(D:PE X o ta)(c:cZ X.K C)(j:Meth X.K C m f)(F:eW X.prog X.w X.K X.mg X.base CX k f fd ps sp)(J:aN k X.A)(z:Binds X.K fd ps ds)(A:Vals dvs ds)(hx:Passes CX X E)(y:PA X (e::es) t)
 (g:starEach (e::es) X.env=(false,eval e X.env)::starEach es X.env:=by rfl) (d:(backTo pos (starEach es X.env)).any (·.1)=false:=by rfl)
 (L:eval (.Call (.Attribute o m apos) (e::es) [] pos) X.env=(do
  let n<-eval o X.env
  standAt apos.atName
  let(f,first) <-holding [n] (getMethod n m pl)
  callWith pos f first (backTo pos (starEach (e::es) X.env)) (backToKw pos (keywordEach [] X.env))):=by rfl):
 PE X (.Call (.Attribute o m apos) (e::es) [] pos) (Bt C m sp dvs E ta t):=by
 intro b s v H Q I h;refine PySem.W.methodCall_KW (pl:=pl) (aB (D b s v H _ I h) λu N O=>?_) L;obtain⟨x,H1,i,M,a,R,U,ex,w,l,q⟩:=O
 subst ex;obtain rfl:u=Value.ref a:=M;refine GA i w c j l ?_;refine zE (first:=[.ref a]) (h₀:=X.base) I.ok.mod.mz j.kp (aB (y pos b N v H1 _ i q) λus W ⟨vs,H2,I2,r,q2⟩=>⟨I2.eL,?_⟩) g d
 exact vd (us:=.ref a::us) (vs:=.ref a::vs) F J z A hx I2 (.cons rfl r) q2
theorem TN{pl:Sem Bool}(v:PE X o ta)(c:cZ X.K C)(g:Meth X.K C m f)(F:eW X.prog X.w X.K X.mg X.base CX k f fd ps sp)(w:aN k X.A)(n:Binds X.K fd ps ds)(r:Vals dvs ds)(hx:Passes CX X E)
 (y:eval (.Call (.Attribute o m apos) [] [] pos) X.env=(do
  let i<-eval o X.env
  standAt apos.atName
  let(f,first) <-holding [i] (getMethod i m pl)
  callWith pos f first (backTo pos (starEach [] X.env)) (backToKw pos (keywordEach [] X.env))):=by rfl):
 PE X (.Call (.Attribute o m apos) [] [] pos) (Bt C m sp dvs E ta yZ):=by
 intro b s D H Q I h;refine PySem.W.methodCall_KW (pl:=pl) (aB (v b s D H _ I h) λu M A=>?_) y;obtain⟨x,H1,d,z,a,J,L,ex,j,l,q⟩:=A
 subst ex;obtain rfl:u=Value.ref a:=z;refine GA d j c g l ?_;exact PySem.W.callWith_K0 (first:=[.ref a]) d.eL g.kp (vd (us:=[.ref a]) (vs:=[.ref a]) F w n r hx d (.cons rfl .nil) q)
structure Mk(K:ag)(C f:Addr):Prop where
 makes:PySem.W.makesIn K C=true
 init:PySem.W.findIn K (.ref C) "__init__" =some (some (.ref f))
 fn:PySem.W.isFn K (.ref f)=true
 kp:PySem.W.keepIn K (.ref C)=true
theorem HN{s:Shared}{us:az}{vs:LV}(M:Mk X.K C f)(F:eW X.prog X.w X.K X.mg X.base CX k f fd ps sp)(z:aN (k+1) X.A)(n:Binds X.K fd ps ds)(w:Vals dvs ds)
 (hx:Passes CX X E) (I:Inv X pins σ H s) (r:Vals vs us)
 (h:∀x c,H x=none->H c=none->c≠x->sp (.ref x::(vs++dvs)) (upd (upd H c (.own x)) x (.ins C c [])) (λv j=>v= .aq/\Q (.ref x) j) E):
 wpAny (model X.prog X.w) X.A (call (.ref C) us) (EP X pins σ Q) X.xe s:=by
 have d:=h (s.heap.objs.size+1) s.heap.objs.size (I.av.fresh (Nat.le_succ _)) (I.av.fresh (aU _)) (cX (sS _));have b:=Inv.made (C:=C) I;have g:Vals (V.ref (s.heap.objs.size+1)::(vs++dvs)) (Value.ref (s.heap.objs.size+1)::(us++ds)):=.cons rfl (r.append w);have y:(Value.ref (s.heap.objs.size+1)::us++ds).length=ps.length:=by
  have e:=g.length;rw[F.len _ _ _ _ d]at e;exact e.symm
 refine wpAny_call (Td (f:=f) I.eL M.makes M.init (fM.mp M.fn) (codeAny_mono (F.run _ X.stack _ _ ⟨Value.ref (s.heap.objs.size+1)::us,[]⟩ (Value.ref (s.heap.objs.size+1)::(us++ds)) _ _ E (z.make C us [])
  (b.tJ.make C us []) (n _ (Value.ref (s.heap.objs.size+1)::us) b.eL y) g d) λr D a=>?_))
 cases r with
 |error e=>exact hx pins σ _ _ e D b a
 |ok fl=>
  cases fl with
  |ret u=>
   obtain⟨v,i,l,rv,ev,A⟩:=b.after a;subst ev;exact⟨rv,⟨V.ref (s.heap.objs.size+1),i,l,rfl,A⟩⟩
  |next=>exact False.elim a
  |brk=>exact False.elim a
  |cont=>exact False.elim a
theorem U8(M:Mk X.K C f)(F:eW X.prog X.w X.K X.mg X.base CX k f fd ps sp)(u:aN (k+1) X.A)(l:Gl X x)(n:X.mg x=some (.ref C))(g:Binds X.K fd ps ds)(i:Vals dvs ds)(hx:Passes CX X E)
 (d:PA X (e::es) t) (b:(x==("__debug__":Str))=false:=by decide) (j:starEach (e::es) X.env=(false,eval e X.env)::starEach es X.env:=by rfl) (c:(backTo pos (starEach es X.env)).any (·.1)=false:=by rfl):
 PE X (.Call (.Name x p) (e::es) [] pos) (Kw C sp dvs E t):=by
 intro a s v H Q I h;refine wpAny_Call_Name_kw (qj I l n ?_ b);refine zE (h₀:=X.base) I.ok.mod.mz M.kp (aB (d pos a s v H _ I h) λus w ⟨vs,H1,I1,r,q⟩=>⟨I1.eL,?_⟩) j c
 exact HN M F u g i hx I1 r q
theorem TQ(M:Mk X.K C f)(F:eW X.prog X.w X.K X.mg X.base CX k f fd ps sp)(j:aN (k+1) X.A)(g:Gl X x)(i:X.mg x=some (.ref C))(c:Binds X.K fd ps ds)(d:Vals dvs ds)(hx:Passes CX X E)
 (a:(x==("__debug__":Str))=false:=by decide):PE X (.Call (.Name x p) [] [] pos) (Kw C sp dvs E yZ):=by
 intro b s l H Q I h;refine wpAny_Call_Name_kw (qj I g i ?_ a);exact PySem.W.callWith_K0 I.eL M.kp (HN (us:=[]) M F j c d hx I .nil h)
end
structure rO(N P:aE)(sc:Scope):Prop where
 kind:sc.kind= .function
 co:sc.isCoroutine=false
 gen:sc.isGenerator=false
 nd:N.Nodup
 pre:N.take P.length=P
 par:∀x∈P,sc.names.lookup x=some .local∨sc.names.lookup x=some .cell
 pX:∀y∈sc.names,y.2≠.free
theorem Hu{b:Str->Option NameKind}{x:Str}:∀{a:List (Str×Value)} {m:bC},(∀v,(x,v)∉a)->bindL b a m x=m x
 | [],_,_=>rfl
 |(n,v)::r,m,h=>by
  unfold bindL;rw[Hu λw c=>h w (gJ _ c)]
  split
  . have:x≠n:=by rintro rfl;exact h v iH
    simp[this]
  . rfl
theorem Hw{b:Str->Option NameKind}{x:Str}:∀{a:List (Str×Value)} {m:bC},(∀v,(x,v)∉a)->bindC b a m x=m x
 | [],_,_=>rfl
 |(n,v)::r,m,h=>by
  unfold bindC;rw[Hw λw c=>h w (gJ _ c)]
  split
  . rfl
  . have:x≠n:=by rintro rfl;exact h v iH
    simp[this]
theorem Hv{a:Str->Option NameKind}{x:Str}{v:Value}:∀{P:aE} {vs:az} {i:Nat} {m:bC},P.Nodup->P[i]? =some x->vs[i]? =some v->a x=some .local->
 bindL a (P.zip vs) m x=some v
 | [],_,_,_,_,h,_,_=>by simp at h
 |_::_,[],_,_,_,_,h,_=>by simp at h
 |p::P,w::vs,0,m,nd,h1,h2,hk=>by
  simp at h1 h2;subst h1;subst h2;show bindL a ((p,w)::P.zip vs) m p=_;unfold bindL;rw[Hu λv b=>(ip.mp nd).1 (List.of_mem_zip b).1,ai hk]
  simp
 |p::P,w::vs,i+1,m,nd,h1,h2,hk=>by
  show bindL a ((p,w)::P.zip vs) m x=_;unfold bindL;exact Hv (i:=i) (ip.mp nd).2 (by simpa using h1) (by simpa using h2) hk
theorem Hf{a:Str->Option NameKind}{x:Str}{v:Value}:∀{P:aE} {vs:az} {i:Nat} {m:bC},P.Nodup->P[i]? =some x->vs[i]? =some v->a x≠some .local->
 bindC a (P.zip vs) m x=some v
 | [],_,_,_,_,h,_,_=>by simp at h
 |_::_,[],_,_,_,_,h,_=>by simp at h
 |p::P,w::vs,0,m,nd,h1,h2,hk=>by
  simp at h1 h2;subst h1;subst h2;show bindC a ((p,w)::P.zip vs) m p=_;unfold bindC;rw[Hw λv b=>(ip.mp nd).1 (List.of_mem_zip b).1,ae hk]
  simp
 |p::P,w::vs,i+1,m,nd,h1,h2,hk=>by
  show bindC a ((p,w)::P.zip vs) m x=_;unfold bindC;exact Hf (i:=i) (ip.mp nd).2 (by simpa using h1) (by simpa using h2) hk
def start(N:aE)(vs:LV):St:=vs.map some++List.replicate (N.length-vs.length) none
noncomputable def oj (CX:ni)(P:Program)(w:World)(K:ag)(mg:bC)(base:Heap)(N:aE)(qual:Str)(scope:Scope)(f:Addr)(cd:Value)(A:Around)(outer:List Env)(s:Shared)(H:Hp)(E:XK):Cx where
 prog:=P
 w:=w
 K:=K
 mg:=mg
 base:=base
 A:=A.deeper (envOfC qual scope s.heap.objs.size f cd)
 N:=N
 s₀:=s
 H₀:=H
 env:=envOfC qual scope s.heap.objs.size f cd
 outer:=outer
 stack:=envOfC qual scope s.heap.objs.size f cd::outer
 ex:=[]
 calm:=true
 fn:=λ_=>true
 pn:=[]
 xe:=λe s'=>wpAny (model P w) (A.deeper (envOfC qual scope s.heap.objs.size f cd)) (leaving (envOfC qual scope s.heap.objs.size f cd) e) (λ_ s''=>CX outer H s E e s'') (λe' s''=>CX outer H s E e' s'') s'
theorem Ii{sc:Scope}{n:Nat}{x:Str}(h:sc.names.lookup x=some .cell):∃c,(cellsFrom n sc.names []).lookup x=some c:=by
 have q:=PySem.W.cellsFrom_some sc.names n [] (.inl h);exact zB.mp q
theorem R5{P:Program}{K:ag}{cd:Value}{A:Around}{s s1:Shared}{us:az}{vs:LV}
 (S:rO N ps scope) (F:A.handled=none) (e0:gZ P w K mg base A outer s H) (L:vs.length=ps.length) (r:Vals vs us)
 (x:InCallC s s.heap.objs.size (bindL (envOfC qual scope s.heap.objs.size f cd).kindOf (ps.zip us) λ_=>none) (cellsFrom (s.heap.objs.size+1) scope.names []) (bindC (envOfC qual scope s.heap.objs.size f cd).kindOf (ps.zip us) λ_=>none) s1):
 Inv (oj CX P w K mg base N qual scope f cd A outer s H E) [] (start N vs) H s1:=by
 have I:ps.length<=N.length:=by have:=congrArg List.length S.pre;rw[List.length_take]at this;omega
 obtain⟨o,tk,rfl,t⟩:=x.done;have j:∀b:Addr,b∉(oj CX P w K mg base N qual scope f cd A outer s H E).ex:=λb z=>aW (show b∈([]:List Addr)from z) (by simp)
 refine⟨⟨e0.mod,S.kind,rfl,rfl,aU _,λy z c o d=>?_,λy g=>?_,λy c _ h=>?_,λ_=>F,Around.frames_deeper e0.frames,.inr ⟨rfl,rfl⟩,λb z=>aW z (j b),e0.bs,e0.jt,λb _ _=>j b,λb z=>aW z (j b),e0.eJ,e0.nz⟩,
  rfl,e0.bare,Un.kept t,⟨_,x.toInCall.ns,λi y v o d J=>?_⟩,λy c h=>⟨_,x.cell y c h⟩,e0.av.fresh (aU _),λy c h=>?_,λp l=>aW (show p∈([]:aJ)from l) (by simp),e0.av.kept t,?_⟩
 . exact name_of_addr x.apart (PySem.mem_of_lookup o) (PySem.mem_of_lookup d)
 . have g:scope.names.lookup y=some .cell∨scope.names.lookup y=some .free:=g
   rcases g with g|g
   . exact Ii g
   . exact aW rfl (S.pX _ (PySem.mem_of_lookup g))
 . exact oK (x.above y c (PySem.mem_of_lookup h))
 . have hi:i<vs.length:=by
    unfold start at d
    by_cases hi:i<vs.length
    . exact hi
    . rw[List.getElem?_append_right (by simpa using hi)]at d
      rw[List.getElem?_replicate]at d;split at d<;>cases d
   have D:vs[i]? =some v:=by
    unfold start at d;rw[qQ (by simpa using hi),gm]at d
    cases e:vs[i]? with
    |none=>rw[e]at d;cases d
    |some a=>rw[e]at d;cases d;rfl
   obtain⟨u,C,rv⟩:=r.get D;have l:ps[i]? =some y:=by
    rw[<-S.pre,List.getElem?_take_of_lt (by omega)];exact o
   have m:ps.Nodup:=by rw[<-S.pre];exact S.nd.sublist (List.take_sublist _ _)
   refine⟨u,rv,?_⟩;rcases S.par y (kf l)with k|k
   . exact .inl ⟨k,Hv m l C k⟩
   . obtain⟨c,e⟩:=Ii (n:=s.heap.objs.size+1) k
     refine .inr ⟨.inl k,c,e,?_⟩;have q:=x.cell y c e;rw[Hf m l C (by show scope.names.lookup y≠_;rw[k];decide)]at q
     exact q
 . exact e0.av.fresh (oK (x.above y c (PySem.mem_of_lookup h)))
 . unfold start
   show _=N.length;rw[eF,bo,zD];omega
theorem Zd{P:Program}{K:ag}{f:Addr}{body:List Stmt}{dV kV doc pm cdv ct oc:Value}{an od:Option Addr} {sp:Sp} (lk:K.lookup f=some ⟨oc,od,.func (PySem.W.fnOf name qual params body scope dV kV doc pm an cdv ct),osl⟩) (hcd:PySem.W.codeIn K cdv qual=true) (S:rO N ps scope)
 (len:∀vs H Q E,sp vs H Q E->vs.length=ps.length)
 (hbody:∀(A:Around) (outer:List Env) (s:Shared) (H:Hp) (vs:LV) (Q:VK) (E:XK),aN k (A.deeper (envOfC qual scope s.heap.objs.size f cdv))->sp vs H Q E->
  ∃t,gB (oj CX P w K mg base N qual scope f cdv A outer s H E) body t/\t { nx:=λ_ H'=>Q .aq H',rt:=Q } (start N vs) H):
 eW P w K mg base CX (k+1) f (PySem.W.fnOf name qual params body scope dV kV doc pm an cdv ct) ps sp:=by
 refine⟨len,λA outer s H args us vs Q E hr e0 hb r hsp=>?_⟩
 have hl:=len _ _ _ _ hsp;have KX:K.In s.heap:=e0.mod.mz.keeps λb o e=>(e0.bs b o e).1
 have lim:s.heap.NoLimit:=e0.mod.nolimit.keeps λb o e=>(e0.bs b o e).1
 have bM:∀y∈ps.zip us,scope.names.lookup y.1=some .local∨(scope.names.lookup y.1=some .cell/\((cellsFrom (s.heap.objs.size+1) scope.names []).lookup y.1).isSome=true):=λ⟨n,v⟩ hy=>by
  rcases S.par n (List.of_mem_zip hy).1 with q|q
  . exact .inl q
  . exact .inr ⟨q,PySem.W.cellsFrom_some _ _ _ (.inl q)⟩
 refine codeAny_call_function hr.depth (KX _ _ lk) rfl S.co S.gen rfl (PySem.W.codeRec_of KX hcd) (hb _ _ _ _ ?_);refine wpAny_newFunctionEnv_cells S.kind bM λenv he s1 x=>?_
 subst he;refine⟨lim.keeps x.toInCall.keep,codeAny_func ?_⟩;obtain⟨t,ht,hq⟩:=hbody A outer s H vs Q E (hr.deeper _) hsp;have I:Inv (oj CX P w K mg base N qual scope f cdv A outer s H E) [] (start N vs) H s1:=R5 S hr.hd e0 hl r x;refine ir (ht [] s1 (start N vs) H _ I hq) (λfl s' hs=>?_) λe s' hs=>hs
 have fin:∀{σ':St} {H':Hp} {v:V} {u:Value},Inv (oj CX P w K mg base N qual scope f cdv A outer s H E) [] σ' H' s'->RelV v u->Q v H'->CE outer P w H s Q u s':=
  λ{σ' H' v u} J rv q=>⟨v,H',J.os,J.bare,J.base,J.av,rv,q⟩
 cases fl with
 |ret u=>
  obtain⟨v,σ',H',J,rv,q⟩:=hs;exact fin J rv q
 |next=>
  obtain⟨σ',H',J,q⟩:=hs;exact fin (v:=V.aq) (u:=Value.none) J rfl q
 |brk=>
  obtain⟨_,_,_,q⟩:=hs;exact False.elim q
 |cont=>
  obtain⟨_,_,_,q⟩:=hs;exact False.elim q
section
variable {X:Cx}{x:Str}{p pos:Pos}{e:Expr}{es:aV}{t:TA}{id T:String}{r:LV->Hp->VK->Prop}
def Cd(r:LV->Hp->VK->Prop)(t:TA):TE:=λσ H Q=>t σ H λvs H1=>r vs H1 Q
theorem TZ(g:dm X (.builtin id) r)(j:Gl X x)(k:X.mg x=none)(m:bootBuiltins x=some (.builtin id))(f:PA X (e::es) t)(l:x≠"__name__":=by decide)(b:(x==("__debug__":Str))=false:=by decide)
 (i:starEach (e::es) X.env=(false,eval e X.env)::starEach es X.env:=by rfl) (c:(backTo pos (starEach es X.env)).any (·.1)=false:=by rfl):PE X (.Call (.Name x p) (e::es) [] pos) (Cd r t):=by
 intro a s d H Q I h;refine wpAny_Call_Name_kw (nN I j k m ?_ l b);exact PyProof.Rows.callWith_builtin1 (aB (f pos a s d H _ I h) λus n ⟨vs,H1,I1,r1,q1⟩=>g a n d H1 vs us Q I1 r1 q1) i c
theorem R8(g:dm X (.type T) r)(j:Gl X x)(k:X.mg x=none)(m:bootBuiltins x=some (.type T))(f:PA X (e::es) t)(l:x≠"__name__":=by decide)(b:(x==("__debug__":Str))=false:=by decide)
 (i:starEach (e::es) X.env=(false,eval e X.env)::starEach es X.env:=by rfl) (c:(backTo pos (starEach es X.env)).any (·.1)=false:=by rfl):PE X (.Call (.Name x p) (e::es) [] pos) (Cd r t):=by
 intro a s d H Q I h;refine wpAny_Call_Name_kw (nN I j k m ?_ l b);exact wu (aB (f pos a s d H _ I h) λus n ⟨vs,H1,I1,r1,q1⟩=>g a n d H1 vs us Q I1 r1 q1) i c
end
end L2
namespace HT
open PySem PyProof.Rows
section
variable {prog:Program}{w:World}{A:Around}{E:aX}{s:Shared}
theorem kr{t b:Addr}{vs ws:az}{Q:aX}(ht:IsTup s.heap t vs.toArray)(hb:IsTup s.heap b ws.toArray)(hv:vs≠[])
 (h1:ws= []->Q (.ref t) s) (h2:ws≠[]->Q (.ref s.heap.objs.size) { s with heap:=s.heap.push { cls:=.type "tuple",data:=.seq (vs++ws).toArray } })
 (hsz:vs.length+ws.length<=sizeLine):wpAny (model prog w) A (binaryOp .Add (.ref t) (.ref b)) Q E s:=by
 obtain⟨⟨cls,dd,data,sl⟩,ho,hc,n,hd⟩:=id ht;obtain⟨⟨cls2,dd2,data2,sl2⟩,ho2,hc2,n2,hd2⟩:=id hb;simp only at hc hd hc2 hd2;subst hc hd hc2 hd2;have e:vs.toArray++ws.toArray=(vs++ws).toArray:=by simp
 by_cases hw:ws= []
 . exact concat_meets ⟨_,ho,rfl⟩ ⟨_,ho2,rfl⟩ noFill_tuple_add seq_tuple_add PySem.F.slot_tuple_add PySem.F.entry_tuple_add (PySem.F.args_tuple_add_2 _ _)
    (tuple_addW1 t b vs.toArray ws.toArray n n2 dd dd2 sl sl2 (by simpa using hv) (by simp[hw])) ⟨ho,ho2,h1 hw⟩
 . refine concat_meets ⟨_,ho,rfl⟩ ⟨_,ho2,rfl⟩ noFill_tuple_add seq_tuple_add PySem.F.slot_tuple_add PySem.F.entry_tuple_add (PySem.F.args_tuple_add_2 _ _)
    (tuple_addW2 t b vs.toArray ws.toArray n n2 dd dd2 sl sl2 (by simpa using hv) (by simpa using hw) (by rw[fx,fx];exact hsz)) ⟨ho,ho2,?_⟩
   rw[e];exact h2 hw
noncomputable def aQ(n d:Nat):Option Int->Nat
 |none=>d
 |some v=>if v<0 then(v+(n:Int)).toNat else min v.toNat n
theorem jQ(n d):aQ n d none=d:=rfl
theorem gf(n d k:Nat):aQ n d (some (k:Int))=min k n:=by
 show(if(k:Int)<0 then((k:Int)+(n:Int)).toNat else min (k:Int).toNat n)=min k n
 rw[ae (by omega),wq]
theorem Wh(n d:Nat)(b:d<=n)(o:Option Int):aQ n d o<=n:=by
 cases o with
 |none=>exact b
 |some v=>
  show(if v<0 then(v+(n:Int)).toNat else min v.toNat n)<=n
  by_cases a:v<0
  . rw[ai a];omega
  . rw[ae a];exact Nat.min_le_right _ _
theorem I0(v:Int)(n d:Nat):(if v<0 then max (v+(n:Int)) 0 else min v (n:Int))=((aQ n d (some v):Nat):Int):=by
 show(if v<0 then max (v+(n:Int)) 0 else min v (n:Int))=(((if v<0 then(v+(n:Int)).toNat else min v.toNat n):Nat):Int)
 by_cases a:v<0
 . simp only[ai a];omega
 . simp only[ae a];omega
theorem RN(a hi:Option Int)(n:Nat):Builtin.Slice.sliceAdjust a hi 1 (n:Int)=(((aQ n 0 a:Nat):Int),((aQ n n hi:Nat):Int)):=by
 have b:¬((1:Int)<0):=by omega
 unfold Builtin.Slice.sliceAdjust;simp only[b,if_false];refine Prod.ext ?_ ?_
 . cases a with
   |none=>rfl
   |some v=>exact I0 v n 0
 . cases hi with
   |none=>rfl
   |some v=>exact I0 v n n
theorem QU(i j:Nat):Builtin.Slice.slicePlaces (i:Int) (j:Int) 1=j-i:=by
 unfold Builtin.Slice.slicePlaces;have a:(1:Int) > 0:=by omega
 simp only[a,if_true,Int.ediv_one];split<;>omega
theorem Gr{v:Value}(p:IsPart v o)(h:Q o s):wpAny (model prog w) A (Builtin.Slice.slicePartIndex v) Q E s:=by
 cases p with
 |none=>exact slicePart_none h
 |int i t=>exact slicePart_int h
theorem FJ{sl:Addr}{a hi:Option Int}{n:Nat}(hs:s.heap.IsSliceOf sl vl vu .none)(pl:IsPart vl a)(pu:IsPart vu hi)
 (h:Q (((aQ n 0 a:Nat):Int),1,aQ n n hi-aQ n 0 a) s):wpAny (model prog w) A (Builtin.Slice.sliceApplied (.ref sl) (pure (n:Int))) Q E s:=by
 obtain⟨e,c,d,b⟩:=id hs;unfold Builtin.Slice.sliceApplied Builtin.Slice.sliceFields;refine ah (ah (wpAny_field c b (x:=vl) rfl (ah (wpAny_field c b (x:=vu) rfl (ah (wpAny_field c b (x:=.none) rfl (aD ?_)))))));refine ah (slicePart_none ?_);show wpAny _ _ (if((1:Int)==0)=true then _ else _) _ _ s
 rw[ae (by decide)]
 refine ah (Gr pl (ah (Gr pu (ah (aD ?_)))));show wpAny _ _ (match Builtin.Slice.sliceAdjust a hi 1 (n:Int)with|(a,hi)=>pure (a,(1:Int),Builtin.Slice.slicePlaces a hi 1)) _ _ s
 rw[RN a hi n];show wpAny _ _ (pure (((aQ n 0 a:Nat):Int),(1:Int),Builtin.Slice.slicePlaces ((aQ n 0 a:Nat):Int) ((aQ n n hi:Nat):Int) 1)) _ _ s;rw[QU];exact aD h
theorem TL(xs:Array Value)(i k:Nat):((List.range k).filterMap λ(m:Nat)=>xs[((i:Int)+(m:Int)*1).toNat]?).toArray=((xs.toList.drop i).take k).toArray:=by
 have e:(λ(m:Nat)=>xs[((i:Int)+(m:Int)*1).toNat]?)=λm=>xs[i+m]?:=by
  funext m;have:((i:Int)+(m:Int)*1).toNat=i+m:=by omega
  rw[this]
 rw[e];have:=pick_run xs i k;rw[List.filterMap_map]at this;have a:((λx=>xs[x]?) ∘ λx=>i+x)=λm=>xs[i+m]?:=rfl
 rw[a]at this;rw[this]
theorem dM{t sl:Addr}{b hi:Option Int}(c:IsTup s.heap t items)(hs:s.heap.IsSliceOf sl vl vu .none)(pl:IsPart vl b)(pu:IsPart vu hi)
 (j:¬(aQ items.size 0 b=0/\aQ items.size items.size hi=items.size))
 (h:Q (.ref s.heap.objs.size) { s with heap:=s.heap.push { cls:=.type "tuple",data:=.seq ((items.toList.drop (aQ items.size 0 b)).take (aQ items.size items.size hi-aQ items.size 0 b)).toArray } })
 (hsz:items.size<=sizeLine):wpAny (model prog w) A (getItem (.ref t) (.ref sl)) Q E s:=by
 have a:sizeOk (.seq ((items.toList.drop (aQ items.size 0 b)).take (aQ items.size items.size hi-aQ items.size 0 b)).toArray):=by
  show((items.toList.drop (aQ items.size 0 b)).take (aQ items.size items.size hi-aQ items.size 0 b)).toArray.size<=sizeLine;rw[fx,List.length_take,List.length_drop,Array.length_toList];omega
 have l:aQ items.size items.size hi<=items.size:=Wh _ _ (aU _) hi;obtain⟨k,g,e,i⟩:=id hs;have d:s.TypeIs (.ref sl) "slice":=⟨k,g,e⟩;unfold getItem
 try with_reducible refine kq ?_
 first|refine ah (aD ?_)|skip
 refine ah (wpAny_sequenceKey c.typeIs (by decide) ?_)
 refine ah (wpAny_callSpecial?_slot (name:=Str.ofString "__getitem__") c.typeIs zH
  (ja zH c.typeIs entry_tuple_getitem ?_ (args_tuple_getitem _ _)))
 show wpAny _ _ (Builtin.Tuple.tupleItemsOf (.ref t) >>= _) _ _ s;refine ah (tupleItemsOf_ c ?_);refine ah (wpAny_typeOf d ?_);rw[ai (by decide)]
 refine ah (FJ hs pl pu ?_);have f:¬((((aQ items.size 0 b:Nat):Int)==0&&(1:Int)==1&&(aQ items.size items.size hi-aQ items.size 0 b)==items.size)=true):=by
  intro q;rw[bg,bg]at q;have n:((aQ items.size 0 b:Nat):Int)=0:=gA q.1.1;have o:aQ items.size items.size hi-aQ items.size 0 b=items.size:=gA q.2;exact j ⟨by omega,by omega⟩
 show wpAny _ _ (if(((aQ items.size 0 b:Nat):Int)==0&&(1:Int)==1&&(aQ items.size items.size hi-aQ items.size 0 b)==items.size)=true then _ else _) _ _ s
 rw[ae f,TL]
 first
  |exact ah (m:=Builtin.Tuple.tupleExact _) (i9 (aD ⟨_,rfl,aD h⟩) a)
  |exact ah (m:=Builtin.Tuple.tupleExact _) (i9 (ah (aD (aD ⟨_,rfl,aD h⟩))) a)
  |exact ah (ah (m:=Builtin.Tuple.tupleExact _) (i9 (aD (aD ⟨_,rfl,aD h⟩)) a))
  |exact ah (ah (m:=Builtin.Tuple.tupleExact _) (i9 (aD ⟨_,rfl,aD h⟩) a))
end
end HT
namespace L2
open PySem PySem.Spec PyProof.Rows
abbrev TO:=St->Hp->(Option Int->Hp->Prop)->Prop
def PO(X:Cx)(e:Option Expr)(t:TO):Prop:=
 ∀(a:aJ) (s:Shared) (σ:St) (H:Hp) (Q:Option Int->Hp->Prop),Inv X a σ H s->t σ H Q->
  wpAny (model X.prog X.w) X.A (evalPart e X.env) (λu c=>∃o b,Inv X a σ b c/\IsPart u o/\Q o b) X.xe s
def US:TO:=λ_ H Q=>Q none H
def X8(t:TE):TO:=λσ H Q=>t σ H λx H1=>∃i,x= .int i/\Q (some i) H1
section
variable {X:Cx}{e:Expr}{te:TE}{lo hi:Option Expr}{tl th:TO}{pos p2:Pos}
theorem Us:PO X none US:=by
 intro a s b H Q I h;rw[evalPart_none];exact aD ⟨none,H,I,.none,h⟩
theorem Ur(h:PE X e te):PO X (some e) (X8 te):=by
 intro a s g H Q I c;rw[evalPart_some];refine aB (h a s g H _ I c) λu j f=>?_;obtain⟨x,H1,b,r1,d⟩:=f
 obtain⟨i,rfl,q⟩:=d;obtain⟨t,rfl⟩:=r1;exact⟨some i,H1,b,.int i t,q⟩
def wH(X:Cx)(r:V->Option Int->Option Int->Hp->VK->Prop):Prop:=
 ∀(a:aJ) (s:Shared) (σ:St) (H:Hp) (x:V) (v vl vu:Value) (lo hi:Option Int) (sl:Addr) (Q:VK),Inv X a σ H s->RelV x v->s.heap.IsSliceOf sl vl vu .none->IsPart vl lo->IsPart vu hi->r x lo hi H Q->
  ∃T id,typeLookup (.type T) "__getitem__" =pure (some (.builtin id))/\s.TypeIs v T/\wpAny (model X.prog X.w) X.A (getItem v (.ref sl)) (EP X a σ Q) X.xe s
noncomputable def Z3 (r:V->Option Int->Option Int->Hp->VK->Prop)(te:TE)(tl th:TO):TE:=λσ H Q=>te σ H λx H1=>tl σ H1 λl H2=>th σ H2 λu H3=>r x l u H3 Q
theorem TM(hr:wH X r)(he:PE X e te)(hl:PO X lo tl)(hu:PO X hi th):PE X (.Subscript e (.Slice lo hi none p2) pos) (Z3 r te tl th):=by
 intro pins s σ H Q I h;refine Subscript_ (aB (he pins s σ H _ I h) λv s1 zz=>?_);obtain⟨x,H1,I1,r1,q1⟩:=zz
 refine wpAny_Slice (aB (hl pins s1 σ H1 _ I1 q1) λvl s2 ⟨l,H2,I2,pl,q2⟩=>aB (hu pins s2 σ H2 _ I2 q2) λvu s3 zz=>?_);obtain⟨u,H3,I3,pu,q3⟩:=zz
 rw[evalPart_none];refine aD ?_;have I4:Inv X pins σ H3 { s3 with heap:=s3.heap.push { cls:=.type "slice",data:=.fields #[vl,vu,.none] } }:=I3.kept (t':=s3.toks) λb ob q=>bK _ q
 obtain⟨T,id,hT,ht,hg⟩:=hr pins { s3 with heap:=s3.heap.push { cls:=.type "slice",data:=.fields #[vl,vu,.none] } } σ H3 x v vl vu l u s3.heap.objs.size Q I4 r1 (Heap.IsSliceOf.new ..) pl pu q3
 show wpAny (model X.prog X.w) X.A (subscriptTail e (.Slice lo hi none p2) v (.ref s3.heap.objs.size)) (EP X pins σ Q) X.xe { s3 with heap:=s3.heap.push { cls:=.type "slice",data:=.fields #[vl,vu,.none] } }
 exact tail_any (ops:=[.ref s3.heap.objs.size,v]) ht hT hg (by with_unfolding_all rfl)
noncomputable def om(xs:LV)(lo hi:Option Int):LV:=(xs.drop (HT.aQ xs.length 0 lo)).take (HT.aQ xs.length xs.length hi-HT.aQ xs.length 0 lo)
theorem Gw(xs)(lo hi:Option Int):(om xs lo hi).length<=xs.length:=by
 unfold om;rw[List.length_take,List.length_drop];omega
noncomputable def ON (K:ag):V->Option Int->Option Int->Hp->VK->Prop:=λx lo hi H Q=>∃a b,x= .ref a/\bZ K H a b/\
 ¬(HT.aQ b.length 0 lo=0/\HT.aQ b.length b.length hi=b.length)/\∀p,H p=none->Q (.ref p) (upd H p (.tup (om b lo hi)))
theorem V9:wH X (ON X.K):=by
 intro g s m H x v k l lo hi sl Q I j hs pl pu h;obtain⟨a,c,rfl,hx,i,q⟩:=h;cases j;obtain⟨ab,r,d,f⟩:=I.tuple hx;have b:ab.toArray.size=c.length:=by rw[fx];exact r.length.symm
 refine⟨"tuple",_,PyProof.Rows.slot_tuple_getitem.lookup,d.typeIs,?_⟩;refine HT.dM d hs pl pu (by rw[b];exact i) ?_ (by rw[b];exact f)
 rw[b];refine⟨.ref s.heap.objs.size,_,I.laid (t':=s.toks) (o:=.tup (om c lo hi)) (λb ob q=>bK _ q) (aU _) ?_,rfl,q _ (I.av.fresh (aU _))⟩
 exact⟨cq (Gw c lo hi) f,_,(r.drop (HT.aQ c.length 0 lo)).take (HT.aQ c.length c.length hi-HT.aQ c.length 0 lo),IsTup.new _ _⟩
noncomputable def Yx (K:ag):R2:=λx y H Q=>∃a b d c,x= .ref a/\y= .ref b/\bZ K H a d/\bZ K H b c/\d≠[]/\d.length+c.length<=sizeLine/\
 (c= []->Q (.ref a) H)/\(c≠[]->∀p,H p=none->Q (.ref p) (upd H p (.tup (d++c))))
theorem Vals.f9{us:az}(r:Vals xs us):us= []↔xs= []:=by
 cases r with
 |nil=>simp
 |cons _ _=>simp
theorem Vg:eI X (binaryOp .Add) (Yx X.K):=by
 intro g s A H x y v u Q I m n h;obtain⟨a,b,r,t,rfl,rfl,i,j,hx,d,k,l⟩:=h;cases m;cases n;obtain⟨ab,r1,p1,_⟩:=I.tuple i;obtain⟨f,c,p2,_⟩:=I.tuple j;refine HT.kr p1 p2 (λz=>hx (r1.f9.mp z)) (λz=>⟨.ref a,H,I,rfl,k (c.f9.mp z)⟩) (λz=>?_) (by rw[<-r1.length,<-c.length];exact d)
 refine⟨.ref s.heap.objs.size,_,I.laid (t':=s.toks) (o:=.tup (r++t)) (λb ob q=>bK _ q) (aU _) ?_,rfl,l (λw=>z (c.f9.mpr w)) _ (I.av.fresh (aU _))⟩
 exact⟨by rw[eF];exact d,_,r1.append c,IsTup.new _ _⟩
end
noncomputable def f7(n:Nat)(i:Int):Option Nat:=if 0<=i then(if i<n then some i.toNat else none)else if -(n:Int)<=i then some (i+n).toNat else none
def bQ(xs:List α)(i:Int):Option α:=(f7 xs.length i).bind λj=>xs[j]?
theorem IH{n:Nat}{i:Int}(h:f7 n i=some j):seqIndex? i n=some j/\j<n/\-(n:Int)<=i/\i<n:=by
 unfold f7 at h
 by_cases b:0<=i
 . rw[ai b]at h
   by_cases a:i<n
   . rw[ai a]at h
     have e:i.toNat=j:=d0 h;exact⟨by rw[seqIndex_of b a,e],by omega,by omega,a⟩
   . rw[ae a]at h;cases h
 . rw[ae b]at h
   by_cases a:-(n:Int)<=i
   . rw[ai a]at h
     have e:(i+n).toNat=j:=d0 h;exact⟨by rw[seqIndex_neg (by omega) a,e],by omega,a,by omega⟩
   . rw[ae a]at h;cases h
theorem A6{i:Int}{v:α}(h:bQ xs i=some v):∃j,seqIndex? i xs.length=some j/\xs[j]? =some v/\j<xs.length/\-(xs.length:Int)<=i/\i<xs.length:=by
 unfold bQ at h;cases e:f7 xs.length i with
 |none=>rw[e]at h;cases h
 |some j=>
  rw[e]at h;obtain⟨a,b,c,d⟩:=IH e;exact⟨j,a,h,b,c,d⟩
def Jf(b:Expr):Prop:=∀o i,subscripted b false o i=operate [o,i] (getItem o i)
def sX(X:Cx)(r:R2):Prop:=
 ∀c a b s d H x y v u Q,Inv X b d H s->RelV x v->RelV y u->r x y H Q->
  subscripted a false v u=operate [v,u] (getItem v u)->wpAny (model X.prog X.w) X.A (subscriptTail c a v u) (EP X b d Q) X.xe s
def Mo(X:Cx)(id:String)(r:V->LV->Hp->VK->Prop):Prop:=
 ∀a s c H x b v us Q,Inv X a c H s->RelV x v->Vals b us->r x b H Q->
  wpAny (model X.prog X.w) X.A (call (.builtin id) (v::us)) (EP X a c Q) X.xe s
section
variable {X:Cx}{a b:Expr}{ta tb:TE}{pos:Pos}
theorem YF(i:sX X r)(f:PE X a ta)(g:PE X b tb)(hs:Jf b):PE X (.Subscript a b pos) (sM r ta tb):=by
 intro c s m H Q I h;exact Subscript_ (BU f g I h λv u l x y d e j k q=>i a b c l m d x y v u Q e j k q (hs _ _))
def OS(K:ag):R2:=λx y H Q=>∃p c i v,x= .ref p/\y= .int i/\dE K H p c/\bQ c i=some v/\Q v H
def OQ(K:ag):R2:=λx y H Q=>∃p c i v,x= .ref p/\y= .int i/\bZ K H p c/\bQ c i=some v/\Q v H
def OR:R2:=λx y H Q=>∃z i c,x= .str z/\y= .int i/\z.length<=sizeLine/\bQ z.cps.toList i=some c/\Q (.str ⟨#[c]⟩) H
theorem IG:sX X (OS X.K):=by
 intro k g c s n H x y v u Q I J L h hs;obtain⟨p,R,i,z,rfl,rfl,F,D,q⟩:=h;cases J;obtain⟨t,rfl⟩:=L;obtain⟨ab,r,pl,O⟩:=I.list F;obtain⟨j,d,o,N,A,C⟩:=A6 D;obtain⟨w,l,f⟩:=r.get o;have E:=r.length;have hn:=rU;have fin:EP X c n Q w s:=⟨z,H,I,f,q⟩
 by_cases m:0<=i
 . have e:i.toNat=j:=by
    rw[seqIndex_of m C]at d;exact d0 d
   exact item_listR pl.isList m (by omega) (by rw[e];simpa using l) fin hs
 . have e:(i+(ab.toArray.size:Int)).toNat=j:=by
    rw[seqIndex_neg (by omega) A]at d
    rw[fx,<-E];exact d0 d
   exact subscriptTail_builtinR (x:=w) pl.isList.typeIs slot_list_getitem.lookup
    (wpAny_getItem_list_neg (Q:=λr M=>r=w/\EP X c n Q r M) pl.isList (by omega) (by rw[fx]<;>omega) (by omega) (by rw[e];simpa using l) ⟨rfl,fin⟩) hs
theorem Wo:sX X (OQ X.K):=by
 intro f e c s g H x y v u Q I C D h hs;obtain⟨p,N,i,z,rfl,rfl,A,n,q⟩:=h;cases C;obtain⟨t,rfl⟩:=D;obtain⟨ab,r,pl,M⟩:=I.tuple A;obtain⟨j,l,m,F,J,L⟩:=A6 n;obtain⟨w,k,d⟩:=r.get m;have o:=r.length;have hn:=rU;have fin:EP X c g Q w s:=⟨z,H,I,d,q⟩;exact subscriptTail_builtinR (x:=w) pl.typeIs slot_tuple_getitem.lookup
  (getItem_tuple (j:=j) (Q:=λr E=>r=w/\EP X c g Q r E) pl (by omega) (by omega) (by rw[fx,<-o];exact l) (by simpa using k) ⟨rfl,fin⟩) hs
theorem Wq:sX X OR:=by
 intro e d g s F H x y v u Q I w A h hs;obtain⟨z,i,c,rfl,rfl,D,o,q⟩:=h;obtain⟨t,rfl⟩:=w;obtain⟨E,rfl⟩:=A;obtain⟨j,f,l,C,m,n⟩:=A6 o;have r:z.cps.toList.length=z.length:=by simp[Str.length]
 rw[r]at f m n;have hn:=rU;exact tail_any (typeIs_str s z t) slot_str_getitem.lookup (getItem_str (c:=c) (by
  have e1:decide (i< -(2 ^ 63:Int))=false:=iq (by omega)
  have k:decide (i ≥ 2 ^ 63)=false:=iq (by omega)
  rw[e1,k,Bool.or_false]) (by rw[f];simpa using l) ⟨.str ⟨#[c]⟩,H,I.tok _,⟨_,rfl⟩,q⟩) hs
theorem QW(ab:az)(n j)(u):Obj.mapSeq (·.setIfInBounds j u) { cls:=.type "list",data:=.seq ab.toArray n }= { cls:=.type "list",data:=.seq (ab.set j u).toArray n }:=by
 simp[Obj.mapSeq]
theorem Inv.lst{s:Shared}{p:Addr}(I:Inv X pins σ H s)(h:H p=some (.lst xs)):
 ∃(ab:az) (n:Nat),Vals xs ab/\s.heap.get? p=some { cls:=.type "list",data:=.seq ab.toArray n }/\xs.length<=sizeLine:=by
 obtain⟨z,ab,n,r,e⟩:=I.av p _ h;exact⟨ab,n,r,e,z⟩
theorem Inv.pU{s:Shared}{p:Addr}{ab its':az}{n c:Nat}(I:Inv X pins σ H s)(h:H p=some (.lst xs))
 (ho:s.heap.get? p=some { cls:=.type "list",data:=.seq ab.toArray n }) (d:f { cls:=.type "list",data:=.seq ab.toArray n }= { cls:=.type "list",data:=.seq its'.toArray c }) (r:Vals ys its') (hz:ys.length<=sizeLine) (t:Nat):
 Inv X pins σ (upd H p (.lst ys)) { s with heap:=s.heap.update p f,toks:=t }:=by
 have e:(s.heap.update p f).get? p=some { cls:=.type "list",data:=.seq its'.toArray c }:=by
  rw[Heap.get?_update_self f ho (by rw[d]<;>rfl),d]
 refine I.write (x:=p) (e:=p) (by rw[h];trivial) (.inl rfl) (λb u g q=>(Heap.get?_update_other _ _ (aY g)).trans q) ⟨_,e⟩ ?_
 exact⟨hz,its',c,r,e⟩
noncomputable def qx:V->V->V->Hp->(Hp->Prop)->Prop:=λo i v H Q=>∃p c k j,o= .ref p/\i= .int k/\H p=some (.lst c)/\f7 c.length k=some j/\Q (upd H p (.lst (c.set j v)))
theorem set_list:yX X qx:=by
 intro c s C H o i v E iv u Q I ro ri rv h;obtain⟨p,A,k,j,rfl,rfl,x,y,q⟩:=h;cases ro;obtain⟨t,rfl⟩:=ri;obtain⟨ab,n,r,ho,z⟩:=I.lst x;obtain⟨d,D,m,w⟩:=IH y;have f:=r.length;have hn:=rU;have g:Inv X c C (upd H p (.lst (A.set j v))) { s with heap:=s.heap.update p (Obj.mapSeq (·.setIfInBounds j u)) }:=
  I.pU x ho (QW ab n j u) (r.set rv j) (by rw[List.length_set];exact z) s.toks
 by_cases l:0<=k
 . have e:k.toNat=j:=by
    rw[seqIndex_of l w]at d;exact d0 d
   exact PySem.W.ki_setAt ho l (by omega) (by rw[fx,<-f];exact w) (by rw[e];exact⟨_,g,q⟩)
 . have e:(k+(ab.toArray.size:Int)).toNat=j:=by
    rw[seqIndex_neg (by omega) m]at d
    rw[fx,<-f];exact d0 d
   exact PySem.W.ki_setBack ho (by omega) (by rw[fx,<-f];exact m) (by omega) (by rw[e];exact⟨_,g,q⟩)
theorem Qc(c hi:Option Int)(n):(sliceBounds c hi none n).1=((HT.aQ n 0 c:Nat):Int)/\(sliceBounds c hi none n).2.1=((HT.aQ n n hi:Nat):Int)/\(sliceBounds c hi none n).2.2=1:=by
 refine⟨?_,?_,rfl⟩
 . cases c with
   |none=>simp[sliceBounds,HT.aQ]
   |some i=>
    simp only[sliceBounds,HT.aQ,Option.getD_none,show(1:Int) > 0 by decide,if_true]
    by_cases h:i<0
    . simp only[h,if_true]<;>omega
    . simp only[h,if_false]<;>omega
 . cases hi with
   |none=>simp[sliceBounds,HT.aQ]
   |some i=>
    simp only[sliceBounds,HT.aQ,Option.getD_none,show(1:Int) > 0 by decide,if_true]
    by_cases h:i<0
    . simp only[h,if_true]<;>omega
    . simp only[h,if_false]<;>omega
theorem PM(ab:az)(c hi:Option Int):slicePick ab.toArray c hi none=((ab.drop (HT.aQ ab.length 0 c)).take (HT.aQ ab.length ab.length hi-HT.aQ ab.length 0 c)).toArray:=by
 obtain⟨d,e,f⟩:=Qc c hi ab.toArray.size;unfold slicePick;rw[d,e,f];simp only[sliceRange_one,pick_run,fx]<;>rfl
noncomputable def OO (K:ag):V->Option Int->Option Int->Hp->VK->Prop:=λx d hi H Q=>∃a c,x= .ref a/\dE K H a c/\∀p,H p=none->Q (.ref p) (upd H p (.lst (om c d hi)))
theorem Uu:wH X (OO X.K):=by
 intro g s m H x v k l e hi sl Q I j hs pl pu h;obtain⟨a,c,rfl,hx,q⟩:=h;cases j;obtain⟨ab,r,f,i⟩:=I.list hx;have d:=r.length;refine⟨"list",_,slot_list_getitem.lookup,f.isList.typeIs,?_⟩;refine wpAny_getItem_list_slice f.isList hs pl pu .none (by simp) ?_ (by rw[fx]<;>omega)
 rw[PM,<-d];refine⟨.ref s.heap.objs.size,_,I.laid (t':=s.toks) (o:=.lst (om c e hi)) (λb ob q=>bK _ q) (aU _) ?_,rfl,q _ (I.av.fresh (aU _))⟩
 exact⟨cq (Gw c e hi) i,_,0,(r.drop (HT.aQ c.length 0 e)).take (HT.aQ c.length c.length hi-HT.aQ c.length 0 e),dJ _ rfl⟩
theorem Al:dm X (.builtin "len") (λxs H Q=>∃p ys,xs= [.ref p]/\(dE X.K H p ys∨bZ X.K H p ys)/\Q (.int ys.length) H):=by
 intro pins s σ H xs us Q I r h;obtain⟨p,ys,rfl,hq,q⟩:=h;obtain⟨u,rfl,rx⟩:=vals1 r;cases rx;have hn:=rU;rcases hq with hq|hq
 . obtain⟨ab,r',pl,hz⟩:=I.list hq
   have hlen:=r'.length;exact Calls.call_len_list pl.isList (by simp only[fx]<;>omega) ⟨.int ys.length,H,I.tok _,⟨s.toks+1,by rw[fx,hlen]⟩,q⟩
 . obtain⟨ab,r',pl,hz⟩:=I.tuple hq
   have hlen:=r'.length;exact len_tuple pl (by simp only[fx]<;>omega) ⟨.int ys.length,H,I.tok _,⟨s.toks+1,by rw[fx,hlen]⟩,q⟩
theorem Qv:dm X (.builtin "len") (λxs H Q=>∃z,xs= [.str z]/\z.length<=sizeLine/\Q (.int z.length) H):=by
 intro pins s σ H xs us Q I r h;obtain⟨z,rfl,hz,q⟩:=h;obtain⟨u,rfl,t,rfl⟩:=vals1 r;have hn:=rU;exact len_str (by omega) ⟨.int z.length,H,I.tok _,⟨_,rfl⟩,q⟩
theorem Qu:dm X (.type "list") (λxs H Q=>∃p ys,xs= [.ref p]/\(dE X.K H p ys∨bZ X.K H p ys)/\∀l,H l=none->Q (.ref l) (upd H l (.lst ys))):=by
 intro pins s σ H xs us Q I r h;obtain⟨p,ys,rfl,hq,q⟩:=h;obtain⟨u,rfl,rx⟩:=vals1 r;cases rx;have fin:∀(ab:az),Vals ys ab->ys.length<=sizeLine->∀(h':Heap) (c':Nat),(∀b o',s.heap.get? b=some o'->h'.get? b=some o')->
  h'.get? s.heap.objs.size=some { cls:=.type "list",dict:=none,data:=.seq ab.toArray c',slots:=#[] }->EP X pins σ Q (.ref s.heap.objs.size) { s with heap:=h' }:=λab r' hz h' c' kp e=>
  ⟨.ref s.heap.objs.size,_,I.laid (t':=s.toks) kp (aU _) (show aG X.prog X.w _ h' _ (.lst ys)from⟨hz,ab,c',r',e⟩),rfl,q _ (I.av.fresh (aU _))⟩
 rcases hq with hq|hq
 . obtain⟨ab,r',pl,hz⟩:=I.list hq
   have hlen:=r'.length;obtain⟨o,ho,hc,n,hd⟩:=pl.isList;exact call_list_seq p (.inl rfl) ho hc hd (λh' c' kp e=>fin ab r' hz h' c' kp e) (by simp only[fx]<;>omega)
 . obtain⟨ab,r',pl,hz⟩:=I.tuple hq
   have hlen:=r'.length;obtain⟨o,ho,hc,n,hd⟩:=pl;exact call_list_seq p (.inr rfl) ho hc hd (λh' c' kp e=>fin ab r' hz h' c' kp e) (by simp only[fx]<;>omega)
theorem Ap:dm X (.type "tuple") (λxs H Q=>∃p ys,xs= [.ref p]/\((dE X.K H p ys/\∀l,H l=none->Q (.ref l) (upd H l (.tup ys)))∨(bZ X.K H p ys/\Q (.ref p) H))):=by
 intro pins s σ H xs us Q I r h;obtain⟨p,ys,rfl,h⟩:=h;obtain⟨u,rfl,rx⟩:=vals1 r;cases rx;rcases h with⟨hq,q⟩|⟨hq,q⟩
 . obtain⟨ab,r',pl,hz⟩:=I.list hq
   have hlen:=r'.length;refine call_tuple_list pl.isList (λh' kp=>?_) (by simp only[fx]<;>omega)
   have I1:Inv X pins σ H { s with heap:=h' }:=I.kept (t':=s.toks) kp
   have I2:Inv X pins σ (upd H h'.objs.size (.tup ys)) { s with heap:=h'.push { cls:=.type "tuple",data:=.seq ab.toArray } }:=
    I1.laid (t':=s.toks) (λb o e=>bK _ e) (aU _) (show aG X.prog X.w _ _ _ (.tup ys)from⟨hz,ab,r',IsTup.new _ _⟩)
   exact⟨.ref h'.objs.size,_,I2,rfl,q _ (I1.av.fresh (aU _))⟩
 . obtain⟨ab,r',pl,hz⟩:=I.tuple hq
   exact call_tuple_same pl ⟨.ref p,H,I,rfl,q⟩
def Mf(K:ag)(T:String)(x:V)(H:Hp):Prop:=match x with
 | .str _=>T= "str"
 | .int _=>T= "int"
 | .ref p=>(T= "list"/\∃d,dE K H p d)∨(T= "tuple"/\∃o,K.lookup p=some o/\o.cls= .type "tuple"/\o.dict=none)∨
  (T= "dict"/\((∃c,H p=some (.dK c))∨∃c,H p=some (.dT c)))∨(T= "set"/\∃S n,H p=some (.set S n))
 |_=>False
theorem Vq{s:Shared}{T:String}{x:V}{v:Value}(I:Inv X pins σ H s)(r:RelV x v)(ty:Mf X.K T x H):
 s.TypeIs v T/\∀a,v= .ref a->∃ob,s.heap.get? a=some ob/\ob.dict=none:=by
 cases x with
 |str z=>
  obtain⟨t,rfl⟩:=r;cases(show T= "str" from ty)
  exact⟨typeIs_str s z t,λ_ e=>nomatch e⟩
 |int i=>
  obtain⟨t,rfl⟩:=r;cases(show T= "int" from ty)
  exact⟨typeIs_int s i t,λ_ e=>nomatch e⟩
 |ref p=>
  cases r;rcases ty with⟨rfl,l,k⟩|⟨rfl,o,d,j,g⟩|⟨rfl,d⟩|⟨rfl,S,n,d⟩
  . obtain⟨ab,_,pl,_⟩:=I.list k
    refine⟨pl.isList.typeIs,λa e=>?_⟩
    cases e;obtain⟨o,n,e,c,g,_⟩:=pl;exact⟨o,e,g⟩
  . refine⟨⟨o,I.eL p o d,j⟩,λa e=>?_⟩
    cases e;exact⟨o,I.eL _ o d,g⟩
  . have z:∃o,s.heap.get? p=some o/\o.ExactDict:=by
     rcases d with⟨h,d⟩|⟨h,d⟩
     . obtain⟨_,_,_,_,o,_,_,e,ex,_⟩:=I.av p _ d
       exact⟨o,e,ex⟩
     . obtain⟨_,_,_,_,o,_,_,e,ex,_⟩:=I.av p _ d
       exact⟨o,e,ex⟩
    obtain⟨o,e,ex⟩:=z;refine⟨⟨o,e,ex.1⟩,λa f=>?_⟩
    cases f;exact⟨o,e,ex.2.1⟩
  . obtain⟨o,_,_,_,e,ex,_⟩:=I.av p _ d
    refine⟨⟨o,e,ex.1⟩,λa f=>?_⟩
    cases f;exact⟨o,e,ex.2.1⟩
 |_=>exact False.elim ty
noncomputable def Z0 (K:ag)(T:String)(r:V->LV->Hp->VK->Prop)(to:TE)(t:TA):TE:=λσ H Q=>to σ H λx H1=>Mf K T x H1/\t σ H1 λxs H2=>r x xs H2 Q
variable {o e:Expr}{es:aV}{to:TE}{t:TA}{name:Str}{apos cpos:Pos}{T id:String}{r:V->LV->Hp->VK->Prop}
theorem YG(A:PlainAttrs T)(j:Slot T name id)(k:typeOf (.builtin id)=pure (.type "method_descriptor"))(z:Mo X id r)(ho:PE X o to)(y:PA X (e::es) t)
 (f:attributeBase o name X.env (eval o X.env)=eval o X.env:=by rfl)
 (i:((backTo cpos (starEach (e::es) X.env)).all (λx=>!x.1)&&(backToKw cpos (keywordEach [] X.env)).all (λx=>x.1.isSome)
  &&decide ((e::es).length+([]:List Keyword).length+(if([]:List Keyword).isEmpty then 0 else 1)<30))=true:=by rfl)
 (g:(apos.endLine==cpos.line)=true:=by rfl) (hs:starEach (e::es) X.env=(false,eval e X.env)::starEach es X.env:=by rfl) (d:(backTo cpos (starEach es X.env)).any (·.1)=false:=by rfl):
 PE X (.Call (.Attribute o name apos) (e::es) [] cpos) (Z0 X.K T r to t):=by
 intro c s l H Q I h;refine wpAny_Call_method_late f i g rfl (aB (ho c s l H _ I h) λv D F=>?_);obtain⟨x,H1,m,r1,ty,C⟩:=F
 obtain⟨u,w⟩:=Vq m r1 ty;refine⟨T,id,A,j,k,u,w,?_⟩;have n:=y cpos c D l H1 _ m C;rw[hs]at n ⊢;refine Calls.callWith_builtin (by show(false||(backTo cpos (starEach es X.env)).any (·.1))=false;rw[d]<;>rfl) (Calls.evalArgs_plain ?_)
 exact aB n λus E ⟨vs,H2,I2,r2,q2⟩=>z c E l H2 x vs v us Q I2 r1 r2 q2
end
def Mn(X:Cx)(id:String)(r:V->LV->Hp->VK->Prop):Prop:=
 ∀a s c H x b v us Q,Inv X a c H s->RelV x v->Vals b us->r x b H Q->
  wpAny (model X.prog X.w) X.A (call (.builtin id) (v::us)) (EP X a c Q) X.xe s
theorem Vals.one:∀{x:V} {us:az},Vals [x] us->∃u,us= [u]/\RelV x u
 |_,_,.cons r .nil=>⟨_,rfl,r⟩
theorem Vals.rep{us:az}(h:Vals xs us):∀k:Nat,Vals (List.replicate k xs).flatten (List.replicate k us).flatten
 |0=>.nil
 |k+1=>by
  rw[qU,qU,sR,sR];exact Vals.append h (Vals.rep h k)
theorem foldl_rep(ab:az):∀(k:Nat) (acc:az),
 List.foldl (λx1 x2=>x1++x2) acc.toArray (List.replicate k ab.toArray)=(acc++(List.replicate k ab).flatten).toArray
 |0,acc=>by simp
 |k+1,acc=>by
  have e:acc.toArray++ab.toArray=(acc++ab).toArray:=by simp
  have e2:(acc++ab)++(List.replicate k ab).flatten=acc++(List.replicate (k+1) ab).flatten:=by
   rw[qU,sR,List.append_assoc]
  rw[<-e2,<-foldl_rep ab k (acc++ab),<-e,qU,List.foldl_cons]
section
variable {X:Cx}{pins:aJ}{σ:St}{H:Hp}{s:Shared}{l b:Addr}{xs ys zs:LV}
theorem Inv.Ad{ab its':az}{n:Nat}(I:Inv X pins σ H s)(a:H l=some (.lst xs))
 (e:s.heap.get? l=some { cls:=.type "list",data:=.seq ab.toArray n }) (d:f ab.toArray=its'.toArray) (h:Vals ys its') (hz:ys.length<=sizeLine):
 Inv X pins σ (upd H l (.lst ys)) { s with heap:=s.heap.update l (Obj.mapSeq f),toks:=t' }:=by
 have q:=PySem.IsL.update e f;rw[d]at q;refine I.write (x:=l) (e:=l) (by rw[a];exact trivial) (.inl rfl) (λb' u c g=>(Heap.get?_update_other s.heap (Obj.mapSeq f) (aY c)).trans g) ⟨_,q⟩ ?_
 exact⟨hz,its',_,h,q⟩
theorem Inv.Ac{ab:az}(I:Inv X pins σ H s)(a:Vals ys ab)(hz:ys.length<=sizeLine):
 Inv X pins σ (upd H s.heap.objs.size (.lst ys)) { s with heap:=s.heap.push { cls:=.type "list",data:=.seq ab.toArray },toks:=t' }:=
 I.laid (λ_ _ q=>bK _ q) (aU _) ⟨hz,ab,0,a,dJ _ rfl⟩
theorem Inv.fresh(I:Inv X pins σ H s):H s.heap.objs.size=none:=I.av.fresh (aU _)
theorem Inv.tW(I:Inv X pins σ H s)(a:H l=some (.lst xs)):xs.length<=sizeLine/\∃(ab:az) (n:Nat),Vals xs ab/\xs.length=ab.length/\s.heap.get? l=some { cls:=.type "list",data:=.seq ab.toArray n }:=by
 obtain⟨z,ab,n,r,e⟩:=I.av l _ a;exact⟨z,ab,n,r,r.length,e⟩
theorem S6{n:Nat}(h:n<=sizeLine):Builtin.List.listTooLong n=false:=by
 unfold Builtin.List.listTooLong;exact iq (by omega)
end
section
variable {X:Cx}
noncomputable def Uk:V->LV->Hp->VK->Prop:=λx vs H Q=>∃l a y,x= .ref l/\vs= [y]/\H l=some (.lst a)/\a.length<sizeLine/\Q .aq (upd H l (.lst (a++ [y])))
theorem Se:Mn X "list.append" Uk:=by
 intro b s i H x vs v us Q I c rv h;obtain⟨l,g,y,rfl,rfl,a,f,q⟩:=h;cases c;obtain⟨u,rfl,ru⟩:=rv.one;obtain⟨z,ab,n,r,d,e⟩:=I.tW a;refine call_meets F.slot_list_append ⟨_,e,rfl⟩ F.entry_list_append (F.args_list_append_2 _ _) (PySem.list_append l ab.toArray n u (by rw[fx];omega)) ⟨e,?_⟩
 refine⟨.aq,_,I.Ad (its':=ab++ [u]) a e (by simp) (r.append (.cons ru .nil)) ?_,rfl,q⟩
 rw[eF,List.length_singleton];omega
noncomputable def OP:R2:=λx y H Q=>∃l k a,x= .ref l/\y= .int k/\H l=some (.lst a)/\-(2 ^ 63)<=k/\k<2 ^ 63/\a.length*k.toNat<=sizeLine/\
 ∀p,H p=none->Q (.ref p) (upd H p (.lst (List.replicate k.toNat a).flatten))
theorem len_rep(xs:List α)(k):(List.replicate k xs).flatten.length=k*xs.length:=by
 induction k with
 |zero=>simp
 |succ k ih=>rw[qU,sR,eF,ih,Nat.succ_mul,Nat.add_comm]
theorem W0:eI X (binaryOp .Mult) OP:=by
 intro pins s σ H x y v u Q I rx ry h;obtain⟨l,k,xs,rfl,rfl,hH,h1,h2,hz,q⟩:=h;cases rx;obtain⟨t,rfl⟩:=ry;obtain⟨z,ab,n,r,hl,e⟩:=I.tW hH;have hlen:ab.toArray.size*k.toNat<=sizeLine:=by rw[fx,<-hl];exact hz
 have hcap:¬ab.toArray.size*k.toNat > (2 ^ 63-1) / 8:=by
  have:(sizeLine:Nat)<=(2 ^ 63-1) / 8:=by decide
  omega
 have hfit:¬(!Builtin.List.listFitsIndex k)=true:=by
  rw[fitsIndex_both h1 h2];exact gX
 have hlong:¬Builtin.List.listTooLong (ab.toArray.size*k.toNat)=true:=by
  rw[S6 hlen];exact gX
 have hnew:List.foldl (λx1 x2=>x1++x2) #[] (List.replicate (if ab.toArray.isEmpty=true then 0 else k.toNat) ab.toArray)=(List.replicate k.toNat ab).flatten.toArray:=by
  have f0:∀m:Nat,List.foldl (λx1 x2=>x1++x2) #[] (List.replicate m ab.toArray)=(List.replicate m ab).flatten.toArray:=λm=>by
   have:=foldl_rep ab m [];rw[jU]at this;exact this
  rw[f0];cases ab with
  |nil=>simp
  |cons a r'=>rw[ae (by simp)]
 refine wpAny_binaryOp_repeat_ref (T:="list") (U:="int") (by decide) ⟨_,e,rfl⟩ (λs'=>typeIs_int s' k t) noFill_list_mul F.fills_int_mul F.slot_int_rmul repeat_list F.slot_int_index.lookup
  (call_meets F.slot_int_rmul (typeIs_int s k t) F.entry_int_rmul (F.args_int_rmul_2 _ _) (int___rmul___int_list k t l ab.toArray n)
   ⟨e,rfl,⟨_,e,rfl⟩,call_meets F.slot_list_mul ⟨_,e,rfl⟩ F.entry_list_mul (F.args_list_mul_2 _ _) (AutoListH.list___mul___list_int_3 l ab.toArray n k t hfit hcap hlong) ⟨e,?_⟩⟩)
 rw[hnew];exact⟨.ref _,_,I.Ac (t':=s.toks) (r.rep k.toNat) (by rw[len_rep,Nat.mul_comm];exact hz),rfl,q _ I.fresh⟩
end
section
variable {κ:Type}[DecidableEq κ]
noncomputable def fK(kvs:List (κ×V))(k:κ):Option V:=(kvs.find? λkv=>decide (kv.1=k)).map (·.2)
noncomputable def putK (kvs:List (κ×V))(k:κ)(v:V):List (κ×V):=
 if(kvs.any λkv=>decide (kv.1=k))=true then kvs.map (λkv=>if kv.1=k then(kv.1,v)else kv)else kvs++ [(k,v)]
def jN(kvs:List (κ×V))(k:κ):List (κ×V):=kvs.filter λkv=>decide (kv.1≠k)
theorem uE{p:κ×V}(e:p.1=k):fK (p::r) k=some p.2:=by simp[fK,i7,e]
theorem qa{p:κ×V}(e:¬p.1=k):fK (p::r) k=fK r k:=by simp[fK,i7,e]
theorem ya(k:κ):∀kvs:List (κ×V),(kvs.any λkv=>decide (kv.1=k))=(fK kvs k).isSome
 | []=>rfl
 |p::r=>by
  rw[jX]
  by_cases e:p.1=k
  . simp only[uE e,d8 e,Bool.true_or,Ck]
  . rw[qa e,iq e,Bool.false_or];exact ya k r
theorem Ao(kvs:List (κ×V))(k:κ)(v):(putK kvs k v).length<=kvs.length+1:=by
 unfold putK;split
 . rw[bo];omega
 . rw[eF,cY,List.length_nil];omega
theorem TC{k:κ}(v:V)(h:fK kvs k=none):putK kvs k v=kvs++ [(k,v)]:=by
 unfold putK;rw[ya,h];exact ae (by decide)
theorem bS.bp(r:bS o u):o.isSome=u.isSome:=by
 cases o with
 |none=>cases u with
  |none=>rfl
  |some _=>exact(show False from r).elim
 |some _=>cases u with
  |none=>exact(show False from r).elim
  |some _=>rfl
theorem bS.getD(r:bS o u)(rd:RelV d d'):RelV (o.getD d) (u.getD d'):=by
 cases o with
 |none=>cases u with
  |none=>exact rd
  |some _=>exact(show False from r).elim
 |some _=>cases u with
  |none=>exact(show False from r).elim
  |some _=>exact r
theorem KV.val{vs:List (κ×Value)}(r:KV kvs vs)(k:κ):bS (fK kvs k) (valueAt vs k):=by
 unfold KV at r
 induction r with
 |nil=>exact True.intro
 | @cons p q ps qs h t ih=>
  obtain⟨c,d⟩:=h
  by_cases e:p.1=k
  . have a:q.1=k:=c.symm.trans e
    have b:valueAt (q::qs) k=some q.2:=by simp[valueAt,i7,a]
    rw[uE e,b];exact d
  . have a:¬q.1=k:=λz=>e (c.trans z)
    have b:valueAt (q::qs) k=valueAt qs k:=by simp[valueAt,i7,a]
    rw[qa e,b];exact ih
theorem KV.any{vs:List (κ×Value)}(r:KV kvs vs)(k:κ):(kvs.any λkv=>decide (kv.1=k))=vs.any λkv=>decide (kv.1=k):=by
 unfold KV at r
 induction r with
 |nil=>rfl
 |cons h t ih=>rw[jX,jX,ih,h.1]
theorem KV.qJ{vs:List (κ×Value)}(r:KV kvs vs)(k:κ)(ry:RelV y u):
 KV (kvs.map λkv=>if kv.1=k then(kv.1,y)else kv) (vs.map λkv=>if kv.1=k then(kv.1,u)else kv):=by
 unfold KV at r ⊢
 induction r with
 |nil=>exact .nil
 | @cons p q ps qs h t ih=>
  rw[bF,bF];refine .cons ?_ ih;obtain⟨h1,h2⟩:=h
  by_cases e:p.1=k
  . rw[ai e,ai (h1.symm.trans e)];exact⟨h1,ry⟩
  . rw[ae e,ae (λz=>e (h1.trans z))];exact⟨h1,h2⟩
theorem KV.put{vs:List (κ×Value)}(r:KV kvs vs)(k:κ)(ry:RelV y u):KV (putK kvs k y) (stored vs k u):=by
 unfold putK stored;rw[r.any k]
 by_cases e:(vs.any λkv=>decide (kv.1=k))=true
 . rw[ai e,ai e];exact r.qJ k ry
 . rw[ae e,ae e];exact Paired.snoc r ⟨rfl,ry⟩
theorem KV.drop{vs:List (κ×Value)}(r:KV kvs vs)(k:κ):KV (jN kvs k) (without vs k):=by
 unfold KV at r ⊢;unfold jN without
 induction r with
 |nil=>exact .nil
 | @cons p q ps qs h t ih=>
  obtain⟨c,f⟩:=h;rw[m8,m8]
  by_cases e:p.1=k
  . have a:¬decide (p.1≠k)=true:=by simp[e]
    have b:¬decide (q.1≠k)=true:=by simp[c.symm.trans e]
    rw[ae a,ae b];exact ih
  . have d:¬q.1=k:=λz=>e (c.trans z)
    have a:decide (p.1≠k)=true:=by simp[e]
    have b:decide (q.1≠k)=true:=by simp[d]
    rw[ai a,ai b];exact .cons ⟨c,f⟩ ih
theorem KV.length{vs:List (κ×Value)}(r:KV kvs vs):kvs.length=vs.length:=Paired.length r
theorem T7(kvs:List (κ×V))(k:κ):(jN kvs k).length<=kvs.length:=fX _ _
end
theorem j9{P:Program}(r:RelV (kV k) u):(dv P w).is k u=true:=by
 cases k with
 |inl i=>obtain⟨t,e⟩:=(show ∃t,u=Value.int i t from r);subst e;exact Qg P w i t
 |inr x=>obtain⟨t,e⟩:=(show ∃t,u=Value.str x t from r);subst e;exact Gh P w x t
theorem Zw{P:Program}(r:RelV (oV k) u):(optKind P w).is k u=true:=by
 cases k with
 |none=>cases(show u=Value.none from r);rfl
 |some j=>exact j9 (P:=P) (w:=w) r
theorem Hj{P:Program}:∀{ks:List bV} {us:az},Vals (ks.map oV) us->ItemsAre (optKind P w) ks us
 | [],_,r=>by rw[oJ]at r;cases r;exact .nil
 |k::ks,_,r=>by
  rw[bF]at r;cases r with
  |cons h t=>exact .cons (Zw h) (Hj t)
abbrev KT(H:Hp):List (List bV×V)->List (List bV×Addr×Value)->Prop:=Paired λp q=>p.1=q.1/\H q.2.1=some (.tup (p.1.map oV))/\RelV p.2 q.2.2
theorem KT.val(r:KT H kvs xs)(k:List bV):bS (fK kvs k) ((atKey xs k).map (·.2)):=by
 induction r with
 |nil=>exact True.intro
 | @cons p q ps qs h t ih=>
  obtain⟨c,_,d⟩:=h
  by_cases e:p.1=k
  . have a:q.1=k:=c.symm.trans e
    have b:atKey (q::qs) k=some q.2:=by simp[atKey,i7,a]
    rw[uE e,b];exact d
  . have a:¬q.1=k:=λz=>e (c.trans z)
    have b:atKey (q::qs) k=atKey qs k:=by simp[atKey,i7,a]
    rw[qa e,b];exact ih
theorem KT.qJ(r:KT H kvs xs)(k:List bV)(ry:RelV y u):
 KT H (kvs.map λkv=>if kv.1=k then(kv.1,y)else kv) (xs.map (putAt k u)):=by
 induction r with
 |nil=>exact .nil
 | @cons p q ps qs h t ih=>
  rw[bF,bF];refine .cons ?_ ih;obtain⟨h1,h2,h3⟩:=h;unfold putAt
  by_cases e:p.1=k
  . rw[ai e,ai (h1.symm.trans e)];exact⟨h1,h2,ry⟩
  . rw[ae e,ae (λz=>e (h1.trans z))];exact⟨h1,h2,h3⟩
theorem KT.put(r:KT H kvs xs)(k:List bV){b:Addr}(hb:H b=some (.tup (k.map oV)))(ry:RelV y u):
 KT H (putK kvs k y) (storedH xs k b u):=by
 have e:(kvs.any λkv=>decide (kv.1=k))=(atKey xs k).isSome:=by
  rw[ya,(r.val k).bp,oP]
 unfold putK storedH;rw[e]
 by_cases q:(atKey xs k).isSome=true
 . rw[ai q,ai q];exact r.qJ k ry
 . rw[ae q,ae q];exact Paired.snoc r ⟨rfl,hb,ry⟩
theorem KT.keeps(r:KT H kvs xs)(c:∀b a,H b=some (.tup a)->H' b=some (.tup a)):KT H' kvs xs:=
 Paired.pW r λ_ _ z=>⟨z.1,c _ _ z.2.1,z.2.2⟩
section
variable {P:Program}{w:World}{H:Hp}{h:Heap}{a:Addr}
theorem Kj(ok:c9 P w H h)(e:Rd H a u):aG P w H h a u:=e.ok ok
theorem nW(b:c9 P w H h)(e:Rd H a (.dK kvs)):kvs.length<=sizeLine/\(a==sysModules)=false/\∃vs,KV kvs vs/\h.DictOf (dv P w) a vs:=
 show aG P w H h a (.dK kvs)from Kj b e
theorem BM(b:c9 P w H h)(e:H a=some (.dK kvs)):kvs.length<=sizeLine/\(a==sysModules)=false/\∃vs,KV kvs vs/\h.DictOf (dv P w) a vs:=nW b (.inl e)
theorem qm{ks:List bV}(f:c9 P w H h)(e:H a=some (.tup (ks.map oV))):(tupleKind (optKind P w)).is h ks a:=by
 obtain⟨_,ab,r,o,b,c,n,d⟩:=(show aG P w H h a (.tup (ks.map oV))from f a _ e)
 exact⟨o,ab.toArray,n,b,c,d,by simpa using Hj r⟩
theorem qz(c:c9 P w H h)(e:Rd H a (.dT kvs)):kvs.length<=sizeLine/\(a==sysModules)=false/\
 ∃xs,KT H kvs xs/\h.DictOfH (tupleKind (optKind P w)) a xs:=by
 obtain⟨z,y,xs,r,o,f,d,g,i,j,k,n⟩:=(show aG P w H h a (.dT kvs)from Kj c e)
 refine⟨z,y,xs,r,o,f,d,g,i,j,k,λx hx=>?_,n⟩
 have b:∀{l:List (List bV×V)} {m:List (List bV×Addr×Value)},KT H l m->∀x∈m,(tupleKind (optKind P w)).is h x.1 x.2.1:=by
  intro l m q
  induction q with
  |nil=>intro x hx;exact nomatch hx
  | @cons p q ps qs hq t ih=>
   intro x hx;rcases eY.mp hx with e|hx
   . subst e
     exact qm c (by rw[<-hq.1];exact hq.2.1)
   . exact ih x hx
 exact b r x hx
theorem BL(b:c9 P w H h)(e:H a=some (.dT kvs)):kvs.length<=sizeLine/\(a==sysModules)=false/\
 ∃xs,KT H kvs xs/\h.DictOfH (tupleKind (optKind P w)) a xs:=qz b (.inl e)
end
def bY(H:Hp)(a:Addr)(y:V)(r:Option V):Prop:=
 (∃c k,Rd H a (.dK c)/\y=kV k/\r=fK c k)∨∃c k b,Rd H a (.dT c)/\y= .ref b/\H b=some (.tup (k.map oV))/\r=fK c k
def fY(H:Hp)(a:Addr)(y v:V)(d:Hp):Prop:=
 (∃c k,H a=some (.dK c)/\y=kV k/\c.length<sizeLine/\d=upd H a (.dK (putK c k v)))∨
 ∃c k b,H a=some (.dT c)/\y= .ref b/\H b=some (.tup (k.map oV))/\c.length<sizeLine/\d=upd H a (.dT (putK c k v))
theorem bY.k{H:Hp}{a:Addr}{kvs:List (Key×V)}{k:Key}(e:H a=some (.dK kvs)):bY H a (kV k) (fK kvs k):=.inl ⟨kvs,k,.inl e,rfl,rfl⟩
theorem bY.t{a b:Addr}{k:List bV}(e:H a=some (.dT kvs))(c:H b=some (.tup (k.map oV))):bY H a (.ref b) (fK kvs k):=.inr ⟨kvs,k,b,.inl e,rfl,c,rfl⟩
theorem fY.k{H:Hp}{a:Addr}{kvs:List (Key×V)}{k:Key}{v:V}(e:H a=some (.dK kvs))(b:kvs.length<sizeLine):fY H a (kV k) v (upd H a (.dK (putK kvs k v))):=.inl ⟨kvs,k,e,rfl,b,rfl⟩
theorem fY.t{a b:Addr}{k:List bV}{v:V}(e:H a=some (.dT kvs))(c:H b=some (.tup (k.map oV)))(d:kvs.length<sizeLine):
 fY H a (.ref b) v (upd H a (.dT (putK kvs k v))):=.inr ⟨kvs,k,b,e,rfl,c,d,rfl⟩
section
variable {X:Cx}{pins:aJ}{σ:St}{H:Hp}{s:Shared}{a:Addr}{y v:V}{u r:Value}{o:Option V}{A:Around}{E:aX}
theorem Inv.big(I:Inv X pins σ H s):sysModules<s.heap.objs.size:=by
 have h:mainGlobals<s.heap.objs.size:=(I.mod.glob.keeps I.bk).lt;exact fq (by decide) h
theorem SM(F:A.units+1<cLine)(I:Inv X pins σ H s)(g:bY H a y (some v))(t:RelV y u)(h:∀f w,Inv X pins σ H w->RelV v f->Q f w):
 wpAny (model X.prog X.w) A (getItem (.ref a) u) Q E s:=by
 rcases g with⟨n,k,e,i,l⟩|⟨n,k,b,e,i,x,l⟩
 . subst i
   obtain⟨z,C,vs,c,dd⟩:=nW I.av e;obtain⟨f,m,d⟩:=bS.some_of (v:=v) (o:=valueAt vs k) (by rw[l];exact c.val k)
   exact wpAny_getItem_of (j9 t) dd.mapOf m (h f _ (I.tok _) d)
 . subst i
   cases(show u=Value.ref b from t)
   obtain⟨z,C,J,c,dd⟩:=qz I.av e;obtain⟨f,m,d⟩:=bS.some_of (v:=v) (o:=(atKey J k).map (·.2)) (by rw[l];exact c.val k)
   obtain⟨p,D,j⟩:=oE.mp m;refine wpAny_getItem_heap (tupleKind_room_in1 F) (qm I.av x) dd D ?_;rw[j];exact h f _ (I.tok _) d
theorem Ow(t:A.units+1<cLine)(I:Inv X pins σ H s)(g:bY H a y o)(j:RelV y u)(h:∀m,Inv X pins σ H m->Q (.bool o.isSome) m):
 wpAny (model X.prog X.w) A (compareOp .In u (.ref a)) Q E s:=by
 rcases g with⟨i,k,e,d,l⟩|⟨i,k,b,e,d,n,l⟩
 . subst d
   obtain⟨z,f,vs,c,dd⟩:=nW I.av e;refine wpAny_in_of (j9 j) f dd.mapOf ?_;rw[<-(c.val k).bp,<-l];exact h _ (I.tok _)
 . subst d
   cases(show u=Value.ref b from j)
   obtain⟨z,f,w,c,dd⟩:=qz I.av e;refine wpAny_in_heap (tupleKind_room_in1 t) (qm I.av n) f dd ?_;have q:=(c.val k).bp;rw[oP]at q;rw[<-q,<-l];exact h _ (I.tok _)
theorem VC(t:A.units+1<cLine)(I:Inv X pins σ H s)(g:bY H a y o)(j:RelV y u)(h:∀m,Inv X pins σ H m->Q (.bool (!o.isSome)) m):
 wpAny (model X.prog X.w) A (compareOp .NotIn u (.ref a)) Q E s:=by
 rcases g with⟨i,k,e,d,l⟩|⟨i,k,b,e,d,n,l⟩
 . subst d
   obtain⟨z,f,vs,c,dd⟩:=nW I.av e;refine wpAny_notIn_of (j9 j) f dd.mapOf ?_;rw[<-(c.val k).bp,<-l];exact h _ (I.tok _)
 . subst d
   cases(show u=Value.ref b from j)
   obtain⟨z,f,w,c,dd⟩:=qz I.av e;refine wpAny_notIn_heap (tupleKind_room_in1 t) (qm I.av n) f dd ?_;have q:=(c.val k).bp;rw[oP]at q;rw[<-q,<-l];exact h _ (I.tok _)
theorem uX{ob:HO}(I:Inv X pins σ H s)(g:sY (H a))(hs:Heap.SameBut a s.heap h')(f:∃q,h'.get? a=some q)(c:aG X.prog X.w (upd H a ob) h' a ob):
 Inv X pins σ (upd H a ob) { s with heap:=h',toks:=t' }:=
 I.write (x:=a) (e:=a) g (.inl rfl) (λb q d z=>(hs.2 b d).trans z) f c
theorem Bq{P:Program}{h':Heap}{kvs:List (Key×V)}{vs:List (Key×Value)}(z:kvs.length<=sizeLine)(c:(a==sysModules)=false)(b:KV kvs vs)(dd:h'.DictOf (dv P w) a vs):
 aG P w H' h' a (.dK kvs):=⟨z,c,vs,b,dd⟩
theorem SK{Q:Unit->Shared->Prop}(hu:A.units+1<cLine)(I:Inv X pins σ H s)(g:fY H a y v H')(ry:RelV y u)(rv:RelV v r)(h:∀s',Inv X pins σ H' s'->Q () s'):
 wpAny (model X.prog X.w) A (setItem (.ref a) u r) Q E s:=by
 rcases g with⟨kvs,k,e,ey,l,eH⟩|⟨kvs,k,b,e,ey,eb,l,eH⟩
 . subst ey eH
   obtain⟨z,hd,vs,rel,dd⟩:=BM I.av e;have hz:vs.length<=sizeLine:=by rw[<-rel.length];exact z
   have hl:(putK kvs k v).length<=sizeLine:=by have:=Ao kvs k v;omega
   refine wpAny_setItem_pairs (hsz:=hz) (j9 ry) dd λh' dd' hs=>h _ ?_
   have he:∃q,h'.get? a=some q:=let⟨q,_,_,hq,_⟩:=dd';⟨q,hq⟩;exact uX I (by rw[e];exact True.intro) hs he (Bq hl hd (rel.put k rv) dd')
 . subst ey eH
   cases(show u=Value.ref b from ry)
   obtain⟨z,hd,xs,rel,dd⟩:=BL I.av e;have hz:xs.length<=sizeLine:=by rw[<-Paired.length rel];exact z
   have hl:(putK kvs k v).length<=sizeLine:=by have:=Ao kvs k v;omega
   refine wpAny_setItem_heap (hsz:=hz) (tupleKind_room_in1 hu) (qm I.av eb) dd λh' dd' hs=>h _ ?_
   obtain⟨q,es,ep,hq,h2,h3,h4,_,h5⟩:=dd';refine uX I (by rw[e];exact True.intro) hs ⟨q,hq⟩ ⟨hl,hd,_,(rel.put k eb rv).keeps λc ys ec=>?_,q,es,ep,hq,h2,h3,h4,h5⟩
   rw[au (jL ec e (λz=>nomatch z))]
   exact ec
end
section
variable {X:Cx}{pins:aJ}{σ:St}{H:Hp}{s:Shared}{a:Addr}{kvs:List (Key×V)}{k:Key}{u:Value}{A:Around}{E:aX}
theorem SN{Q:Unit->Shared->Prop}(I:Inv X pins σ H s)(e:H a=some (.dK kvs))(ry:RelV (kV k) u)(l:(fK kvs k).isSome=true)(h:∀s',Inv X pins σ (upd H a (.dK (jN kvs k))) s'->Q () s'):
 wpAny (model X.prog X.w) A (delItem (.ref a) u) Q E s:=by
 obtain⟨z,hd,vs,rel,dd⟩:=BM I.av e;refine wpAny_delItem_slot dd.typeIs (by decide) PySem.F.slot_dict_delitem
  (call_meetsIn PySem.F.slot_dict_delitem dd.typeIs PySem.F.entry_dict_delitem (PySem.F.args_dict_delitem_2 _ _) (meets_dict_delitem_pairs (dv X.prog X.w) a (j9 ry)) ⟨vs,dd,by rw[<-rel.length];exact z,by rw[<-(rel.val k).bp];exact l,λh' dd' hs=>h _ ?_⟩)
 have he:∃q,h'.get? a=some q:=let⟨q,_,_,hq,_⟩:=dd';⟨q,hq⟩;exact uX I (by rw[e];exact True.intro) hs he (Bq (cq (T7 kvs k) z) hd (rel.drop k) dd')
theorem Zj(I:Inv X pins σ H s)(e:Rd H a (.dK kvs))(h:∀t c,Inv X pins σ H c->Q (.int kvs.length t) c):wpAny (model X.prog X.w) A (call (.builtin "len") [.ref a]) Q E s:=by
 obtain⟨z,d,vs,b,dd⟩:=nW I.av e;refine call_len_dict d dd (by rw[<-b.length];rw[sizeLine_eq]at z;omega) ?_
 rw[<-b.length];exact h _ _ (I.tok _)
end
def sL(i:Expr):Prop:=∀a iv,subscripted i false a iv=operate [a,iv] (getItem a iv)
theorem Iz{s:Shared}{env:Env}{T id:String}
 (j:typeLookup (.type T) "__getitem__" =pure (some (.builtin id))) (hs:sL slice)
 (h:wpAny (model prog w) A (eval value env) (λo c=>wpAny (model prog w) A (eval slice env) (λi a=>a.TypeIs o T/\wpAny (model prog w) A (getItem o i) Q E a) E c) E s):
 wpAny (model prog w) A (eval (.Subscript value slice pos) env) Q E s:=by
 refine Subscript_ (ir h (λo c e=>ir e (λi a b=>?_) λ_ _ x=>x) λ_ _ x=>x)
 obtain⟨g,b⟩:=b;unfold subscriptTail;refine ah ?_;rw[getitemInPython_of_ne g.not_modules];refine ah (wpAny_specialOf g j ?_);have fin:wpAny (model prog w) A (subscripted slice false o i) (λr d=>wpAny (model prog w) A (letTemporaryGo value o r >>= λ_=>pure r) Q E d) E a:=by
  rw[hs o i];exact wpAny_operating (ir b (λr d f=>ah (wpAny_letTemporaryGo (aD f))) λ_ _ x=>x)
 first
  |exact aD (ah fin)
  |exact ah (aD (ah fin))
  |exact ah fin
theorem QM{s:Shared}{a:Addr}(I:Inv X pins σ H s)(g:bY H a y o):s.TypeIs (.ref a) "dict":=by
 rcases g with⟨c,k,e,_,_⟩|⟨c,k,b,e,_,_,_⟩
 . obtain⟨_,_,vs,_,dd⟩:=nW I.av e
   exact dd.typeIs
 . obtain⟨_,_,d,_,dd⟩:=qz I.av e
   exact dd.typeIs
def Yj(td ty:TE):TE:=λσ H Q=>td σ H λx H1=>ty σ H1 λy H2=>∃a v,x= .ref a/\bY H2 a y (some v)/\Q v H2
def N2(ty td:TE):TE:=λσ H Q=>ty σ H λy H1=>td σ H1 λx H2=>∃a o,x= .ref a/\bY H2 a y o/\Q (.bl o.isSome) H2
def Ut(ty td:TE):TE:=λσ H Q=>ty σ H λy H1=>td σ H1 λx H2=>∃a o,x= .ref a/\bY H2 a y o/\Q (.bl (!o.isSome)) H2
def YL(f ty g:TE):TS:=λD b H=>g b H λv H1=>f b H1 λx d=>ty b d λy e=>∃a c,x= .ref a/\fY e a y v c/\D.nx b c
section
variable {X:Cx}{o i e value:Expr}{pos pos' tpos:Pos}{td ty tv:TE}
theorem IQ(l:X.A.units+1<cLine)(ho:PE X o td)(hi:PE X i ty)(hs:sL i):PE X (.Subscript o i pos) (Yj td ty):=by
 intro b s f H Q I h;refine Iz PySem.F.slot_dict_getitem.lookup hs (aB (ho b s f H _ I h) λu r ⟨x,H1,I1,rx,q1⟩=>aB (hi b r f H1 _ I1 q1) λiv w t=>?_);obtain⟨y,j,d,n,a,v,ex,g,m⟩:=t
 subst ex;obtain rfl:u=Value.ref a:=rx;exact⟨QM d g,SM l d g n λw' z k c=>⟨v,j,k,c,m⟩⟩
theorem JJ(k:X.A.units+1<cLine)(hi:PE X i ty)(ho:PE X o td):PC X .In i o (N2 ty td):=by
 intro b s c H Q I h;refine aB (hi b s c H _ I h) λiv r ⟨y,H1,I1,ry,q1⟩=>aB (ho b r c H1 _ I1 q1) λu v t=>?_;obtain⟨x,d,f,n,a,l,ex,g,m⟩:=t
 subst ex;obtain rfl:u=Value.ref a:=n;exact Ow k f g ry λs3 j=>⟨.bl l.isSome,d,j,rfl,m⟩
theorem GL(k:X.A.units+1<cLine)(hi:PE X i ty)(ho:PE X o td):PC X .NotIn i o (Ut ty td):=by
 intro b s c H Q I h;refine aB (hi b s c H _ I h) λiv r ⟨y,H1,I1,ry,q1⟩=>aB (ho b r c H1 _ I1 q1) λu v t=>?_;obtain⟨x,d,f,n,a,l,ex,g,m⟩:=t
 subst ex;obtain rfl:u=Value.ref a:=n;exact VC k f g ry λs3 j=>⟨.bl (!l.isSome),d,j,rfl,m⟩
theorem Uq(k:X.A.units+1<cLine)(ho:PE X o td)(hi:PE X i ty)(l:PE X value tv)(hs:swapsWith value (some (.Subscript o i pos')) pos.line X.env=pure false):
 PS X (.Assign [.Subscript o i pos'] value pos) (YL td ty tv):=by
 intro b s c H D I h;refine wpAny_Assign_Subscript (aB (l b s c H _ I h) λr r ⟨v,H1,I1,rv,q1⟩=>aB (ho b r c H1 _ I1 q1) λu t ⟨x,H2,I2,rx,q2⟩=>aB (hi b t c H2 _ I2 q2) λiv A w=>?_) hs;obtain⟨y,z,f,n,a,d,ex,g,m⟩:=w
 subst ex;obtain rfl:u=Value.ref a:=rx;exact SK k f g n rv λs4 j=>⟨c,d,j,m⟩
end
theorem HH{P:Program}(h:Heap)(a:sysModules<h.objs.size):aG P w H (h.push { cls:=.type "dict",data:=.dict #[] }) h.objs.size (.dK []):=
 ⟨qT _,oO.mpr (aY (cX a)),[],.nil,Heap.DictOf.new h⟩
theorem S3{P:Program}(h:Heap)(a:sysModules<h.objs.size):aG P w H (h.push { cls:=.type "dict",data:=.dict #[] }) h.objs.size (.dT []):=
 ⟨qT _,oO.mpr (aY (cX a)),[],.nil,_,#[],0,dJ _ rfl,⟨rfl,rfl,rfl⟩,rfl,rfl,jW⟩
def V6:TE:=λ_ H Q=>∀p,H p=none->Q (.ref p) (upd H p (.dK []))
def V5:TE:=λ_ H Q=>∀p,H p=none->Q (.ref p) (upd H p (.dT []))
section
variable {X:Cx}{pos:Pos}
theorem TV:PE X (.Dict [] [] pos) V6:=λpins s b H Q I h=>
 wpAny_Dict_empty ⟨.ref s.heap.objs.size,_,I.laid (a:=s.heap.objs.size) (o:=.dK []) (t':=s.toks) (λ_ _ q=>bK _ q) (aU _) (HH s.heap I.big),rfl,h _ (I.av.fresh (aU _))⟩
theorem TU:PE X (.Dict [] [] pos) V5:=λpins s b H Q I h=>
 wpAny_Dict_empty ⟨.ref s.heap.objs.size,_,I.laid (a:=s.heap.objs.size) (o:=.dT []) (t':=s.toks) (λ_ _ q=>bK _ q) (aU _) (S3 s.heap I.big),rfl,h _ (I.av.fresh (aU _))⟩
end
noncomputable def vb:List (TE×TE)->St->Hp->(List (V×V)->Hp->Prop)->Prop
 | [],_,H,Q=>Q [] H
 |(tk,tv)::r,σ,H,Q=>tk σ H λx H1=>tv σ H1 λy H2=>vb r σ H2 λps H3=>Q ((x,y)::ps) H3
abbrev VV:List (V×V)->List (Value×Value)->Prop:=Paired λp q=>RelV p.1 q.1/\RelV p.2 q.2
def nj(X:Cx)(pos:Pos)(c:List (Option Expr))(a:aV)(d:List (TE×TE)):Prop:=
 ∀(b:aJ) (s:Shared) (σ:St) (H:Hp) (Q:List (V×V)->Hp->Prop),Inv X b σ H s->vb d σ H Q->
  wpAny (model X.prog X.w) X.A (evalPairs (pairTrees c a X.env pos)) (λvs g=>∃f e,Inv X b σ e g/\VV f vs/\Q f e) X.xe s
theorem Il:nj X pos [] [] []:=λpins s a H Q I h=>pairTrees_nil_walk ⟨[],H,I,.nil,h⟩
theorem HU{k v:Expr}{ks:List (Option Expr)}{vs:aV}{tk tv:TE}(hk:PE X k tk)(hv:PE X v tv)(hr:nj X pos ks vs trs):
 nj X pos (some k::ks) (v::vs) ((tk,tv)::trs):=λpins s σ H Q I h=>
 pairTrees_cons_walk (aB (hk pins s σ H _ I h) λu s1 ⟨x,H1,I1,rx,q1⟩=>aB (hv pins s1 σ H1 _ I1 q1) λw2 s2 ⟨y,H2,I2,ry,q2⟩=>
  aB (hr pins s2 σ H2 _ I2 q2) λws s3 ⟨ps,H3,I3,rel,q3⟩=>⟨(x,y)::ps,H3,I3,.cons ⟨rx,ry⟩ rel,q3⟩)
def j5(kvs more:List (Key×V)):List (Key×V):=more.foldl (λacc kv=>putK acc kv.1 kv.2) kvs
theorem KV.merge:∀{b:List (Key×V)} {rs:List (Key×Value)} {a:List (Key×V)} {vs:List (Key×Value)},KV b rs->KV a vs->KV (j5 a b) (merged vs rs):=by
 intro b rs a vs r;unfold KV at r
 induction r generalizing a vs with
 |nil=>intro q;exact q
 | @cons p q ps qs h t ih=>
  intro r0;have e:KV (putK a p.1 p.2) (stored vs q.1 q.2):=by
   have:=r0.put p.1 h.2;rw[<-h.1];exact this
  exact ih e
theorem FY:∀(b a:List (Key×V)),(j5 a b).length<=a.length+b.length
 | [],a=>by show a.length<=a.length+0;omega
 |p::r,a=>by
  have c:=FY r (putK a p.1 p.2);have d:=Ao a p.1 p.2;show(j5 (putK a p.1 p.2) r).length<=_;rw[cY];omega
theorem GJ{P:Program}:∀{kvs:List (Key×V)} {ws:List (Value×Value)},VV (kvs.map λkv=>(kV kv.1,kv.2)) ws->∃rs,Carries (dv P w) ws rs/\KV kvs rs
 | [],_,r=>by rw[oJ]at r;cases r;exact⟨[],True.intro,.nil⟩
 |p::kvs,_,r=>by
  rw[bF]at r;cases r with
  | @cons a b as bs h t=>
   obtain⟨rs,c,q⟩:=GJ (P:=P) (w:=w) t;obtain⟨b1,b2⟩:=b;exact⟨(p.1,b2)::rs,⟨j9 h.1,rfl,c⟩,.cons ⟨rfl,h.2⟩ q⟩
noncomputable def Yh (trs:List (TE×TE)):TE:=λσ H Q=>∀p,H p=none->vb trs σ (upd H p (.dK [])) λps H2=>H2 p=some (.dK [])/\∃kvs:List (Key×V),ps=kvs.map (λkv=>(kV kv.1,kv.2))/\kvs.length<=15/\Q (.ref p) (upd H2 p (.dK (j5 [] kvs)))
theorem IP(h:nj X pos keys values trs)(d:keys.all (·.isSome)=true)(u:keys.length=values.length)(h0:keys≠[])
 (i:keys.length<=15):PE X (.Dict keys values pos) (Yh trs):=by
 intro g s D H Q I q;have hn:=I.av.fresh (aU s.heap.objs.size);have l:=I.laid (a:=s.heap.objs.size) (o:=.dK []) (h':=s.heap.push { cls:=.type "dict",data:=.dict #[] }) (t':=s.toks) (λ_ _ q=>bK _ q) (aU _) (HH s.heap I.big)
 refine wpAny_Dict_walk (knd:=dv X.prog X.w) d u h0 i (aB (h g _ D _ _ l (q _ hn)) λws J C=>?_);obtain⟨F,E,k,j,e,f,m,lk,x⟩:=C
 subst m;obtain⟨rs,c,y⟩:=GJ (P:=X.prog) (w:=X.w) j;obtain⟨z,r,A,r0,dd⟩:=BM k.av e;cases r0;refine⟨rs,c,dd,λh' b hs=>⟨.ref s.heap.objs.size,_,?_,rfl,x⟩⟩
 have v:(j5 [] f).length<=sizeLine:=by
  have n:=FY f [];rw[List.length_nil]at n;rw[sizeLine_eq];omega
 have t:∃q,h'.get? s.heap.objs.size=some q:=let⟨q,_,_,hq,_⟩:=b;⟨q,hq⟩;exact uX k (by rw[e];exact True.intro) hs t (Bq v r (y.merge .nil) b)
structure M1(X:Cx)(o:Expr)(m:Str)(apos:Pos)(e:Expr)(cpos:Pos):Prop where
 base:attributeBase o m X.env (eval o X.env)=eval o X.env
 xc:((backTo cpos (starEach [e] X.env)).all (λx=>!x.1)&&(backToKw cpos (keywordEach [] X.env)).all (λx=>x.1.isSome)
  &&decide (([e]:aV).length+([]:List Keyword).length+(if([]:List Keyword).isEmpty then 0 else 1)<30))=true
 line:(apos.endLine==cpos.line)=true
 trees:backTo cpos (starEach [e] X.env)= [(false,eval e X.env)]
def zI(H:Hp)(a:Addr):Prop:=(∃b,Rd H a (.dK b))∨∃b,Rd H a (.dT b)
theorem Ww{s:Shared}{a:Addr}(I:Inv X pins σ H s)(d:zI H a):
 s.TypeIs (.ref a) "dict"/\(∀b,Value.ref a= .ref b->∃ob,s.heap.get? b=some ob/\ob.dict=none)/\(a==sysModules)=false:=by
 rcases d with⟨h,e⟩|⟨h,e⟩
 . obtain⟨_,g,vs,_,dd⟩:=nW I.av e
   refine⟨dd.typeIs,λb q=>?_,g⟩
   cases q;obtain⟨ob,_,_,c,f,_⟩:=dd;exact⟨ob,c,f.2.1⟩
 . obtain⟨_,g,i,_,dd⟩:=qz I.av e
   refine⟨dd.typeIs,λb q=>?_,g⟩
   cases q;obtain⟨ob,_,_,c,f,_⟩:=dd;exact⟨ob,c,f.2.1⟩
section
variable {X:Cx}{pins:aJ}{σ:St}{H:Hp}{s:Shared}{a:Addr}{y d:V}{u r:Value}{o:Option V}{A:Around}{E:aX}
theorem XG(w:A.units+1<cLine)(I:Inv X pins σ H s)(g:bY H a y o)(m:RelV y u)(h:∀t n,Inv X pins σ H n->RelV (o.getD .aq) t->Q t n):
 wpAny (model X.prog X.w) A (call (.builtin "dict.get") [.ref a,u]) Q E s:=by
 rcases g with⟨j,k,e,f,l⟩|⟨j,k,b,e,f,v,l⟩
 . subst f
   obtain⟨z,i,vs,c,dd⟩:=nW I.av e;refine call_meetsIn PySem.F.slot_dict_get dd.typeIs PySem.F.entry_dict_get (PySem.F.args_dict_get_2 _ _) (meets_dict_get (dv X.prog X.w) a (j9 m) i) ⟨_,dd.mapOf,h _ _ (I.tok _) ?_⟩;rw[l];exact(c.val k).getD rfl
 . subst f
   cases(show u=Value.ref b from m)
   obtain⟨z,i,x,c,dd⟩:=qz I.av e;refine call_meetsIn PySem.F.slot_dict_get dd.typeIs PySem.F.entry_dict_get (PySem.F.args_dict_get_2 _ _) (meetsH_dict_get (tupleKind (optKind X.prog X.w)) a b i) ⟨tupleKind_room_in1 w,k,x,qm I.av v,dd,h _ _ (I.tok _) ?_⟩;rw[l];exact(c.val k).getD rfl
end
def V7(td ty:TE):TE:=λσ H Q=>td σ H λx H1=>∃a,x= .ref a/\zI H1 a/\ty σ H1 λy H2=>∃o,bY H2 a y o/\Q (o.getD .aq) H2
section
variable {X:Cx}{o e f:Expr}{apos cpos:Pos}{td ty tx:TE}
theorem TX(n:X.A.units+1<cLine)(ho:PE X o td)(l:PE X e ty)(m:M1 X o "get" apos e cpos):PE X (.Call (.Attribute o "get" apos) [e] [] cpos) (V7 td ty):=by
 intro b s j H Q I h;refine wpAny_Call_method m.base m.xc m.line PySem.F.plainAttrs_dict PySem.F.slot_dict_get PySem.F.type_dict_get (aB (ho b s j H _ I h) λu v A=>?_);obtain⟨x,H1,i,t,a,ex,d,r⟩:=A
 subst ex;obtain rfl:u=Value.ref a:=t;obtain⟨w,z,_⟩:=Ww i d;refine⟨w,z,?_⟩;rw[m.trees];refine Calls.callWith_builtin rfl (Calls.evalArgs_plain (Calls.spliced_cons (aB (l b v j H1 _ i r) λiv C ⟨y,H2,I2,ry,ov,g,q2⟩=>Calls.spliced_nil ?_)))
 exact XG n I2 g ry λw' D k c=>⟨_,H2,k,c,q2⟩
end
end L2
namespace Att
open PySem PySem.W PySem.Calls PyProof.Rows
theorem Py{P:Params}:∀(ns:List Int) (vs:az),WellAll P h vs (ns.map WData.int)->IntsAre vs ns:=by
 intro ns
 induction ns with
 |nil=>
  intro vs w;rw[oJ]at w;cases w;exact .nil
 |cons n ns ih=>
  intro vs w;rw[bF]at w;cases w with
  |cons a b=>
   cases a;exact .cons _ _ (ih _ b)
theorem Rv{l:OpenLaw}{n:Nat}(s:l.most=some n){P:Params}
 (b:l.row.toRowW.claim.pre args=true) (i:WellAll P h vals args):
 ∃a vs ns,vals= [Value.ref a]/\args= [WData.list (ns.map WData.int)]/\h.get? a=some { cls:=.type "list",data:=.seq vs.toArray }/\IntsAre vs ns/\ns.length<=n:=by
 have g:WShape.hasAll [] args [.list .int]=true:=(pre_splitW b).1;have j:l.pre.holds [] { args:=args }=true:=(pre_splitW b).2;obtain⟨d,r,rfl,k,m⟩:=hasAllW_cons g;obtain rfl:=hasAllW_nil m;obtain⟨u,rfl,o⟩:=hasW_list k;obtain⟨ns,rfl⟩:=items_int o;have c:ns.length<=n:=by
  unfold OpenLaw.pre at j;have e:(WTm.not (.lt (.lit (.int (n:Int))) (.len (.arg 0)))).holds [] { args:=[.list (ns.map .int)] }=true:=by
   have e:=(holds_andW j).1;rw[s]at e;exact e
  have f:=condW_of e (w_not (w_lt w_lit (w_len_list (w_arg rfl))));rw[bo]at f;refine Nat.le_of_not_lt λq=>?_
  have t:(n:Int)<((ns.length:Nat):Int):=by omega
  first
   |(rw[d8 t]at f;exact aW f (by decide))
   |(simp at f;omega)
 cases i with
 |cons w1 w2=>
  cases w2;cases w1 with
  |list ho hall=>exact⟨_,_,ns,rfl,rfl,ho,Py ns _ hall,c⟩
theorem Rr(l:OpenLaw)(args:List WData):l.row.toRowW.claim.post args (.bool true) args=true:=
 postW_of (r:=l.row.toRowW) (X:=(true==true))
  (show WShape.has [] (.bool true) .bool=true by first|rfl|decide|simp[WShape.has,WShape.arms,WShape.armsAll])
  (show(WTm.eq .res (.lit (.bool true))).value [] { args:=args,res:=some (.bool true),after:=args }=some (.bool (true==true))from w_eq_bool (w_res rfl) w_lit) rfl
theorem gC{l:OpenLaw}{n:Nat}{q:Program}{loose:aE}{d:DefRec}
 (O:l.most=some n) (t:d.params.defaults= [])
 (call:∀(w:World) (c b:Shared) (mg x:bC) (h:Addr) (o:Obj) (y cd e:Value) (a:Addr) (vs:az) (ns:List Int),
  Ground q loose [] XP w c mg x b.heap->YP w b.heap->
  b.heap.get? h=some o->o.data= .func (docDef d.name d.params d.body d.scope y cd e)->b.heap.CodeRec cd d.name->mg d.name=some (.ref h)->
  b.heap.get? a=some { cls:=.type "list",data:=.seq vs.toArray }->IntsAre vs ns->ns.length<=n->b.gens= #[]->
  codeAny (model l.prog w) callerA (.call (.ref h) ⟨[.ref a],[]⟩) (λr m=>r= .ok (.ret (.bool true))/\OldK b.heap m.heap/\m.os=b.os/\AllBare m.gens) b):
 WalkO q loose XP YP l.row.toRowW d [] (λf vs=>PySem.call f vs):=by
 intro w c b mg x G Y h o y cd e E kV ho J s A u L z D U k C R v M;obtain rfl:E= .none:=Dflts.none A t;obtain rfl:kV= .none:=Dflts.noKw A;obtain⟨a,vs,ns,rfl,rfl,j,g,i⟩:=Rv O k v;refine enter_call (codeAny_mono (call w c b mg x h o y cd e a vs ns G Y ho (fd_plain J) s u j g i L) λr m Q=>?_)
 obtain⟨rfl,F,H,I⟩:=Q;exact⟨.inl ⟨.bool true,.bool true,[],rfl,λ_=>rfl,.bool true,Rr l _,λ_=>⟨List.Pairwise.nil,λ_ N=>(nomatch N)⟩⟩,F,H,I⟩
end Att
namespace L2
open PySem PySem.Spec PyProof.Rows
theorem bW:∀{vs:az} {ns:List Int},IntsAre vs ns->Vals (ns.map V.int) vs
 |_,_,.nil=>.nil
 |_,_,.cons n t h=>.cons ⟨t,rfl⟩ (bW h)
noncomputable def inClass(s:Stmt)(j:Nat):Stmt:=match s with
 | .ClassDef _ _ _ body _ _ _ _ _ _ _=>body.getD j (.Pass ⟨0,0,0,0⟩)
 |_=>.Pass ⟨0,0,0,0⟩
noncomputable def Jm (s:Stmt):Arguments:=match s with
 | .FunctionDef _ a _ _ _ _ _ _ _ _=>a
 |_=>{ posonlyargs:=[],args:=[],vararg:=none,kwonlyargs:=[],kw_defaults:=[],kwarg:=none,defaults:=[] }
def qg(s:Stmt):List Stmt:=match s with
 | .FunctionDef _ _ b _ _ _ _ _ _ _=>b
 |_=>[]
noncomputable def gu (s:Stmt):Scope:=match s with
 | .FunctionDef _ _ _ _ _ _ sc _ _ _=>sc
 |_=>{ kind:=.function,names:=[],isGenerator:=false,isCoroutine:=false }
abbrev fN:ni:=λ_ _ _ _ _ _=>False
abbrev E0:XK:=λ_ _ _=>False
theorem qr:Passes fN X E0:=λ_ _ _ _ _ _ _ h=>h.elim
structure sV(K:ag)(x qual:Str)(st:Stmt)(f:Addr)(fd:FuncData):Prop where
 ex:∃(oc:Value) (od:Option Addr) (kV doc pm:Value) (an:Option Addr) (cdv ct:Value) (osl:Array (cJ)),
  fd=PySem.W.fnOf x qual (Jm st) (qg st) (gu st) .none kV doc pm an cdv ct/\K.lookup f=some ⟨oc,od,.func fd,osl⟩/\PySem.W.codeIn K cdv qual=true
 kp:PySem.W.keepIn K (.ref f)=true
section
variable {P:Program}{w:World}{K:ag}{mg:bC}{base:Heap}
theorem sV.ok{x c:Str}{st:Stmt}{sp:Sp}(F:sV K x c st f fd)(S:rO N ps (gu st))(i:∀vs H Q E,sp vs H Q E->vs.length=ps.length)
 (d:∀b,fd.code=b->∀(A:Around) (a:List Env) (s:Shared) (H:Hp) (vs:LV) (Q:VK) (E:XK),aN k (A.deeper (envOfC c (gu st) s.heap.objs.size f b))->sp vs H Q E->
  ∃t,gB (oj fN P w K mg base N c (gu st) f b A a s H E).rg (qg st) t/\t { nx:=λ_ j=>Q .aq j,rt:=Q } (start N vs) H):eW P w K mg base fN (k+1) f fd ps sp:=by
 obtain⟨o,r,kV,l,u,an,b,ct,n,rfl,lk,e⟩:=F.ex;refine Zd lk e S i λA a s H vs Q E m g=>?_
 obtain⟨t,h,q⟩:=d b rfl A a s H vs Q E m g;exact⟨t,h.rg,q⟩
end
theorem mM(a:aN k A):A.units+1<cLine:=mZ (Nat.add_le_add_left (by decide:1<=64) _) a.units
theorem qE{A B:Prop}(h:B):if false=true then A else B:=by
 rw[ae gX];exact h
theorem qD{A B:Prop}(h:A):if true=true then A else B:=by
 rw[ai rfl];exact h
section
variable {X:Cx}
theorem Sx:dm X (.builtin "len") (λxs H Q=>∃a kvs,xs= [V.ref a]/\H a=some (.dK kvs)/\Q (.int kvs.length) H):=by
 intro pins s σ H xs us Q I r h;obtain⟨a,kvs,rfl,ha,q⟩:=h;obtain⟨u,rfl,ru⟩:=vals1 r;cases ru;exact Zj I (.inl ha) λt s' I'=>⟨.int kvs.length,H,I',⟨t,rfl⟩,q⟩
end
section
variable {κ:Type}[DecidableEq κ]
theorem UM{k:κ}{v:V}(h:fK kvs k=some v):k∈kvs.map (·.1):=by
 have q:(kvs.any λkv=>decide (kv.1=k))=true:=by
  rw[ya,h]
  all_goals rfl
 obtain⟨p,hp,e⟩:=gL.mp q;exact aP.mpr ⟨p,hp,jo e⟩
end
end L2
namespace R
open PySem PySem.Spec PyProof.Rows L2
inductive RV where
 |aq|bl (b:Bool)|int (i:Int)|str (x:Str)|ref (a:Addr)|ty (n:String)
 |tup (xs:List RV)|ls (xs:List RV)
abbrev LR:=List RV
abbrev bP:=List (Key×RV)
def Fz(K:ag)(H:Hp)(a:Addr)(vs:LV):Prop:=
 (∃o,H a=some (.bj o (.lst vs)))∨
  ∃(o:Obj) (ab:Array Value) (n:Nat),K.lookup a=some o/\o.cls= .type "list"/\o.dict=Option.none/\o.data= .seq ab n/\ab.size<=sizeLine/\Vals vs ab.toList
theorem Fz.sq{K:ag}{a:Addr}{vs:LV}(h:Fz K H a vs):dE K H a vs:=by
 rcases h with⟨o,h⟩|h
 . exact .inl (.inr ⟨o,h⟩)
 . exact .inr h
instance {K:ag} {H:Hp} {a:Addr} {xs:LV}:Coe (H a=some (HO.tup xs)) (bZ K H a xs):=⟨bZ.of⟩
mutual
def Rep(K:ag)(H:Hp):RV->V->Prop
 | .aq,v=>v= .aq
 | .bl b,v=>v= .bl b
 | .int i,v=>v= .int i
 | .str x,v=>v= .str x
 | .ref a,v=>v= .ref a
 | .ty n,v=>v= .ty n
 | .tup xs,v=>∃a vs,v= .ref a/\H a=some (.tup vs)/\aa K H xs vs
 | .ls xs,v=>∃a vs,v= .ref a/\Fz K H a vs/\aa K H xs vs
def aa(K:ag)(H:Hp):LR->LV->Prop
 | [],vs=>vs= []
 |x::xs,vs=>∃v r,vs=v::r/\Rep K H x v/\aa K H xs r
end
def jO:HO->Bool
 | .dK _=>true
 | .dT _=>true
 |_=>false
structure bu(H H':Hp):Prop where
 bq:∀b xs,H b=some (.tup xs)->H' b=some (.tup xs)
 aK:∀b o u,jO u=false->H b=some (.bj o u)->H' b=some (.bj o u)
structure Ext(H H':Hp):Prop where
 bq:∀b xs,H b=some (.tup xs)->H' b=some (.tup xs)
 aK:∀b o u,H b=some (.bj o u)->H' b=some (.bj o u)
theorem Ext.w(e:Ext H H'):bu H H':=⟨e.bq,λb o u _ h=>e.aK b o u h⟩
theorem Ext.refl(H):Ext H H:=⟨λ_ _ h=>h,λ_ _ _ h=>h⟩
theorem Ext.trans{H H1 d:Hp}(a:Ext H H1)(b:Ext H1 d):Ext H d:=⟨λc x h=>b.bq c x (a.bq c x h),λc o x h=>b.aK c o x (a.aK c o x h)⟩
theorem bu.trans{H H1 d:Hp}(a:bu H H1)(b:bu H1 d):bu H d:=⟨λc x h=>b.bq c x (a.bq c x h),λc o x n h=>b.aK c o x n (a.aK c o x n h)⟩
theorem Ext.new{p:Addr}(h:H p=none):Ext H (upd H p o):=
 ⟨λb a e=>by rw[au (fh e h)];exact e,λb o a e=>by rw[au (fh e h)];exact e⟩
def Pb:HO->Bool
 | .tup _=>false
 | .bj _ _=>false
 |_=>true
theorem bu.cB{p:Addr}(h:H p=some (.bj o u))(s:jO u=true){v:HO}:bu H (upd H p v):=by
 refine⟨λb c e=>?_,λb ob c a e=>?_⟩
 . have n:b≠p:=by rintro rfl;rw[h]at e;cases e
   rw[au n];exact e
 . have n:b≠p:=by rintro rfl;rw[h]at e;cases e;rw[s]at a;cases a
   rw[au n];exact e
theorem Ext.write{p:Addr}(h:H p=some o)(s:Pb o=true):Ext H (upd H p o'):=by
 refine⟨λb a e=>?_,λb ob a e=>?_⟩
 . have n:b≠p:=by rintro rfl;rw[h]at e;cases e;cases s
   rw[au n];exact e
 . have n:b≠p:=by rintro rfl;rw[h]at e;cases e;cases s
   rw[au n];exact e
theorem bZ.ba{K:ag}{a:Addr}{vs:LV}(e:bu H H')(h:bZ K H a vs):bZ K H' a vs:=by
 rcases h with(h|⟨o,h⟩)|h
 . exact .inl (.inl (e.bq _ _ h))
 . exact .inl (.inr ⟨o,e.aK _ _ _ rfl h⟩)
 . exact .inr h
theorem Fz.ba{K:ag}{a:Addr}{vs:LV}(e:bu H H')(h:Fz K H a vs):Fz K H' a vs:=by
 rcases h with⟨o,h⟩|h
 . exact .inl ⟨o,e.aK _ _ _ rfl h⟩
 . exact .inr h
mutual
theorem Rep.ba{K:ag}{H H':Hp}(e:bu H H'):∀(r:RV) (v:V),Rep K H r v->Rep K H' r v
 | .aq,v,h=>by simpa only[Rep]using h
 | .bl _,v,h=>by simpa only[Rep]using h
 | .int _,v,h=>by simpa only[Rep]using h
 | .str _,v,h=>by simpa only[Rep]using h
 | .ref _,v,h=>by simpa only[Rep]using h
 | .ty _,v,h=>by simpa only[Rep]using h
 | .tup xs,v,h=>by
  simp only[Rep]at h ⊢;obtain⟨a,vs,e1,h1,h2⟩:=h;exact⟨a,vs,e1,e.bq _ _ h1,aa.ba e xs vs h2⟩
 | .ls xs,v,h=>by
  simp only[Rep]at h ⊢;obtain⟨a,vs,e1,h1,h2⟩:=h;exact⟨a,vs,e1,h1.ba e,aa.ba e xs vs h2⟩
theorem aa.ba{K:ag}{H H':Hp}(e:bu H H'):∀(rs:LR) (vs:LV),aa K H rs vs->aa K H' rs vs
 | [],vs,h=>by simpa only[aa]using h
 |x::xs,vs,h=>by
  simp only[aa]at h ⊢;obtain⟨v,r,e1,h1,h2⟩:=h;exact⟨v,r,e1,Rep.ba e x v h1,aa.ba e xs r h2⟩
end
section
variable {K:ag}{H:Hp}
theorem aa.cons{x:RV}{v:V}{vs:LV}(h:Rep K H x v)(t:aa K H xs vs):aa K H (x::xs) (v::vs):=by
 simp only[aa];exact⟨v,vs,rfl,h,t⟩
theorem aa.nil:aa K H [] []:=by simp only[aa]
theorem aa.length:∀{xs:LR} {vs:LV},aa K H xs vs->xs.length=vs.length
 | [],vs,h=>by simp only[aa]at h;subst h;rfl
 |x::xs,vs,h=>by
  simp only[aa]at h;obtain⟨v,r,rfl,_,t⟩:=h;simp[aa.length t]
theorem aa.get:∀{xs:LR} {vs:LV} {i:Nat} {x:RV},aa K H xs vs->xs[i]? =some x->∃v,vs[i]? =some v/\Rep K H x v
 | [],_,_,_,_,e=>by simp at e
 |y::xs,vs,0,x,h,e=>by
  simp only[aa]at h;obtain⟨v,r,rfl,a,_⟩:=h;simp at e;subst e;exact⟨v,by simp,a⟩
 |y::xs,vs,i+1,x,h,e=>by
  simp only[aa]at h;obtain⟨v,r,rfl,_,t⟩:=h;obtain⟨u,a,b⟩:=aa.get (i:=i) t (by simpa using e)
  exact⟨u,by simpa using a,b⟩
theorem aa.append:∀{xs a:LR} {vs ws:LV},aa K H xs vs->aa K H a ws->aa K H (xs++a) (vs++ws)
 | [],_,vs,_,h,t=>by simp only[aa]at h;subst h;simpa using t
 |x::xs,a,vs,ws,h,t=>by
  simp only[aa]at h;obtain⟨v,r,rfl,b,c⟩:=h;exact aa.cons b (aa.append c t)
theorem aa.take:∀{xs:LR} {vs:LV} (n:Nat),aa K H xs vs->aa K H (xs.take n) (vs.take n)
 |_,_,0,_=>by simpa using aa.nil
 | [],vs,n+1,h=>by simp only[aa]at h;subst h;simpa using aa.nil
 |x::xs,vs,n+1,h=>by
  simp only[aa]at h;obtain⟨v,r,rfl,a,b⟩:=h;exact aa.cons a (aa.take n b)
theorem aa.drop:∀{xs:LR} {vs:LV} (n:Nat),aa K H xs vs->aa K H (xs.drop n) (vs.drop n)
 |_,_,0,h=>by simpa using h
 | [],vs,n+1,h=>by simp only[aa]at h;subst h;simpa using aa.nil
 |x::xs,vs,n+1,h=>by
  simp only[aa]at h;obtain⟨v,r,rfl,b,a⟩:=h;exact aa.drop n a
theorem aa.set{x:RV}{v:V}(hx:Rep K H x v):∀{xs:LR} {vs:LV} (i:Nat),aa K H xs vs->aa K H (xs.set i x) (vs.set i v)
 | [],vs,i,h=>by simp only[aa]at h;subst h;simpa using aa.nil
 |y::xs,vs,0,h=>by
  simp only[aa]at h;obtain⟨w,r,rfl,b,a⟩:=h;exact aa.cons hx a
 |y::xs,vs,i+1,h=>by
  simp only[aa]at h;obtain⟨w,r,rfl,b,a⟩:=h;exact aa.cons b (aa.set hx i a)
theorem aa.bQ{vs:LV}{i:Int}{x:RV}(h:aa K H xs vs)(e:L2.bQ xs i=some x):∃v,L2.bQ vs i=some v/\Rep K H x v:=by
 unfold L2.bQ at e ⊢;rw[<-h.length];cases q:f7 xs.length i with
 |none=>rw[q]at e;cases e
 |some j=>rw[q]at e;exact h.get (by simpa using e)
end
inductive RO where
 |lst (xs:LR)
 |dk (kvs:bP)
 |dt (kvs:List (List bV×RV))
 |ins (C:Addr) (fs:List (Str×RV))
 |fk (kvs:bP)
 |ft (kvs:List (List bV×RV))
 |tb (P:Addr) (pos:Pos) (q:Str)
noncomputable def gx (P:Addr)(pos:Pos)(x:Option Addr):Heap->Prop:=λh=>h.get? P=some { cls:=.none,data:=.fields (match x with|none=>#[]|some c=>#[rawInt pos.line,rawInt pos.col,.ref c]) }
abbrev RM:=Addr->Option RO
def put(M:RM)(a:Addr)(o:RO):RM:=λb=>if b=a then some o else M b
theorem bw{a:Addr}:put M a o a=some o:=by unfold put;rw[ai rfl]
theorem ao{a b:Addr}(h:b≠a):put M a o b=M b:=by unfold put;rw[ae h]
theorem gq{a:Addr}:put (put M a o) a o'=put M a o':=by
 funext b;unfold put;split<;>rfl
noncomputable def aH(K:ag)(H:Hp):List (κ×RV)->List (κ×V)->Prop
 | [],ws=>ws= []
 |(k,x)::r,ws=>∃v t,ws=(k,v)::t/\Rep K H x v/\aH K H r t
theorem aH.ba{K:ag}(e:bu H H'):∀{a:List (κ×RV)} {ws:List (κ×V)},aH K H a ws->aH K H' a ws
 | [],_,h=>h
 |(k,x)::r,ws,h=>by
  obtain⟨v,t,e1,b,c⟩:=h;exact⟨v,t,e1,Rep.ba e x v b,aH.ba e c⟩
noncomputable def de (K:ag)(H:Hp):RO->HO->Prop
 | .lst xs,o=>∃vs,o= .lst vs/\aa K H xs vs
 | .dk kvs,o=>∃a,o= .dK a/\aH K H kvs a
 | .dt kvs,o=>∃a,o= .dT a/\aH K H kvs a
 | .ins C fs,o=>∃e b,o= .ins C e b/\aH K H fs b
 | .fk kvs,o=>∃ob a,o= .bj ob (.dK a)/\aH K H kvs a
 | .ft kvs,o=>∃ob a,o= .bj ob (.dT a)/\aH K H kvs a
 | .tb P pos q,o=>o= .ext (gx P pos none)∨∃c d vs t,o= .ext (gx P pos (some c))/\H c=some (.bj d (.own c))/\d.data= .fields vs/\vs[1]? =some (.str q t)
theorem de.ba{K:ag}(e:bu H H'):∀{o:RO} {ho:HO},de K H o ho->de K H' o ho
 | .lst xs,_,h=>by obtain⟨vs,e1,a⟩:=h;exact⟨vs,e1,aa.ba e xs vs a⟩
 | .dk _,_,h=>by obtain⟨f,e1,a⟩:=h;exact⟨f,e1,a.ba e⟩
 | .dt _,_,h=>by obtain⟨f,e1,a⟩:=h;exact⟨f,e1,a.ba e⟩
 | .ins _ _,_,h=>by obtain⟨b,d,e1,a⟩:=h;exact⟨b,d,e1,a.ba e⟩
 | .fk _,_,h=>by obtain⟨b,d,e1,a⟩:=h;exact⟨b,d,e1,a.ba e⟩
 | .ft _,_,h=>by obtain⟨b,d,e1,a⟩:=h;exact⟨b,d,e1,a.ba e⟩
 | .tb _ _ _,_,h=>h.imp id λ⟨c,i,vs,t,e1,a,g⟩=>⟨c,i,vs,t,e1,e.aK _ _ _ rfl a,g⟩
theorem de.zU{K:ag}{p:Addr}{v:HO}:∀{o:RO} {ho:HO},de K H o ho->H p=some ho->bu H (upd H p v)
 | .lst _,_,h,e=>by obtain⟨_,rfl,_⟩:=h;exact(Ext.write e rfl).w
 | .dk _,_,h,e=>by obtain⟨_,rfl,_⟩:=h;exact(Ext.write e rfl).w
 | .dt _,_,h,e=>by obtain⟨_,rfl,_⟩:=h;exact(Ext.write e rfl).w
 | .ins _ _,_,h,e=>by obtain⟨_,_,rfl,_⟩:=h;exact(Ext.write e rfl).w
 | .fk _,_,h,e=>by obtain⟨_,_,rfl,_⟩:=h;exact bu.cB e rfl
 | .ft _,_,h,e=>by obtain⟨_,_,rfl,_⟩:=h;exact bu.cB e rfl
 | .tb _ _ _,_,h,e=>by rcases h with rfl|⟨_,_,_,_,rfl,_⟩<;>exact(Ext.write e rfl).w
section
variable {K:ag}{H H':Hp}
theorem bZ.ext{a:Addr}{vs:LV}(e:Ext H H')(h:bZ K H a vs):bZ K H' a vs:=bZ.ba e.w h
theorem Fz.ext{a:Addr}{vs:LV}(h:Fz K H a vs)(e:Ext H H'):Fz K H' a vs:=h.ba e.w
theorem Rep.ext(e:Ext H H')(r)(v)(h:Rep K H r v):Rep K H' r v:=Rep.ba e.w r v h
theorem aa.ext(e:Ext H H')(r)(v)(h:aa K H r v):aa K H' r v:=aa.ba e.w r v h
theorem aH.ext(h:aH K H xs ws)(e:Ext H H'):aH K H' xs ws:=aH.ba e.w h
theorem de.ext{ho:HO}(h:de K H o ho)(e:Ext H H'):de K H' o ho:=de.ba e.w h
end
def View(K:ag)(H:Hp)(M:RM):Prop:=∀a o,M a=some o->∃ho,H a=some ho/\de K H o ho
section
variable {K:ag}{H H':Hp}{M:RM}{p:Addr}{ho:HO}{o:RO}
theorem View.free(w:View K H M)(h:H p=none):M p=none:=by
 cases q:M p with
 |none=>rfl
 |some o=>obtain⟨ho,e,_⟩:=w p o q;rw[h]at e;cases e
theorem View.new(w:View K H M)(h:H p=none):View K (upd H p ho) M:=λa o e=>by
 obtain⟨b,e1,r⟩:=w a o e;exact⟨b,by rw[au (fh e1 h)];exact e1,r.ext (Ext.new h)⟩
theorem View.cj(w:View K H M)(h:H p=none)(r:de K (upd H p ho) o ho):View K (upd H p ho) (put M p o):=λa c e=>by
 by_cases b:a=p
 . subst b;rw[bw]at e;cases e;exact⟨ho,bO,r⟩
 . rw[ao b]at e;exact w.new h a c e
theorem View.write(w:View K H M)(h:M p=some o')(r:de K (upd H p ho) o ho):View K (upd H p ho) (put M p o):=λa d e=>by
 by_cases b:a=p
 . subst b;rw[bw]at e;cases e;exact⟨ho,bO,r⟩
 . rw[ao b]at e
   obtain⟨c,e1,r1⟩:=w a d e;obtain⟨i,f,g⟩:=w p o' h;exact⟨c,by rw[au b];exact e1,de.ba (g.zU f) r1⟩
end
abbrev bD:=List (Option RV)
abbrev ak:=RV->RM->Prop
abbrev ar:=bD->RM->ak->Prop
abbrev ee:=bD->RM->(Bool->RM->Prop)->Prop
abbrev bX:=bD->RM->(LR->RM->Prop)->Prop
def aR(K:ag)(H:Hp)(σ:bD)(a:L2.St):Prop:=σ.length=a.length/\∀(i:Nat) r,σ[i]? =some (some r)->∃v,a[i]? =some (some v)/\Rep K H r v
theorem aR.ba{K:ag}(h:aR K H σ σ0)(e:bu H H'):aR K H' σ σ0:=
 ⟨h.1,λi r q=>by obtain⟨v,e1,a⟩:=h.2 i r q;exact⟨v,e1,Rep.ba e r v a⟩⟩
theorem aR.ext{K:ag}(h:aR K H σ σ0)(e:Ext H H'):aR K H' σ σ0:=h.ba e.w
theorem aR.set{K:ag}{v:V}(h:aR K H σ σ0)(c:Rep K H r v)(i):aR K H (σ.set i (some r)) (σ0.set i (some v)):=by
 refine⟨by simp[h.1],λj d q=>?_⟩
 by_cases a:i=j
 . subst a
   rw[List.getElem?_set]at q;split at q
   . split at q
     . cases q;rename_i e _ ;exact⟨v,by rw[List.getElem?_set_self (by rw[<-h.1];assumption)],c⟩
     . cases q
   . rename_i z;exact aW rfl z
 . rw[List.getElem?_set_ne a]at q
   obtain⟨w,e1,b⟩:=h.2 j d q;exact⟨w,by rw[List.getElem?_set_ne a];exact e1,b⟩
def jZ(K:ag)(H:Hp)(Q:ak)(Q0:VK):Prop:=∀rv b v a,Q rv b->Ext H a->View K a b->Rep K a rv v->Q0 v a
theorem jZ.ext{K:ag}(h:jZ K H Q Q0)(e:Ext H H'):jZ K H' Q Q0:=λrv b v a q c w r=>h rv b v a q (e.trans c) w r
def up(K:ag)(t:ar):TE:=λσ0 H Q0=>∃σ M Q,aR K H σ σ0/\View K H M/\t σ M Q/\jZ K H Q Q0
def Ci(K:ag)(t:ee):TT:=λσ0 H Q0=>∃σ M Q,aR K H σ σ0/\View K H M/\t σ M Q/\∀b M' H',Q b M'->Ext H H'->View K H' M'->Q0 b H'
noncomputable def Cg (K:ag)(t:bX):TA:=λσ0 H Q0=>∃σ M Q,aR K H σ σ0/\View K H M/\t σ M Q/\∀rs M' vs H',Q rs M'->Ext H H'->View K H' M'->aa K H' rs vs->Q0 vs H'
structure RD where
 nx:bD->RM->Prop
 rt:ak
 bk:bD->RM->Prop:=λ_ _=>False
 ct:bD->RM->Prop:=λ_ _=>False
abbrev d9:=RD->bD->RM->Prop
def oY(K:ag)(H:Hp)(q:bD->RM->Prop)(q0:L2.St->Hp->Prop):Prop:=∀c M a b,q c M->Ext H b->View K b M->aR K b c a->q0 a b
theorem oY.ext{K:ag}(h:oY K H Q Q0)(e:Ext H H'):oY K H' Q Q0:=λσ M σ0 H2 q e2 w r=>h σ M σ0 H2 q (e.trans e2) w r
structure wJ(K:ag)(H:Hp)(D:RD)(D0:Ends):Prop where
 nx:oY K H D.nx D0.nx
 rt:jZ K H D.rt D0.rt
 bk:oY K H D.bk D0.bk
 ct:oY K H D.ct D0.ct
theorem wJ.ext{K:ag}(h:wJ K H D D0)(e:Ext H H'):wJ K H' D D0:=⟨h.nx.ext e,h.rt.ext e,h.bk.ext e,h.ct.ext e⟩
def Mh(K:ag)(t:d9):TS:=λD0 σ0 H=>∃σ M D,aR K H σ σ0/\View K H M/\t D σ M/\wJ K H D D0
def aj(X:Cx)(e:Expr)(t:ar):Prop:=PE X e (up X.K t)
def fb(X:Cx)(e:Expr)(t:ee):Prop:=PT X e (Ci X.K t)
def nk(X:Cx)(e:Expr)(t:ee):Prop:=PW X e (Ci X.K t)
def fI(X:Cx)(es:aV)(t:bX):Prop:=PA X es (Cg X.K t)
def fy(X:Cx)(s:Stmt)(t:d9):Prop:=PS X s (Mh X.K t)
def ka(X:Cx)(s:List Stmt)(t:d9):Prop:=gB X s (Mh X.K t)
section
variable {X:Cx}
theorem PE.imp{e:Expr}{t t':TE}(h:PE X e t)(i:∀σ H Q,t' σ H Q->t σ H Q):PE X e t':=λpins s σ H Q I w=>h pins s σ H Q I (i σ H Q w)
theorem PT.imp{e:Expr}{t t':TT}(h:PT X e t)(i:∀σ H Q,t' σ H Q->t σ H Q):PT X e t':=λpins s σ H Q I w=>h pins s σ H Q I (i σ H Q w)
theorem PW.imp{e:Expr}{t t':TT}(h:PW X e t)(i:∀σ H Q,t' σ H Q->t σ H Q):PW X e t':=λwh pins s σ H Q I w=>h wh pins s σ H Q I (i σ H Q w)
theorem PA.imp{e:aV}{t t':TA}(h:PA X e t)(i:∀σ H Q,t' σ H Q->t σ H Q):PA X e t':=λpos pins s σ H Q I w=>h pos pins s σ H Q I (i σ H Q w)
theorem PS.imp{e:Stmt}{t t':TS}(h:PS X e t)(i:∀D σ H,t' D σ H->t D σ H):PS X e t':=λpins s σ H D I w=>h pins s σ H D I (i D σ H w)
theorem gB.imp{e:List Stmt}{t t':TS}(h:gB X e t)(i:∀D σ H,t' D σ H->t D σ H):gB X e t':=λpins s σ H D I w=>h pins s σ H D I (i D σ H w)
end
section
variable {X:Cx}{a b c:Expr}{ta tb tc:ar}{tA tB:ee}{pos:Pos}{rest:aV}
def qC(i:Nat):ar:=λσ M Q=>match σ[i]? with|some (some v)=>Q v M|_=>False
def rC(v:RV):ar:=λ_ M Q=>Q v M
theorem rv(i){x:Str}(k:X.N[i]? =some x:=by rfl)(g:tj X.env.scope x)(l:(x==("__debug__":Str))=false:=by decide)
 (f:(x==("__classdict__":Str))=false:=by decide):aj X (.Name x pos) (qC i):=PE.imp (WO k g l f) λσ0 H Q h=>by
 obtain⟨o,M,n,hs,g,d,m⟩:=h;unfold qC at d;split at d
 . rename_i r e
   obtain⟨v,e1,j⟩:=hs.2 i r e;exact⟨v,e1,m r M v H d (.refl H) g j⟩
 . exact d.elim
theorem rQ{e:Expr}{v:V}(h:PE X e (tC v))(f:∀H,Rep X.K H r v):aj X e (rC r):=PE.imp h λσ0 H Q h=>by
 obtain⟨k,M,j,hs,i,g,d⟩:=h;exact d r M v H g (.refl H) i (f H)
theorem ri{i j pos}:aj X (.Constant (.int i) j pos) (rC (.int i)):=rQ JH λH=>by simp only[Rep]
theorem rb{b j pos}:aj X (.Constant (.bool b) j pos) (rC (.bl b)):=rQ YH λH=>by simp only[Rep]
theorem rn{j pos}:aj X (.Constant .none j pos) (rC .aq):=rQ WT λH=>by simp only[Rep]
theorem rs{x j pos}:aj X (.Constant (.str x) j pos) (rC (.str x)):=rQ Bk λH=>by simp only[Rep]
theorem Kh{x:Str}{v:V}(f:X.mg x=some u)(h:RelV v u)(g:∀H,Rep X.K H r v)(e:Gl X x:=by rfl)(d:(x==("__debug__":Str))=false:=by decide):aj X (.Name x pos) (rC r):=
 rQ (U9 e f h d) g
theorem vo{x:Str}{v:V}(f:X.mg x=none)(i:bootBuiltins x=some u)(j:RelV v u)(h:∀H,Rep X.K H r v)(e:Gl X x:=by rfl)(g:x≠"__name__":=by decide)(d:(x==("__debug__":Str))=false:=by decide):aj X (.Name x pos) (rC r):=
 rQ (Vb e f i j g d) h
abbrev cM:=RV->RV->RM->ak->Prop
def sN(K:ag)(g:cM):R2:=λx y H f=>∃d e M Q,Rep K H d x/\Rep K H e y/\View K H M/\g d e M Q/\jZ K H Q f
def dz(X:Cx)(f:Value->Value->Sem Value)(d:cM):Prop:=eI X f (sN X.K d)
def ou(rr:cM)(ta tb:ar):ar:=λσ M Q=>ta σ M λx M1=>tb σ M1 λy M2=>rr x y M2 Q
theorem yy{K:ag}(h:up K (ou rr ta tb) σ0 H Q0):sM (sN K rr) (up K ta) (up K tb) σ0 H Q0:=by
 obtain⟨σ,M,Q,hs,hv,ht,hk⟩:=h;refine⟨σ,M,_,hs,hv,ht,λrx M1 x H1 hb e1 v1 r1=>?_⟩
 refine⟨σ,M1,_,hs.ext e1,v1,hb,λry M2 y H2 hr e2 v2 r2=>?_⟩
 exact⟨rx,ry,M2,Q,Rep.ext e2 rx x r1,r2,v2,hr,hk.ext (e1.trans e2)⟩
theorem ZV{op:Operator}(ho:dz X (binaryOp op) rr)(d:aj X a ta)(e:aj X b tb):aj X (.BinOp a op b pos) (ou rr ta tb):=PE.imp (YE ho d e) λ_ _ _ h=>yy h
theorem OL{op:CmpOp}(ho:dz X (compareOp op) rr)(d:aj X a ta)(e:aj X b tb)(f:behindInMarks op b=false):aj X (.Compare a [op] [b] pos) (ou rr ta tb):=
 PE.imp (IS ho d e f) λ_ _ _ h=>yy h
def mK(t:ar):ee:=λσ M Q=>t σ M λv M'=>match v with| .bl k=>Q k M'|_=>False
theorem qi{K:ag}{H:Hp}{Q:Bool->RM->Prop}{Q0:Bool->Hp->Prop}(hk:∀b f d,Q b f->Ext H d->View K d f->Q0 b d):
 jZ K H (λv f=>match v with| .bl k=>Q k f|_=>False) (λx d=>∃k,x= .bl k/\Q0 k d):=λrv f v d q e w r=>by
 cases rv with
 |bl k=>simp only[Rep]at r;exact⟨k,r,hk k f d q e w⟩
 |_=>exact q.elim
theorem Y0{op:CmpOp}(ho:dz X (compareOp op) rr)(d:aj X a ta)(e:aj X b tb)(g:behindInMarks op b=false):fb X (.Compare a [op] [b] pos) (mK (ou rr ta tb)):=
 PT.imp (Ik ho d e g) λσ0 H l h=>by
  obtain⟨k,M,Q,hs,j,i,f⟩:=h;exact yy ⟨k,M,_,hs,j,i,qi f⟩
theorem YY{e:Expr}{t:ar}(h:aj X e t)(f:∀d,isTrue e X.env d=(do let v<-d;standAt e.pos;holding [v] (truthy v)):=by intro _;rfl):fb X e (mK t):=
 PT.imp (VJ h f) λσ0 H l h=>by
  obtain⟨k,M,Q,hs,j,i,g⟩:=h;exact⟨k,M,_,hs,j,i,qi g⟩
noncomputable def rS (rr rr':cM)(ta tb tc:ar):ar:=λσ M Q=>ta σ M λx M1=>tb σ M1 λy M2=>rr x y M2 λz M3=>match z with
 | .bl k=>(k=true->tc σ M3 λw M4=>rr' y w M4 Q)/\(k=false->Q (.bl false) M3)
 |_=>False
theorem Ht{K:ag}(h:up K (rS rr rr' ta tb tc) σ0 H Q0):Bh (sN K rr) (sN K rr') (up K ta) (up K tb) (up K tc) σ0 H Q0:=by
 obtain⟨σ,M,Q,hs,hv,ht,hk⟩:=h;refine⟨σ,M,_,hs,hv,ht,λrx M1 x H1 hb e1 v1 r1=>?_⟩
 refine⟨σ,M1,_,hs.ext e1,v1,hb,λry M2 y H2 hr e2 v2 r2=>?_⟩
 refine⟨rx,ry,M2,_,Rep.ext e2 rx x r1,r2,v2,hr,λrz M3 z H3 hz e3 v3 r3=>?_⟩
 cases rz with
 |bl k=>
  simp only[Rep]at r3;refine⟨k,r3,?_⟩;have e13:=(e1.trans e2).trans e3;cases k with
  |true=>
   refine qD ?_;refine⟨σ,M3,_,hs.ext e13,v3,hz.1 rfl,λrw M4 w H4 hw e4 v4 r4=>?_⟩
   exact⟨ry,rw,M4,Q,Rep.ext (e3.trans e4) ry y r2,r4,v4,hw,hk.ext (e13.trans e4)⟩
  |false=>exact qE (hk _ M3 _ H3 (hz.2 rfl) e13 v3 (by simp only[Rep]))
 |_=>exact hz.elim
theorem VW{op d:CmpOp}(ho:dz X (compareOp op) rr)(e:dz X (compareOp d) rr')(f:aj X a ta)(g:aj X b tb)(i:aj X c tc)(j:lastMarks [op,d] [b,c]=false:=by with_unfolding_all rfl):
 aj X (.Compare a [op,d] [b,c] pos) (rS rr rr' ta tb tc):=PE.imp (TY ho e f g i j) λ_ _ _ h=>Ht h
theorem UC{op d:CmpOp}(ho:dz X (compareOp op) rr)(e:dz X (compareOp d) rr')(f:aj X a ta)(g:aj X b tb)(i:aj X c tc)(k:lastMarks [op,d] [b,c]=false:=by with_unfolding_all rfl):
 fb X (.Compare a [op,d] [b,c] pos) (mK (rS rr rr' ta tb tc)):=PT.imp (TH ho e f g i k) λσ0 H o h=>by
 obtain⟨n,M,Q,hs,m,l,j⟩:=h;exact Ht ⟨n,M,_,hs,m,l,qi j⟩
def zf(t u:ee):ee:=λσ M Q=>t σ M λc M1=>(c=true->u σ M1 Q)/\(c=false->Q false M1)
def zv(t u:ee):ee:=λσ M Q=>t σ M λc M1=>(c=true->Q true M1)/\(c=false->u σ M1 Q)
def Fb(t:ee):ee:=λσ M Q=>t σ M λc M1=>Q (!c) M1
theorem Ys(d:fb X a tA):nk X (.BoolOp .And [a] pos) tA:=Ul d
theorem OH(d:fb X a tA):nk X (.BoolOp .Or [a] pos) tA:=VH d
theorem rand(l:fb X a tA)(m:nk X (.BoolOp .And (b::rest) pos) tB):nk X (.BoolOp .And (a::b::rest) pos) (zf tA tB):=PW.imp (VI l m) λσ0 H r h=>by
 obtain⟨f,M,Q,hs,o,n,d⟩:=h;refine⟨f,M,_,hs,o,n,λk M1 H1 q e1 e=>?_⟩
 cases k with
 |true=>exact qD ⟨f,M1,Q,hs.ext e1,e,q.1 rfl,λb i g z j w=>d b i g z (e1.trans j) w⟩
 |false=>exact qE (d false M1 H1 (q.2 rfl) e1 e)
theorem Me(l:fb X a tA)(m:nk X (.BoolOp .Or (b::rest) pos) tB):nk X (.BoolOp .Or (a::b::rest) pos) (zv tA tB):=PW.imp (Yy l m) λσ0 H r h=>by
 obtain⟨f,M,Q,hs,o,n,d⟩:=h;refine⟨f,M,_,hs,o,n,λk M1 H1 q e1 e=>?_⟩
 cases k with
 |true=>exact qD (d true M1 H1 (q.1 rfl) e1 e)
 |false=>exact qE ⟨f,M1,Q,hs.ext e1,e,q.2 rfl,λb i g z j w=>d b i g z (e1.trans j) w⟩
theorem zx(h:nk X a tA):fb X a tA:=PW.pt h
theorem YZ(d:fb X a tA):fb X (.UnaryOp .Not a pos) (Fb tA):=PT.imp (VL d) λσ0 H l h=>by
 obtain⟨j,M,Q,hs,g,f,e⟩:=h;exact⟨j,M,_,hs,g,f,λk M1 H1 q e1 i=>e (!k) M1 H1 q e1 i⟩
def yM(ta tb:ar):ar:=λσ M Q=>ta σ M λx M1=>match x with| .bl c=>(c=true->tb σ M1 Q)/\(c=false->Q (.bl false) M1)|_=>False
def y8(ta tb:ar):ar:=λσ M Q=>ta σ M λx M1=>match x with| .bl c=>(c=true->Q (.bl true) M1)/\(c=false->tb σ M1 Q)|_=>False
def Kn(ta:ar):ar:=λσ M Q=>ta σ M λx M1=>match x with| .bl c=>Q (.bl (!c)) M1|_=>False
theorem E2{op}{t:ar}(h:aj X a t):aj X (.BoolOp op [a] pos) t:=WR h
theorem Kk(ha:aj X a ta)(hb:aj X (.BoolOp .And (b::rest) pos) tb):aj X (.BoolOp .And (a::b::rest) pos) (yM ta tb):=PE.imp (WV ha hb) λσ0 H Q0 h=>by
 obtain⟨σ,M,Q,hs,hv,ht,hk⟩:=h;refine⟨σ,M,_,hs,hv,ht,λrx M1 x H1 q e1 v1 r1=>?_⟩
 cases rx with
 |bl k=>
  simp only[Rep]at r1;refine⟨k,r1,?_⟩;cases k with
  |true=>exact qD ⟨σ,M1,Q,hs.ext e1,v1,q.1 rfl,hk.ext e1⟩
  |false=>exact qE (hk _ M1 _ H1 (q.2 rfl) e1 v1 (by simp only[Rep]))
 |_=>exact q.elim
theorem EZ(ha:aj X a ta)(hb:aj X (.BoolOp .Or (b::rest) pos) tb):aj X (.BoolOp .Or (a::b::rest) pos) (y8 ta tb):=PE.imp (YD ha hb) λσ0 H Q0 h=>by
 obtain⟨σ,M,Q,hs,hv,ht,hk⟩:=h;refine⟨σ,M,_,hs,hv,ht,λrx M1 x H1 q e1 v1 r1=>?_⟩
 cases rx with
 |bl k=>
  simp only[Rep]at r1;refine⟨k,r1,?_⟩;cases k with
  |true=>exact qD (hk _ M1 _ H1 (q.1 rfl) e1 v1 (by simp only[Rep]))
  |false=>exact qE ⟨σ,M1,Q,hs.ext e1,v1,q.2 rfl,hk.ext e1⟩
 |_=>exact q.elim
theorem Y1(ha:aj X a ta):aj X (.UnaryOp .Not a pos) (Kn ta):=PE.imp (WS ha) λσ0 H Q0 h=>by
 obtain⟨σ,M,Q,hs,hv,ht,hk⟩:=h;refine⟨σ,M,_,hs,hv,ht,λrx M1 x H1 q e1 v1 r1=>?_⟩
 cases rx with
 |bl k=>simp only[Rep]at r1;exact⟨k,r1,hk _ M1 _ H1 q e1 v1 (by simp only[Rep])⟩
 |_=>exact q.elim
def zu(t:ee)(ta tb:ar):ar:=λσ M Q=>t σ M λc M1=>(c=true->ta σ M1 Q)/\(c=false->tb σ M1 Q)
theorem ZS(j:fb X c tA)(g:aj X a ta)(i:aj X b tb):aj X (.IfExp c a b pos) (zu tA ta tb):=PE.imp (TR j g i) λσ0 H n h=>by
 obtain⟨d,M,Q,hs,m,l,e⟩:=h;refine⟨d,M,_,hs,m,l,λk M1 H1 q e1 f=>?_⟩
 cases k with
 |true=>exact qD ⟨d,M1,Q,hs.ext e1,f,q.1 rfl,e.ext e1⟩
 |false=>exact qE ⟨d,M1,Q,hs.ext e1,f,q.2 rfl,e.ext e1⟩
variable {e:Expr}{es:aV}{te:ar}{t:bX}
def mV:bX:=λ_ M Q=>Q [] M
def sh(ta:ar)(tr:bX):bX:=λσ M Q=>ta σ M λx M1=>tr σ M1 λxs M2=>Q (x::xs) M2
theorem B1:fI X [] mV:=PA.imp WW λσ0 H i h=>by
 obtain⟨j,M,Q,hs,g,f,d⟩:=h;exact d [] M [] H f (.refl H) g aa.nil
theorem yQ(ha:aj X e te)(hr:fI X es t)(hs:starEach (e::es) X.env=(false,eval e X.env)::starEach es X.env:=by rfl):fI X (e::es) (sh te t):=PA.imp (Vc ha hr hs) λσ0 H Q0 h=>by
 obtain⟨σ,M,Q,hs,hv,ht,hk⟩:=h;refine⟨σ,M,_,hs,hv,ht,λrx M1 x H1 q e1 v1 r1=>?_⟩
 refine⟨σ,M1,_,hs.ext e1,v1,q,λrs M2 vs H2 q2 e2 v2 r2=>?_⟩
 exact hk (rx::rs) M2 (x::vs) H2 q2 (e1.trans e2) v2 (aa.cons (Rep.ext e2 rx x r1) r2)
def E3(t:bX):ar:=λσ M Q=>t σ M λrs M1=>rs.length<=sizeLine/\Q (.tup rs) M1
theorem rL{K:ag}{p:Addr}{rs:LR}{vs:LV}(h:H p=none)(r:aa K H rs vs):Rep K (upd H p (.tup vs)) (.tup rs) (.ref p):=by
 simp only[Rep];exact⟨p,vs,rfl,bO,aa.ext (Ext.new h) rs vs r⟩
theorem j4{K:ag}{p:Addr}{rs:LR}{vs:LV}(h:H p=none)(r:aa K H rs vs):Rep K (upd H p (.bj o (.lst vs))) (.ls rs) (.ref p):=by
 simp only[Rep];exact⟨p,vs,rfl,.inl ⟨o,bO⟩,aa.ext (Ext.new h) rs vs r⟩
theorem OF{x1}(h:fI X es t):aj X (.Tuple es x1 pos) (E3 t):=PE.imp (WQ h) λσ0 H l h=>by
 obtain⟨k,M,Q,hs,i,g,f⟩:=h;refine⟨k,M,_,hs,i,g,λrs M1 vs H1 q e1 j r1=>⟨by rw[<-r1.length];exact q.1,λp d=>?_⟩⟩
 exact f _ M1 _ _ q.2 (e1.trans (Ext.new d)) (j.new d) (rL d r1)
def Ej(t:bX):ar:=λσ M Q=>t σ M λrs M1=>rs.length<=sizeLine/\∀p,M1 p=none->Q (.ref p) (put M1 p (.lst rs))
theorem OI(h:fI X es t):aj X (.List es pos) (Ej t):=PE.imp (JG h) λσ0 H l h=>by
 obtain⟨k,M,Q,hs,j,i,g⟩:=h;refine⟨k,M,_,hs,j,i,λrs M1 vs H1 q e1 f r1=>⟨by rw[<-r1.length];exact q.1,λp d=>?_⟩⟩
 exact g _ _ _ _ (q.2 p (f.free d)) (e1.trans (Ext.new d)) (f.cj d ⟨vs,rfl,aa.ext (Ext.new d) rs vs r1⟩) (by simp only[Rep])
end
section
variable {X:Cx}{pins:aJ}{σ:L2.St}{H:Hp}{s:Shared}
theorem freeze{p:Addr}(I:Inv X pins σ H s)(h:H p=some (.lst xs)):∃o,Inv X pins σ (upd H p (.bj o (.lst xs))) s:=by
 have m:xs.length<=sizeLine/\∃(ab:az) (n:Nat),Vals xs ab/\s.heap.get? p=some { cls:=.type "list",data:=.seq ab.toArray n }:=I.av p _ h;obtain⟨z,ab,n,r,e⟩:=id m;have d:∀b,H b=none->b≠p:=λb q w=>by subst w;rw[h]at q;cases q
 refine⟨{ cls:=.type "list",data:=.seq ab.toArray n },⟨I.ok,I.os,I.bare,⟨I.base.keep,I.base.slot,λb o q w x=>?_,I.base.there,λb f q=>?_,λb o u q=>?_,λb t q=>?_⟩,I.loc,I.cell,?_,λx c q=>?_,λq l=>?_,λb u q=>?_,I.len⟩⟩
 . have:=I.base.free b o q w x
   rw[au (d b this)];exact this
 . have e1:=I.base.bq b f q
   rw[au (jL e1 h (by intro z;cases z))];exact e1
 . have e1:=I.base.aK b o u q
   rw[au (jL e1 h (by intro z;cases z))];exact e1
 . obtain⟨a,e1⟩:=I.base.fm b t q
   exact⟨a,by rw[au (jL e1 h (by intro z;cases z))];exact e1⟩
 . rw[au (d _ I.free)];exact I.free
 . have:=I.bT x c q
   rw[au (d _ this)];exact this
 . obtain⟨j,g,k⟩:=I.pin q l
   exact⟨j,by rw[au (d _ g)];exact g,k⟩
 . by_cases i:b=p
   . subst i
     rw[bO]at q;cases q;exact⟨e,z,ab,n,r,e⟩
   . rw[au i]at q
     refine(I.av b u q).fj (λ_ _ _ q=>q) (λc q=>?_) λc v q=>?_
     . rw[au (jL q h (by intro z;cases z))];exact q
     . rw[au (jL q h (by intro z;cases z))];exact q
theorem frozen(h:EP X pins σ (λv a=>∃H1 p xs,v= .ref p/\H1 p=none/\a=upd H1 p (.lst xs)/\∀o,Q (.ref p) (upd H1 p (.bj o (.lst xs)))) u s):EP X pins σ Q u s:=by
 obtain⟨v,a,I,r,H1,p,xs,rfl,c,rfl,q⟩:=h;obtain⟨o,b⟩:=freeze I (p:=p) (xs:=xs) bO;rw[Iw]at b;exact⟨.ref p,_,b,r,q o⟩
end
section
variable {X:Cx}{es:aV}{t:bX}{pos:Pos}
def Ek(t:bX):ar:=λσ M Q=>t σ M λrs M1=>rs.length<=sizeLine/\Q (.ls rs) M1
theorem OJ(h:fI X es t):aj X (.List es pos) (Ek t):=λpins s σ0 H Q0 I hw=>by
 obtain⟨σ,M,Q,hs,hv,ht,hk⟩:=hw;refine aB (JG h pins s σ0 H (λv H'=>∃H1 p xs,v= .ref p/\H1 p=none/\H'=upd H1 p (.lst xs)/\∀o,Q0 (.ref p) (upd H1 p (.bj o (.lst xs)))) I ?_) λ_ _ e=>frozen e
 refine⟨σ,M,_,hs,hv,ht,λrs M1 vs H1 q e1 v1 r1=>⟨by rw[<-r1.length];exact q.1,λp hp=>⟨H1,p,vs,rfl,hp,rfl,λo=>?_⟩⟩⟩
 exact hk _ M1 _ _ q.2 (e1.trans (Ext.new hp)) (v1.new hp) (j4 hp r1)
end
section
variable {X:Cx}{st:Stmt}{rest:List Stmt}{t u:d9}{e:Expr}{te:ar}{pos:Pos}
def Ko:d9:=λD a M=>D.nx a M
def E5(t u:d9):d9:=λD a M=>t { D with nx:=u D } a M
theorem N7:ka X [] Ko:=gB.imp Um λD0 a H h=>by
 obtain⟨f,M,D,hs,d,c,b⟩:=h;exact b.nx f M a H c (.refl H) d hs
theorem XU(h1:fy X st t)(h2:ka X rest u):ka X (st::rest) (E5 t u):=gB.imp (TJ h1 h2) λD0 σ0 H h=>by
 obtain⟨σ,M,D,hs,hv,ht,hd⟩:=h;refine⟨σ,M,_,hs,hv,ht,⟨λσ' M' σ0' H' q e w r=>?_,hd.rt,hd.bk,hd.ct⟩⟩
 exact⟨σ',M',D,r,w,q,hd.ext e⟩
def Ks(te:ar):d9:=λD a M=>te a M λ_ M1=>D.nx a M1
theorem XT(d:aj X e te)(hs:swapsWith e none pos.line X.env=pure false:=by rfl):fy X (.Expr e pos) (Ks te):=PS.imp (Up d hs) λD0 a H h=>by
 obtain⟨b,M,D,hs,g,f,c⟩:=h;exact⟨b,M,_,hs,g,f,λrx M1 x H1 q e1 i r1=>c.nx b M1 a H1 q e1 i (hs.ext e1)⟩
def E6(te:ar):d9:=λD a M=>te a M D.rt
theorem N5(b:aj X e te):fy X (.Return (some e) pos) (E6 te):=PS.imp (VN b) λD0 g H h=>by
 obtain⟨f,M,D,hs,d,c,a⟩:=h;exact⟨f,M,_,hs,d,c,a.rt⟩
def Kl:d9:=λD _ M=>D.rt .aq M
theorem XO:fy X (.Return none pos) Kl:=PS.imp Uo λD0 d H h=>by
 obtain⟨f,M,D,hs,c,b,a⟩:=h;exact a.rt .aq M .aq H b (.refl H) c (by simp only[Rep])
def zd(c:ee)(t u:d9):d9:=λD a M=>c a M λb M1=>(b=true->t D a M1)/\(b=false->u D a M1)
theorem ZY{a b:List Stmt}(l:fb X c tc)(i:ka X a t)(j:ka X b u):fy X (.If c a b pos) (zd tc t u):=PS.imp (YA l i j) λD0 o H h=>by
 obtain⟨d,M,D,hs,n,m,f⟩:=h;refine⟨d,M,_,hs,n,m,λk M1 H1 q e1 g=>?_⟩
 cases k with
 |true=>exact qD ⟨d,M1,D,hs.ext e1,g,q.1 rfl,f.ext e1⟩
 |false=>exact qE ⟨d,M1,D,hs.ext e1,g,q.2 rfl,f.ext e1⟩
def vU(i:Nat)(te:ar):d9:=λD a M=>te a M λx M1=>D.nx (a.set i (some x)) M1
theorem sset(i){x:Str}(c:aj X e te)(a:X.N.Nodup)(hi:X.N[i]? =some x:=by rfl)(hx:Loc X.env.scope x)(hs:swapsWith e (some (.Name x pos')) pos.line X.env=pure false:=by rfl)
 (d:X.fn x=true∨X.env.scope.names.lookup x=some .local):fy X (.Assign [.Name x pos'] e pos) (vU i te):=PS.imp (VM a hi hx c hs d) λD0 l H h=>by
 obtain⟨k,M,D,hs,g,f,b⟩:=h;exact⟨k,M,_,hs,g,f,λrx M1 x H1 q e1 j r1=>b.nx _ M1 _ H1 q e1 j ((hs.ext e1).set r1 i)⟩
abbrev js:=RV->bD->RM->(bD->RM->Prop)->Prop
def Z8(K:ag)(g:js):TG:=λv a H c=>∃rv b M Q,Rep K H rv v/\aR K H b a/\View K H M/\g rv b M Q/\oY K H Q c
def oW(X:Cx)(a:Expr)(g:js):Prop:=PG X a (Z8 X.K g)
theorem PG.imp{t t':TG}(h:PG X tg t)(i:∀v σ H Q,t' v σ H Q->t v σ H Q):PG X tg t':=λpins s σ H v u Q I r w=>h pins s σ H v u Q I r (i v σ H Q w)
def kc(i:Nat):js:=λx a M Q=>Q (a.set i (some x)) M
theorem ZM(i){x:Str}(a:X.N.Nodup)(hi:X.N[i]? =some x:=by rfl)(hx:Loc X.env.scope x)
 (b:X.fn x=true∨X.env.scope.names.lookup x=some .local):oW X (.Name x pos) (kc i):=PG.imp (yr a hi hx b) λv j H k h=>by
 obtain⟨rv,l,M,Q,f,hs,g,c,d⟩:=h;exact d _ M _ H c (.refl H) g (hs.set f i)
noncomputable def uP:bD->List Nat->LR->bD
 |σ,i::is,x::xs=>uP (σ.set i (some x)) is xs
 |σ,_,_=>σ
def mU:List Nat->nq
 | []=>EC
 |i::is=>KU (BJ i) (mU is)
theorem Jg{K:ag}:∀{is:List Nat} {rs:LR} {vs:LV} {σ:bD} {σ0:L2.St},rs.length=is.length->aa K H rs vs->aR K H σ σ0->
 (∀a,aR K H (uP σ is rs) a->Q0 a H)->mU is vs σ0 H Q0
 | [],[],vs,σ,σ0,_,r,hs,k=>by
  simp only[aa]at r;exact⟨r,k σ0 hs⟩
 |i::is,x::rs,vs,σ,σ0,hl,r,hs,k=>by
  simp only[aa]at r;obtain⟨v,b,rfl,c,d⟩:=r;refine⟨v,b,rfl,?_⟩;show mU is b (σ0.set i (some v)) H Q0;exact Jg (σ:=σ.set i (some x)) (by simpa using hl) d (hs.set c i) k
def wg(is:List Nat):js:=λx a M Q=>match x with| .tup xs=>xs.length=is.length/\Q (uP a is xs) M|_=>False
theorem Ot{is:List Nat}{n:Nat}(hc:X.calm=true)(h:oU X es (mU is))(hl:n=is.length:=by rfl)
 (hn:(assignEach es X.env).length=n:=by rfl) (hst:(assignEach es X.env).findIdx? (·.1)=none:=by rfl):oW X (.Tuple es k pos) (wg is):=PG.imp (JF hc h hn hst) λv σ0 H Q0 h=>by
 obtain⟨rv,σ,M,Q,hr,hs,hv,hg,hk⟩:=h;cases rv with
 |tup xs=>
  simp only[Rep]at hr;obtain⟨a,vs,rfl,h1,h2⟩:=hr;exact⟨a,vs,rfl,bZ.of h1,by rw[<-h2.length,hl];exact hg.1,Jg hg.1 h2 hs λσ0' q=>hk _ M σ0' H hg.2 (.refl H) hv q⟩
 |_=>exact hg.elim
def BS(te:ar)(g:js):d9:=λD a M=>te a M λx M1=>g x a M1 D.nx
theorem EX{tg e:Expr}{g:js}{pos:Pos}(he:aj X e te)(hg:oW X tg g)(hs:swapsWithSole [tg] e pos.line X.env=pure false:=by rfl)(hw:swappedStores [tg] e X.env=pure none:=by rfl)
 (h1:(assignEach [tg] X.env).map (·.2)= [assign tg X.env]:=by rfl):fy X (.Assign [tg] e pos) (BS te g):=PS.imp (WL he hg hs hw h1) λD0 σ0 H h=>by
 obtain⟨σ,M,D,hs,hv,ht,hd⟩:=h;exact⟨σ,M,_,hs,hv,ht,λrx M1 x H1 q e1 v1 r1=>⟨rx,σ,M1,D.nx,r1,hs.ext e1,v1,q,hd.nx.ext e1⟩⟩
abbrev yR:=RV->RV->RV->RM->(RM->Prop)->Prop
noncomputable def Kd (K:ag)(g:yR):yW:=λo i v H d=>∃ro ri c M Q,Rep K H ro o/\Rep K H ri i/\Rep K H c v/\View K H M/\g ro ri c M Q/\∀b a,Q b->Ext H a->View K a b->d a
def Ki(to ti:ar)(g:yR):js:=λv σ M Q=>to σ M λo M1=>ti σ M1 λi M2=>g o i v M2 λM3=>Q σ M3
theorem Ou{o i:Expr}{g:yR}(ho:aj X o to)(hi:aj X i ti)(hs:yX X (Kd X.K g))
 (ha:∀v,assign (.Subscript o i pos) X.env v=(do
  let ov<-holding [v] (eval o X.env)
  let iv<-holding [v,ov] (eval i X.env)
  standAt pos
  holding [v,ov,iv] (setItem ov iv v)
  release [v,ov,iv] []):=by intro _;rfl):oW X (.Subscript o i pos) (Ki to ti g):=PG.imp (WN ho hi hs ha) λv σ0 H Q0 h=>by
 obtain⟨rv,σ,M,Q,hr,hs,hv,hg,hk⟩:=h;refine⟨σ,M,_,hs,hv,hg,λro M1 o H1 q e1 v1 r1=>?_⟩
 refine⟨σ,M1,_,hs.ext e1,v1,q,λri M2 i H2 q2 e2 v2 r2=>?_⟩
 refine⟨ro,ri,rv,M2,_,Rep.ext e2 ro o r1,r2,Rep.ext (e1.trans e2) rv v hr,v2,q2,λM3 H3 q3 e3 v3=>?_⟩
 have e:=(e1.trans e2).trans e3;exact hk σ M3 σ0 H3 q3 e v3 (hs.ext e)
noncomputable def jK (g:js)(tb:d9)(D:RD)(ok:RM->Prop)(un:RM->RM):LR->bD->RM->Prop
 | [],σ,M=>ok M/\D.nx σ (un M)
 |x::r,σ,M=>ok M/\g x σ M λσ2 M2=>tb { D with nx:=jK g tb D ok un r,ct:=jK g tb D ok un r,bk:=λσ M=>ok M/\D.nx σ (un M),rt:=λv M=>ok M/\D.rt v (un M) } σ2 M2
end
open PySem.SeqAt (EqAt RcAt RcNeAt)
mutual
def bh:RV->RV->Bool
 | .aq,.aq=>true
 | .bl a,.bl b=>a==b
 | .bl a,.int b=>(if a then 1 else 0)==b
 | .int a,.bl b=>a==(if b then 1 else 0)
 | .int a,.int b=>a==b
 | .str a,.str b=>a==b
 | .tup xs,.tup ys=>eV xs ys
 | .ls xs,.ls ys=>eV xs ys
 |_,_=>false
def eV:LR->LR->Bool
 | [],[]=>true
 |x::xs,y::ys=>bh x y&&eV xs ys
 |_,_=>false
end
noncomputable def aF:Nat->RV->Bool
 |_,.aq=>true
 |_,.bl _=>true
 |_,.int _=>true
 |_,.str _=>true
 |n+1,.tup xs=>xs.all (aF n)
 |n+1,.ls xs=>xs.all (aF n)
 |_,_=>false
mutual
def Den(h:Heap):RV->Value->Prop
 | .aq,u=>u= .none
 | .bl b,u=>u= .bool b
 | .int i,u=>∃t,u= .int i t
 | .str x,u=>∃t,u= .str x t
 | .tup xs,u=>∃a ab,u= .ref a/\h.IsTuple a ab.toArray/\aC h xs ab
 | .ls xs,u=>∃a ab,u= .ref a/\h.IsList a ab.toArray/\aC h xs ab
 | .ref _,_=>False
 | .ty _,_=>False
def aC(h:Heap):LR->az->Prop
 | [],us=>us= []
 |x::xs,us=>∃u r,us=u::r/\Den h x u/\aC h xs r
end
theorem aC.length:∀{xs:LR} {us:az},aC h xs us->xs.length=us.length
 | [],us,d=>by simp only[aC]at d;subst d;rfl
 |x::xs,us,d=>by
  simp only[aC]at d;obtain⟨u,r,rfl,_,t⟩:=d;simp[aC.length t]
theorem aC.get:∀{xs:LR} {us:az} {j:Nat} {u:Value},aC h xs us->us[j]? =some u->Den h (xs.getD j .aq) u/\xs.getD j .aq∈xs
 | [],us,_,_,d,e=>by simp only[aC]at d;subst d;simp at e
 |x::xs,us,0,u,d,e=>by
  simp only[aC]at d;obtain⟨v,r,rfl,c,_⟩:=d;simp at e;subst e;exact⟨by simpa using c,by simp⟩
 |x::xs,us,j+1,u,d,e=>by
  simp only[aC]at d;obtain⟨v,r,rfl,_,t⟩:=d;obtain⟨a,b⟩:=aC.get (j:=j) t (by simpa using e)
  exact⟨by simpa using a,by simp only[List.getD_cons_succ];exact gJ _ b⟩
section
variable {X:Cx}{pins:aJ}{σ:L2.St}{H:Hp}{s:Shared}
theorem Vals.cons_inv{v:V}{vs:LV}{us:az}(r:Vals (v::vs) us):∃u c,us=u::c/\RelV v u/\Vals vs c:=by
 cases r with
 |cons a b=>exact⟨_,_,rfl,a,b⟩
theorem jI(I:Inv X pins σ H s):∀n,(∀r v u,aF n r=true->Rep X.K H r v->RelV v u->Den s.heap r u):=by
 intro n
 induction n with
 |zero=>
  intro r v u o h w;cases r with
  |aq=>simp only[Rep]at h;subst h;simp only[Den];exact w
  |bl b=>simp only[Rep]at h;subst h;simp only[Den];exact w
  |int i=>simp only[Rep]at h;subst h;simp only[Den];exact w
  |str x=>simp only[Rep]at h;subst h;simp only[Den];exact w
  |_=>simp[aF]at o
 |succ n ih=>
  have all:∀rs vs us,rs.all (aF n)=true->aa X.K H rs vs->Vals vs us->aC s.heap rs us:=by
   intro rs
   induction rs with
   |nil=>
    intro vs us _ h w;simp only[aa]at h;subst h;cases w;simp only[aC]
   |cons x xs ihx=>
    intro vs us o h w;simp only[aa]at h;obtain⟨v,r,rfl,c,d⟩:=h;obtain⟨u,e,rfl,g,j⟩:=Vals.cons_inv w;rw[fS,bg]at o;simp only[aC];exact⟨u,e,rfl,ih x v u o.1 c g,ihx r e o.2 d j⟩
  intro r v u o h w;cases r with
  |aq=>simp only[Rep]at h;subst h;simp only[Den];exact w
  |bl b=>simp only[Rep]at h;subst h;simp only[Den];exact w
  |int i=>simp only[Rep]at h;subst h;simp only[Den];exact w
  |str x=>simp only[Rep]at h;subst h;simp only[Den];exact w
  |tup xs=>
   simp only[Rep]at h;obtain⟨a,vs,rfl,c,d⟩:=h;obtain⟨ab,rv,f,_⟩:=I.tuple (bZ.of c);simp only[Den];exact⟨a,ab,w,f,all xs vs ab o d rv⟩
  |ls xs=>
   simp only[Rep]at h;obtain⟨a,vs,rfl,c,d⟩:=h;obtain⟨ab,rv,f,_⟩:=I.list c.sq;simp only[Den];exact⟨a,ab,w,f.isList,all xs vs ab o d rv⟩
  |_=>simp[aF]at o
end
theorem Io{h:Heap}{a:Addr}{xs f:az}(p:h.IsTuple a xs.toArray)(q:h.IsTuple a f.toArray):xs=f:=by
 obtain⟨o,e,_,n,d⟩:=p;obtain⟨i,c,_,g,b⟩:=q;rw[e]at c;cases c;rw[d]at b;injection b with d1 _
 simpa using congrArg Array.toList d1
theorem IB{h:Heap}{a:Addr}{xs f:az}(p:h.IsList a xs.toArray)(q:h.IsList a f.toArray):xs=f:=by
 obtain⟨o,e,_,n,d⟩:=p;obtain⟨i,c,_,g,b⟩:=q;rw[e]at c;cases c;rw[d]at b;injection b with d1 _
 simpa using congrArg Array.toList d1
theorem Hz{h:Heap}{a:Addr}(p:h.IsList a xs)(q:h.IsTuple a ys):False:=by
 obtain⟨o,e,c,_⟩:=p;obtain⟨f,d,b,_⟩:=q;rw[e]at d;cases d;rw[c]at b;exact aW b (by decide+kernel)
def pS:RV->Bool
 | .aq=>true
 | .bl _=>true
 | .int _=>true
 | .str _=>true
 |_=>false
noncomputable def Eb:Value->Option RV
 | .none=>some .aq
 | .bool b=>some (.bl b)
 | .int i _=>some (.int i)
 | .str x _=>some (.str x)
 |_=>none
theorem KW:∀{x:RV},pS x=true->Den h x u->Eb u=some x
 | .aq,_,d=>by simp only[Den]at d;subst d;rfl
 | .bl _,_,d=>by simp only[Den]at d;subst d;rfl
 | .int _,_,d=>by simp only[Den]at d;obtain⟨t,rfl⟩:=d;rfl
 | .str _,_,d=>by simp only[Den]at d;obtain⟨t,rfl⟩:=d;rfl
theorem Zi:∀{x:RV},pS x=false->Den h x u->Eb u=none
 | .tup _,_,d=>by simp only[Den]at d;obtain⟨a,ab,rfl,_⟩:=d;rfl
 | .ls _,_,d=>by simp only[Den]at d;obtain⟨a,ab,rfl,_⟩:=d;rfl
 | .ref _,_,d=>by simp only[Den]at d
 | .ty _,_,d=>by simp only[Den]at d
theorem A8:∀n x y u,aF n x=true->aF n y=true->Den h x u->Den h y u->x=y:=by
 intro n;have sc:∀x y u,pS x=true->Den h x u->Den h y u->x=y:=by
  intro x y u l c dy;have ex:=KW l c;cases sy:pS y with
  |true=>
   have o:=KW sy dy;rw[ex]at o;exact d0 o
  |false=>
   have o:=Zi sy dy;rw[ex]at o;cases o
 induction n with
 |zero=>
  intro x y u i j c dy;have l:pS x=true:=by cases x<;>first|rfl|(simp[aF]at i)
  exact sc x y u l c dy
 |succ n ih=>
  have all:∀g b us,g.all (aF n)=true->b.all (aF n)=true->aC h g us->aC h b us->g=b:=by
   intro g
   induction g with
   |nil=>
    intro b us _ _ d e;simp only[aC]at d;subst d;cases b with
    |nil=>rfl
    |cons y b=>simp only[aC]at e;obtain⟨_,_,z,_⟩:=e;cases z
   |cons x g ihx=>
    intro b us i j d e;simp only[aC]at d;obtain⟨u,r,rfl,d1,t⟩:=d;cases b with
    |nil=>simp only[aC]at e;cases e
    |cons y b=>
     simp only[aC]at e;obtain⟨A,w,z,e1,v⟩:=e;cases z;rw[fS,bg]at i j;rw[ih x y u i.1 j.1 d1 e1,ihx b r i.2 j.2 t v]
  intro x y u i j c dy;cases l:pS x with
  |true=>exact sc x y u l c dy
  |false=>
   cases sy:pS y with
   |true=>exact(sc y x u sy dy c).symm
   |false=>
    cases x with
    |tup g=>
     simp only[Den]at c;obtain⟨a,ab,rfl,p,d⟩:=c;cases y with
     |tup b=>
      simp only[Den]at dy;obtain⟨s,f,z,k,m⟩:=dy;cases z;obtain rfl:=Io p k;rw[all g b ab i j d m]
     |ls b=>
      simp only[Den]at dy;obtain⟨s,f,z,k,m⟩:=dy;cases z;exact(Hz k p).elim
     |ref _=>simp only[Den]at dy
     |ty _=>simp only[Den]at dy
     |_=>cases sy
    |ls g=>
     simp only[Den]at c;obtain⟨a,ab,rfl,p,d⟩:=c;cases y with
     |ls b=>
      simp only[Den]at dy;obtain⟨s,f,z,k,m⟩:=dy;cases z;obtain rfl:=IB p k;rw[all g b ab i j d m]
     |tup b=>
      simp only[Den]at dy;obtain⟨s,f,z,k,m⟩:=dy;cases z;exact(Hz p k).elim
     |ref _=>simp only[Den]at dy
     |ty _=>simp only[Den]at dy
     |_=>cases sy
    |ref _=>simp only[Den]at c
    |ty _=>simp only[Den]at c
    |_=>cases l
mutual
theorem AH:∀(x:RV),(∃n,aF n x=true)->bh x x=true
 | .aq,_=>by simp[bh]
 | .bl _,_=>by simp[bh]
 | .int _,_=>by simp[bh]
 | .str _,_=>by simp[bh]
 | .tup xs,⟨n,o⟩=>by
  rw[bh];refine AF xs ?_;cases n with
  |zero=>simp[aF]at o
  |succ n=>exact⟨n,o⟩
 | .ls xs,⟨n,o⟩=>by
  rw[bh];refine AF xs ?_;cases n with
  |zero=>simp[aF]at o
  |succ n=>exact⟨n,o⟩
 | .ref _,⟨n,o⟩=>by cases n<;>simp[aF]at o
 | .ty _,⟨n,o⟩=>by cases n<;>simp[aF]at o
theorem AF:∀(xs:LR),(∃n,xs.all (aF n)=true)->eV xs xs=true
 | [],_=>by simp[eV]
 |x::xs,⟨n,o⟩=>by
  rw[fS,bg]at o;rw[eV,AH x ⟨n,o.1⟩,AF xs ⟨n,o.2⟩];rfl
end
abbrev qv(xs a:LR)(j:Nat):Bool:=bh (xs.getD j .aq) (a.getD j .aq)
theorem rN:∀a b:LR,((List.range (min a.length b.length)).all (qv a b)&&a.length==b.length)=eV a b
 | [],[]=>by simp[eV]
 | [],_::_=>by simp[eV]
 |_::_,[]=>by simp[eV]
 |x::a,y::b=>by
  have e:=rN a b;have e1:min (x::a).length (y::b).length=min a.length b.length+1:=by simp only[cY];omega
  have c:((x::a).length==(y::b).length)=(a.length==b.length):=by simp
  have d:(List.range (min a.length b.length+1)).all (qv (x::a) (y::b))=(bh x y&&(List.range (min a.length b.length)).all (qv a b)):=by
   rw[List.range_succ_eq_map,fS,List.all_map];rfl
  rw[e1,c,d,eV,<-e,Bool.and_assoc]
theorem AE{xs a:LR}(h:xs.length=a.length):(List.range xs.length).all (qv xs a)=eV xs a:=by
 have:=rN xs a;rw[<-h,Nat.min_self]at this;simpa using this
theorem Au{xs a:LR}(h:xs.length≠a.length):eV xs a=false:=by
 have:=rN xs a;rw[<-this];simp[h]
theorem in1_units(A:Around):A.in1.units=A.units+1:=rfl
theorem AI:∀(n:Nat) (x y:RV) (A:Around) (s:Shared) (u w:Value),aF n x=true->aF n y=true->Den s.heap x u->Den s.heap y w->A.units+n<cLine->EqAt A s u w (bh x y):=by
 intro n
 induction n with
 |zero=>
  intro x y A s u w ox oy dx dy hu;cases x<;>cases y<;>first|(simp only[Den]at dx;done)|(simp only[Den]at dy;done)|(simp[aF]at ox;done)|(simp[aF]at oy;done)|(simp only[Den]at dx dy;(first|subst dx|obtain⟨t1,rfl⟩:=dx|obtain⟨a1,its1,rfl,p1,d1⟩:=dx);(first|subst dy|obtain⟨t2,rfl⟩:=dy|obtain⟨a2,its2,rfl,p2,d2⟩:=dy);first|(simp only[bh,Bool.not_false,Bool.not_true];with_reducible first|exact EqAt.same _|exact EqAt.none_bool _|exact EqAt.none_int _ _|exact EqAt.none_str _ _|exact EqAt.bool_none _|exact EqAt.bool_bool _ _|exact EqAt.bool_int _ _ _|exact EqAt.bool_str _ _ _|exact EqAt.int_none _ _|exact EqAt.int_bool _ _ _|exact EqAt.int_int _ _ _ _|exact EqAt.int_str _ _ _ _|exact EqAt.str_none _ _|exact EqAt.str_bool _ _ _|exact EqAt.str_int _ _ _ _|exact EqAt.str_str _ _ _ _))
 |succ n ih=>
  intro x y A s u w ox oy dx dy hu;have hu0:A.units<cLine:=by omega
  have item:∀(xs ys:LR) (us ws:az),xs.all (aF n)=true->ys.all (aF n)=true->aC s.heap xs us->aC s.heap ys ws->
   ∀j (j1:j<us.toArray.size) (j2:j<ws.toArray.size),EqAt A.in1 s us.toArray[j] ws.toArray[j] (qv xs ys j):=λxs ys us ws o1 o2 d1 d2 j j1 j2=>by
   obtain⟨a1,b1⟩:=d1.get (j:=j) (u:=us.toArray[j]) (by simp)
   obtain⟨a2,b2⟩:=d2.get (j:=j) (u:=ws.toArray[j]) (by simp)
   exact ih _ _ A.in1 s _ _ (gM.mp o1 _ b1) (gM.mp o2 _ b2) a1 a2 (by rw[in1_units];omega)
  have same_EqAt_tup:∀(xs ys:LR) (a a':Addr) (ab its':az),s.heap.IsTuple a ab.toArray->s.heap.IsTuple a' its'.toArray->aC s.heap xs ab->aC s.heap ys its'->aF (n+1) (.tup xs)=true->aF (n+1) (.tup ys)=true->EqAt A s (.ref a) (.ref a') (bh (RV.tup xs) (RV.tup ys)):=by
   intro xs ys a a' ab its' p p' d d' ox oy
   by_cases ha:a=a'
   . subst ha
     obtain rfl:=Io p p';have e:RV.tup xs=RV.tup ys:=A8 (n+1) _ _ (.ref a) ox oy (by simp only[Den];exact⟨a,ab,rfl,p,d⟩) (by simp only[Den];exact⟨a,ab,rfl,p,d'⟩)
     rw[<-e,AH _ ⟨_,ox⟩];exact EqAt.same _
   refine EqAt.of_refs ha ?_;rw[bh,<-rN,d.length,d'.length];have:=RcAt.tuples p p' hu0 (item xs ys ab its' ox oy d d');simpa using this
  have same_EqAt_ls:∀(xs ys:LR) (a a':Addr) (ab its':az),s.heap.IsList a ab.toArray->s.heap.IsList a' its'.toArray->aC s.heap xs ab->aC s.heap ys its'->aF (n+1) (.ls xs)=true->aF (n+1) (.ls ys)=true->EqAt A s (.ref a) (.ref a') (bh (RV.ls xs) (RV.ls ys)):=by
   intro xs ys a a' ab its' p p' d d' ox oy
   by_cases ha:a=a'
   . subst ha
     obtain rfl:=IB p p';have e:RV.ls xs=RV.ls ys:=A8 (n+1) _ _ (.ref a) ox oy (by simp only[Den];exact⟨a,ab,rfl,p,d⟩) (by simp only[Den];exact⟨a,ab,rfl,p,d'⟩)
     rw[<-e,AH _ ⟨_,ox⟩];exact EqAt.same _
   refine EqAt.of_refs ha ?_;rw[bh]
   by_cases hz:xs.length=ys.length
   . rw[<-AE hz,d.length]
     have:=RcAt.lists p p' (by simp[<-d.length,<-d'.length,hz]) hu0 (item xs ys ab its' ox oy d d')
     simpa using this
   . rw[Au hz]
     exact RcAt.lists_lengths p p' (by simp[<-d.length,<-d'.length,hz]) hu0
  cases x<;>cases y<;>first|(simp only[Den]at dx;done)|(simp only[Den]at dy;done)|(simp only[Den]at dx dy;(first|subst dx|obtain⟨t1,rfl⟩:=dx|obtain⟨a1,its1,rfl,p1,d1⟩:=dx);(first|subst dy|obtain⟨t2,rfl⟩:=dy|obtain⟨a2,its2,rfl,p2,d2⟩:=dy);first|with_reducible exact same_EqAt_tup _ _ _ _ _ _ p1 p2 d1 d2 ox oy|with_reducible exact same_EqAt_ls _ _ _ _ _ _ p1 p2 d1 d2 ox oy|(simp only[bh,Bool.not_false,Bool.not_true];with_reducible first|exact EqAt.same _|exact EqAt.none_bool _|exact EqAt.none_int _ _|exact EqAt.none_str _ _|exact EqAt.bool_none _|exact EqAt.bool_bool _ _|exact EqAt.bool_int _ _ _|exact EqAt.bool_str _ _ _|exact EqAt.int_none _ _|exact EqAt.int_bool _ _ _|exact EqAt.int_int _ _ _ _|exact EqAt.int_str _ _ _ _|exact EqAt.str_none _ _|exact EqAt.str_bool _ _ _|exact EqAt.str_int _ _ _ _|exact EqAt.str_str _ _ _ _|exact EqAt.tuple_none p1 hu0|exact EqAt.tuple_bool _ p1 hu0|exact EqAt.tuple_int _ _ p1 hu0|exact EqAt.tuple_str _ _ p1 hu0|exact EqAt.list_none p1 hu0|exact EqAt.list_bool _ p1 hu0|exact EqAt.list_int _ _ p1 hu0|exact EqAt.list_str _ _ p1 hu0|exact EqAt.none_tuple p2 hu0|exact EqAt.bool_tuple _ p2 hu0|exact EqAt.int_tuple _ _ p2 hu0|exact EqAt.str_tuple _ _ p2 hu0|exact EqAt.none_list p2 hu0|exact EqAt.bool_list _ p2 hu0|exact EqAt.int_list _ _ p2 hu0|exact EqAt.str_list _ _ p2 hu0|exact EqAt.tuple_list p1 p2 hu0|exact EqAt.list_tuple p1 p2 hu0))
theorem Rh(n:Nat)(x y:RV)(A:Around)(s:Shared)(u w:Value)(ox:aF (n+1) x=true)(oy:aF (n+1) y=true)(dx:Den s.heap x u)(dy:Den s.heap y w)(hu:A.units+(n+1)<cLine):RcNeAt A s u w (!bh x y):=by
 have hu0:A.units<cLine:=by omega
 have item:∀(xs ys:LR) (us ws:az),xs.all (aF n)=true->ys.all (aF n)=true->aC s.heap xs us->aC s.heap ys ws->
  ∀j (j1:j<us.toArray.size) (j2:j<ws.toArray.size),EqAt A.in1 s us.toArray[j] ws.toArray[j] (qv xs ys j):=λxs ys us ws o1 o2 d1 d2 j j1 j2=>by
  obtain⟨a1,b1⟩:=d1.get (j:=j) (u:=us.toArray[j]) (by simp)
  obtain⟨a2,b2⟩:=d2.get (j:=j) (u:=ws.toArray[j]) (by simp)
  exact AI n _ _ A.in1 s _ _ (gM.mp o1 _ b1) (gM.mp o2 _ b2) a1 a2 (by rw[in1_units];omega)
 have same_RcNeAt_tup:∀(xs ys:LR) (a a':Addr) (ab its':az),s.heap.IsTuple a ab.toArray->s.heap.IsTuple a' its'.toArray->aC s.heap xs ab->aC s.heap ys its'->aF (n+1) (.tup xs)=true->aF (n+1) (.tup ys)=true->RcNeAt A s (.ref a) (.ref a') (!bh (RV.tup xs) (RV.tup ys)):=by
  intro xs ys a a' ab its' p p' d d' ox oy;rw[bh,<-rN,d.length,d'.length];have:=RcNeAt.tuples p p' hu0 (item xs ys ab its' ox oy d d');simpa using this
 have same_RcNeAt_ls:∀(xs ys:LR) (a a':Addr) (ab its':az),s.heap.IsList a ab.toArray->s.heap.IsList a' its'.toArray->aC s.heap xs ab->aC s.heap ys its'->aF (n+1) (.ls xs)=true->aF (n+1) (.ls ys)=true->RcNeAt A s (.ref a) (.ref a') (!bh (RV.ls xs) (RV.ls ys)):=by
  intro xs ys a a' ab its' p p' d d' ox oy;rw[bh]
  by_cases hz:xs.length=ys.length
  . rw[<-AE hz,d.length]
    have:=RcNeAt.lists p p' (by simp[<-d.length,<-d'.length,hz]) hu0 (item xs ys ab its' ox oy d d')
    simpa using this
  . rw[Au hz]
    exact RcNeAt.lists_lengths p p' (by simp[<-d.length,<-d'.length,hz]) hu0
 cases x<;>cases y<;>first|(simp only[Den]at dx;done)|(simp only[Den]at dy;done)|(simp only[Den]at dx dy;(first|subst dx|obtain⟨t1,rfl⟩:=dx|obtain⟨a1,its1,rfl,p1,d1⟩:=dx);(first|subst dy|obtain⟨t2,rfl⟩:=dy|obtain⟨a2,its2,rfl,p2,d2⟩:=dy);first|with_reducible exact same_RcNeAt_tup _ _ _ _ _ _ p1 p2 d1 d2 ox oy|with_reducible exact same_RcNeAt_ls _ _ _ _ _ _ p1 p2 d1 d2 ox oy|(simp only[bh,Bool.not_false,Bool.not_true];with_reducible first|exact RcNeAt.none_none|exact RcNeAt.none_bool _|exact RcNeAt.none_int _ _|exact RcNeAt.none_str _ _|exact RcNeAt.bool_none _|exact RcNeAt.bool_bool _ _|exact RcNeAt.bool_int _ _ _|exact RcNeAt.bool_str _ _ _|exact RcNeAt.int_none _ _|exact RcNeAt.int_bool _ _ _|exact RcNeAt.int_int _ _ _ _|exact RcNeAt.int_str _ _ _ _|exact RcNeAt.str_none _ _|exact RcNeAt.str_bool _ _ _|exact RcNeAt.str_int _ _ _ _|exact RcNeAt.str_str _ _ _ _|exact RcNeAt.tuple_none p1 hu0|exact RcNeAt.tuple_bool _ p1 hu0|exact RcNeAt.tuple_int _ _ p1 hu0|exact RcNeAt.tuple_str _ _ p1 hu0|exact RcNeAt.list_none p1 hu0|exact RcNeAt.list_bool _ p1 hu0|exact RcNeAt.list_int _ _ p1 hu0|exact RcNeAt.list_str _ _ p1 hu0|exact RcNeAt.none_tuple p2 hu0|exact RcNeAt.bool_tuple _ p2 hu0|exact RcNeAt.int_tuple _ _ p2 hu0|exact RcNeAt.str_tuple _ _ p2 hu0|exact RcNeAt.none_list p2 hu0|exact RcNeAt.bool_list _ p2 hu0|exact RcNeAt.int_list _ _ p2 hu0|exact RcNeAt.str_list _ _ p2 hu0|exact RcNeAt.tuple_list p1 p2 hu0|exact RcNeAt.list_tuple p1 p2 hu0))
theorem Sr(n:Nat)(x y:RV)(A:Around)(s:Shared)(u w:Value)(ox:aF (n+1) x=true)(oy:aF (n+1) y=true)(dx:Den s.heap x u)(dy:Den s.heap y w)(hu:A.units+(n+1)<cLine):RcAt A s u w (bh x y):=by
 have hu0:A.units<cLine:=by omega
 have item:∀(xs ys:LR) (us ws:az),xs.all (aF n)=true->ys.all (aF n)=true->aC s.heap xs us->aC s.heap ys ws->
  ∀j (j1:j<us.toArray.size) (j2:j<ws.toArray.size),EqAt A.in1 s us.toArray[j] ws.toArray[j] (qv xs ys j):=λxs ys us ws o1 o2 d1 d2 j j1 j2=>by
  obtain⟨a1,b1⟩:=d1.get (j:=j) (u:=us.toArray[j]) (by simp)
  obtain⟨a2,b2⟩:=d2.get (j:=j) (u:=ws.toArray[j]) (by simp)
  exact AI n _ _ A.in1 s _ _ (gM.mp o1 _ b1) (gM.mp o2 _ b2) a1 a2 (by rw[in1_units];omega)
 have same_RcAt_tup:∀(xs ys:LR) (a a':Addr) (ab its':az),s.heap.IsTuple a ab.toArray->s.heap.IsTuple a' its'.toArray->aC s.heap xs ab->aC s.heap ys its'->aF (n+1) (.tup xs)=true->aF (n+1) (.tup ys)=true->RcAt A s (.ref a) (.ref a') (bh (RV.tup xs) (RV.tup ys)):=by
  intro xs ys a a' ab its' p p' d d' ox oy;rw[bh,<-rN,d.length,d'.length];have:=RcAt.tuples p p' hu0 (item xs ys ab its' ox oy d d');simpa using this
 have same_RcAt_ls:∀(xs ys:LR) (a a':Addr) (ab its':az),s.heap.IsList a ab.toArray->s.heap.IsList a' its'.toArray->aC s.heap xs ab->aC s.heap ys its'->aF (n+1) (.ls xs)=true->aF (n+1) (.ls ys)=true->RcAt A s (.ref a) (.ref a') (bh (RV.ls xs) (RV.ls ys)):=by
  intro xs ys a a' ab its' p p' d d' ox oy;rw[bh]
  by_cases hz:xs.length=ys.length
  . rw[<-AE hz,d.length]
    have:=RcAt.lists p p' (by simp[<-d.length,<-d'.length,hz]) hu0 (item xs ys ab its' ox oy d d')
    simpa using this
  . rw[Au hz]
    exact RcAt.lists_lengths p p' (by simp[<-d.length,<-d'.length,hz]) hu0
 cases x<;>cases y<;>first|(simp only[Den]at dx;done)|(simp only[Den]at dy;done)|(simp only[Den]at dx dy;(first|subst dx|obtain⟨t1,rfl⟩:=dx|obtain⟨a1,its1,rfl,p1,d1⟩:=dx);(first|subst dy|obtain⟨t2,rfl⟩:=dy|obtain⟨a2,its2,rfl,p2,d2⟩:=dy);first|with_reducible exact same_RcAt_tup _ _ _ _ _ _ p1 p2 d1 d2 ox oy|with_reducible exact same_RcAt_ls _ _ _ _ _ _ p1 p2 d1 d2 ox oy|(simp only[bh,Bool.not_false,Bool.not_true];with_reducible first|exact RcAt.none_none|exact RcAt.none_bool _|exact RcAt.none_int _ _|exact RcAt.none_str _ _|exact RcAt.bool_none _|exact RcAt.bool_bool _ _|exact RcAt.bool_int _ _ _|exact RcAt.bool_str _ _ _|exact RcAt.int_none _ _|exact RcAt.int_bool _ _ _|exact RcAt.int_int _ _ _ _|exact RcAt.int_str _ _ _ _|exact RcAt.str_none _ _|exact RcAt.str_bool _ _ _|exact RcAt.str_int _ _ _ _|exact RcAt.str_str _ _ _ _|exact RcAt.tuple_none p1 hu0|exact RcAt.tuple_bool _ p1 hu0|exact RcAt.tuple_int _ _ p1 hu0|exact RcAt.tuple_str _ _ p1 hu0|exact RcAt.list_none p1 hu0|exact RcAt.list_bool _ p1 hu0|exact RcAt.list_int _ _ p1 hu0|exact RcAt.list_str _ _ p1 hu0|exact RcAt.none_tuple p2 hu0|exact RcAt.bool_tuple _ p2 hu0|exact RcAt.int_tuple _ _ p2 hu0|exact RcAt.str_tuple _ _ p2 hu0|exact RcAt.none_list p2 hu0|exact RcAt.bool_list _ p2 hu0|exact RcAt.int_list _ _ p2 hu0|exact RcAt.str_list _ _ p2 hu0|exact RcAt.tuple_list p1 p2 hu0|exact RcAt.list_tuple p1 p2 hu0))
section
variable {X:Cx}
theorem nZ(h:eI X f r)(ri:∀(i j:Int) M Q (H:Hp) (c:VK),rr (.int i) (.int j) M Q->(∀z:RV,Q z M->∀v,Rep X.K H z v->c v H)->r (.int i) (.int j) H c)
 (no:∀x y M Q,rr x y M Q->∃i j,x= .int i/\y= .int j):dz X f rr:=by
 intro d s w H x y v u c I m n g;obtain⟨a,b,M,Q,ra,rb,l,e,k⟩:=g;obtain⟨i,j,rfl,rfl⟩:=no a b M Q e;simp only[Rep]at ra rb;subst ra;subst rb;exact h d s w H _ _ v u c I m n (ri i j M Q H c e λz q t o=>k z M t H q (.refl H) l o)
def vn(C:Int->Int->Prop)(g:Int->Int->RV):cM:=λx y M Q=>match x,y with| .int i,.int j=>C i j/\Q (g i j) M|_,_=>False
def qq(g:Int->Int->RV):cM:=λx y M Q=>match x,y with| .int i,.int j=>Q (g i j) M|_,_=>False
theorem AN{g:Int->Int->RV}(x y)(M)(Q)(h:vn C g x y M Q):∃i j,x= .int i/\y= .int j:=by
 unfold vn at h;split at h
 . exact⟨_,_,rfl,rfl⟩
 . exact h.elim
theorem uL{g:Int->Int->RV}(x y)(M)(Q)(h:qq g x y M Q):∃i j,x= .int i/\y= .int j:=by
 unfold qq at h;split at h
 . exact⟨_,_,rfl,rfl⟩
 . exact h.elim
abbrev E4:cM:=qq λi j=>.int (i-j)
theorem OU:dz X (binaryOp .Sub) E4:=nZ WZ (λi j M Q H a h k=>⟨i,j,rfl,rfl,k _ h _ (by simp only[Rep])⟩) uL
abbrev Ei:cM:=vn (λ_ j=>0<j) λi j=>.int (i % j)
theorem OZ:dz X (binaryOp .Mod) Ei:=nZ W4 (λi j M Q H a h k=>⟨i,j,rfl,rfl,h.1,k _ h.2 _ (by simp only[Rep])⟩) AN
abbrev Es:cM:=vn (λ_ j=>0<j/\j<1073741824) λi j=>.int (i / j)
theorem Oj:dz X (binaryOp .FloorDiv) Es:=nZ Vf (λi j M Q H a h k=>⟨i,j,rfl,rfl,h.1,k _ h.2 _ (by simp only[Rep])⟩) AN
abbrev E7:cM:=vn (λi j=>0<=j/\j<=1000000/\i.natAbs<2 ^ 64) λi j=>.int (i ^ j.toNat)
theorem OW:dz X (binaryOp .Pow) E7:=nZ W2 (λi j M Q H a h k=>⟨i,j,rfl,rfl,h.1,k _ h.2 _ (by simp only[Rep])⟩) AN
abbrev L9:cM:=qq λi j=>.bl (decide (i<j))
theorem MX:dz X (compareOp .Lt) L9:=nZ YJ (λi j M Q H a h k=>⟨i,j,rfl,rfl,k _ h _ (by simp only[Rep])⟩) uL
abbrev L8:cM:=qq λi j=>.bl (decide (i<=j))
theorem MW:dz X (compareOp .LtE) L8:=nZ Yo (λi j M Q H a h k=>⟨i,j,rfl,rfl,k _ h _ (by simp only[Rep])⟩) uL
abbrev L6:cM:=qq λi j=>.bl (decide (j<i))
theorem MR:dz X (compareOp .Gt) L6:=nZ Yp (λi j M Q H a h k=>⟨i,j,rfl,rfl,k _ h _ (by simp only[Rep])⟩) uL
abbrev L5:cM:=qq λi j=>.bl (decide (j<=i))
theorem MQ:dz X (compareOp .GtE) L5:=nZ Yq (λi j M Q H a h k=>⟨i,j,rfl,rfl,k _ h _ (by simp only[Rep])⟩) uL
noncomputable def Eh:cM:=λx y M Q=>match x,y with
 | .int i,.int j=>iI i j/\Q (.int (i*j)) M
 | .ref a,.int k=>∃b,M a=some (.lst b)/\-(2 ^ 63)<=k/\k<2 ^ 63/\b.length*k.toNat<=sizeLine/\Q (.ls (List.replicate k.toNat b).flatten) M
 |_,_=>False
theorem GZ{K:ag}{vs:LV}(r:aa K H xs vs):∀n:Nat,aa K H (List.replicate n xs).flatten (List.replicate n vs).flatten
 |0=>by simpa using aa.nil
 |n+1=>by
  rw[qU,sR,qU,sR];exact r.append (GZ r n)
theorem OY:dz X (binaryOp .Mult) Eh:=by
 intro d s z H x y v u l I t w h;obtain⟨a,b,M,Q,ra,rb,f,c,m⟩:=h;cases a with
 |int i=>
  cases b with
  |int j=>simp only[Rep]at ra rb;exact W3 d s z H x y v u l I t w ⟨i,j,ra,rb,c.1,m _ M _ H c.2 (.refl H) f (by simp only[Rep])⟩
  |_=>exact(show False from c).elim
 |ref p=>
  cases b with
  |int k=>
   simp only[Rep]at ra rb;obtain⟨g,J,C,D,E,F⟩:=c;obtain⟨ho,e,r⟩:=f p _ J;obtain⟨vs,rfl,n⟩:=r;refine aB (W0 d s z H x y v u (λv A=>∃H1 p g,v= .ref p/\H1 p=none/\A=upd H1 p (.lst g)/\∀o,l (.ref p) (upd H1 p (.bj o (.lst g)))) I t w ⟨p,k,vs,ra,rb,e,C,D,by rw[<-n.length];exact E,λq c=>⟨H,q,_,rfl,c,rfl,λo=>?_⟩⟩) λ_ _ e=>frozen e
   exact m _ M _ _ F (Ext.new c) (f.new c) (j4 c (GZ n _))
  |_=>exact(show False from c).elim
 |_=>cases b<;>exact(show False from c).elim
noncomputable def zg:cM:=λx y M Q=>match x,y with
 | .int i,.int j=>Q (.int (i+j)) M
 | .str i,.str j=>i.length+j.length<=sizeLine/\Q (.str (i++j)) M
 | .tup xs,.tup ys=>xs.length+ys.length<=sizeLine/\Q (.tup (xs++ys)) M
 | .ls xs,.ls ys=>xs.length+ys.length<=sizeLine/\Q (.ls (xs++ys)) M
 |_,_=>False
theorem Ud{s:Shared}{t b:Addr}{ws:az}(r:IsTup s.heap t ([]:az).toArray)(o:IsTup s.heap b ws.toArray)(h:Q (.ref b) s):
 wpAny (model prog w) A (binaryOp .Add (.ref t) (.ref b)) Q E s:=by
 obtain⟨⟨m,dd,j,sl⟩,ho,k,n,l⟩:=id r;obtain⟨⟨i,f,e,g⟩,d,a,u,c⟩:=id o;simp only at k l a c;subst k l a c;exact concat_meets ⟨_,ho,rfl⟩ ⟨_,d,rfl⟩ noFill_tuple_add seq_tuple_add PySem.F.slot_tuple_add PySem.F.entry_tuple_add (PySem.F.args_tuple_add_2 _ _)
  (tuple_addW0 t b [].toArray ws.toArray n u dd f sl g (by simp)) ⟨ho,d,h⟩
theorem VE{s:Shared}{l b:Addr}{vs ws:az}(hl:s.heap.IsList l vs.toArray)(hb:s.heap.IsList b ws.toArray)
 (h:Q (.ref s.heap.objs.size) { s with heap:=s.heap.push { cls:=.type "list",data:=.seq (vs++ws).toArray } }) (hsz:vs.length+ws.length<=sizeLine):
 wpAny (model prog w) A (binaryOp .Add (.ref l) (.ref b)) Q E s:=by
 obtain⟨⟨cls,dd,data,sl⟩,ho,hc,n,hd⟩:=id hl;obtain⟨⟨cls2,dd2,data2,sl2⟩,ho2,hc2,n2,hd2⟩:=id hb;simp only at hc hd hc2 hd2;subst hc hd hc2 hd2;have e:vs.toArray++ws.toArray=(vs++ws).toArray:=by simp
 refine concat_meets ⟨_,ho,rfl⟩ ⟨_,ho2,rfl⟩ noFill_list_add seq_list_add PySem.F.slot_list_add PySem.F.entry_list_add (PySem.F.args_list_add_2 _ _) (list_addW l b vs.toArray ws.toArray n n2 dd dd2 sl sl2 (by simpa using hsz)) ⟨ho,ho2,?_⟩
 rw[e];exact h
theorem Ol:dz X (binaryOp .Add) zg:=by
 intro pins s σ H x y v u Q0 I rx ry h;obtain⟨a,b,M,Q,ra,rb,hv,hq,hk⟩:=h;cases a with
 |int i=>
  cases b with
  |int j=>simp only[Rep]at ra rb;exact W6 pins s σ H x y v u Q0 I rx ry ⟨i,j,ra,rb,hk _ M _ H hq (.refl H) hv (by simp only[Rep])⟩
  |_=>exact(show False from hq).elim
 |str i=>
  cases b with
  |str j=>simp only[Rep]at ra rb;exact QV pins s σ H x y v u Q0 I rx ry ⟨i,j,ra,rb,hq.1,hk _ M _ H hq.2 (.refl H) hv (by simp only[Rep])⟩
  |_=>exact(show False from hq).elim
 |tup xs=>
  cases b with
  |tup ys=>
   obtain⟨hz,hq⟩:=hq;simp only[Rep]at ra rb;obtain⟨p,vs,rfl,hp,hr⟩:=ra;obtain⟨q,ws,rfl,hp2,hr2⟩:=rb
   by_cases hn:vs= []
   . subst hn
     have hx:xs= []:=by have:=hr.length;simpa using this
     subst hx;cases rx;cases ry;obtain⟨ab,r1,p1,_⟩:=I.tuple (bZ.of hp);obtain⟨its2,r2,p2,_⟩:=I.tuple (bZ.of hp2);cases r1;exact Ud p1 p2 ⟨.ref q,H,I,rfl,hk _ M _ H hq (.refl H) hv (by simp only[Rep,jU];exact⟨q,ws,rfl,hp2,hr2⟩)⟩
   . refine Vg pins s σ H _ _ v u Q0 I rx ry ⟨p,q,vs,ws,rfl,rfl,hp,hp2,hn,by rw[<-hr.length,<-hr2.length];exact hz,λe=>?_,λe l hl=>?_⟩
     . subst e
       have hy:ys= []:=by have:=hr2.length;simpa using this
       subst hy;exact hk _ M _ H hq (.refl H) hv (by simp only[Rep,oG];exact⟨p,vs,rfl,hp,hr⟩)
     . exact hk _ M _ _ hq (Ext.new hl) (hv.new hl) (rL hl (hr.append hr2))
  |_=>exact(show False from hq).elim
 |ls xs=>
  cases b with
  |ls ys=>
   obtain⟨hz,hq⟩:=hq;simp only[Rep]at ra rb;obtain⟨p,vs,rfl,hp,hr⟩:=ra;obtain⟨q,ws,rfl,hp2,hr2⟩:=rb;cases rx;cases ry;obtain⟨ab,r1,p1,z1⟩:=I.list hp.sq;obtain⟨its2,r2,p2,z2⟩:=I.list hp2.sq;have hz':vs.length+ws.length<=sizeLine:=by rw[<-hr.length,<-hr2.length];exact hz
   refine aB (VE (Q:=EP X pins σ (λv H'=>∃H1 p xs,v= .ref p/\H1 p=none/\H'=upd H1 p (.lst xs)/\∀o,Q0 (.ref p) (upd H1 p (.bj o (.lst xs))))) p1.isList p2.isList ?_ (by rw[<-r1.length,<-r2.length];exact hz')) λ_ _ e=>frozen e
   have hf:=I.av.fresh (aU s.heap.objs.size);refine⟨.ref s.heap.objs.size,upd H s.heap.objs.size (.lst (vs++ws)),I.laid (t':=s.toks) (λb ob q=>bK _ q) (aU _) ?_,rfl,H,_,_,rfl,hf,rfl,λo=>?_⟩
   . exact⟨by rw[eF];exact hz',_,0,r1.append r2,dJ _ rfl⟩
   . exact hk _ M _ _ hq (Ext.new hf) (hv.new hf) (j4 hf (hr.append hr2))
  |_=>exact(show False from hq).elim
 |_=>cases b<;>exact(show False from hq).elim
def iN:RV->Bool
 | .aq=>true
 |_=>false
theorem IK{K:ag}:∀{a:RV} {x:V},Rep K H a x->decide (x= .aq)=iN a:=by
 intro a x h;cases a with
 |tup xs=>simp only[Rep]at h;obtain⟨p,vs,rfl,_⟩:=h;simp[iN]
 |ls xs=>simp only[Rep]at h;obtain⟨p,vs,rfl,_⟩:=h;simp[iN]
 |_=>simp only[Rep]at h;subst h;simp[iN]
def L7:cM:=λx y M Q=>match y with| .aq=>Q (.bl (iN x)) M|_=>False
def JC:cM:=λx y M Q=>match y with| .aq=>Q (.bl (!iN x)) M|_=>False
theorem MT:dz X (compareOp .Is) L7:=by
 intro c s k H x y v u e I i j h;obtain⟨a,b,M,Q,ra,rb,g,d,f⟩:=h;cases b with
 |aq=>simp only[Rep]at rb;exact W5 c s k H x y v u e I i j ⟨rb,by rw[IK ra];exact f _ M _ H d (.refl H) g (by simp only[Rep])⟩
 |_=>exact(show False from d).elim
theorem W9:dz X (compareOp .IsNot) JC:=by
 intro c s k H x y v u e I i j h;obtain⟨a,b,M,Q,ra,rb,g,d,f⟩:=h;cases b with
 |aq=>simp only[Rep]at rb;exact Ve c s k H x y v u e I i j ⟨rb,by rw[IK ra];exact f _ M _ H d (.refl H) g (by simp only[Rep])⟩
 |_=>exact(show False from d).elim
noncomputable def bI:cM:=λx y M Q=>match x,y with
 | .tup xs,.int i=>match bQ xs i with|some v=>Q v M|none=>False
 | .ls xs,.int i=>match bQ xs i with|some v=>Q v M|none=>False
 | .ref a,.int i=>match M a with
  |some (.lst xs)=>match bQ xs i with|some v=>Q v M|none=>False
  |_=>False
 | .str z,.int i=>z.length<=sizeLine/\match bQ z.cps.toList i with|some c=>Q (.str ⟨#[c]⟩) M|none=>False
 |_,_=>False
theorem MU:sX X (sN X.K bI):=by
 intro g f j s C H x y v u n I t A h hs;obtain⟨a,b,M,Q,ra,rb,l,d,o⟩:=h;cases b with
 |int i=>
  simp only[Rep]at rb;cases a with
  |tup m=>
   simp only[Rep]at ra;obtain⟨p,vs,rfl,D,k⟩:=ra;simp only[bI]at d;cases e:bQ m i with
   |none=>rw[e]at d;exact d.elim
   |some z=>
    rw[e]at d;obtain⟨w,e1,r1⟩:=k.bQ e;exact Wo g f j s C H _ y v u n I t A ⟨p,vs,i,w,rfl,rb,D,e1,o _ M _ H d (.refl H) l r1⟩ hs
  |ls m=>
   simp only[Rep]at ra;obtain⟨p,vs,rfl,D,k⟩:=ra;simp only[bI]at d;cases e:bQ m i with
   |none=>rw[e]at d;exact d.elim
   |some z=>
    rw[e]at d;obtain⟨w,e1,r1⟩:=k.bQ e;exact IG g f j s C H _ y v u n I t A ⟨p,vs,i,w,rfl,rb,D.sq,e1,o _ M _ H d (.refl H) l r1⟩ hs
  |ref p=>
   simp only[Rep]at ra;simp only[bI]at d;split at d
   . rename_i m E
     obtain⟨ho,e,r⟩:=l p _ E;obtain⟨vs,rfl,k⟩:=r;cases e2:bQ m i with
     |none=>rw[e2]at d;exact d.elim
     |some z=>
      rw[e2]at d;obtain⟨w,e1,r1⟩:=k.bQ e2;exact IG g f j s C H x y v u n I t A ⟨p,vs,i,w,ra,rb,dE.of e,e1,o _ M _ H d (.refl H) l r1⟩ hs
   . exact d.elim
  |str z=>
   simp only[Rep]at ra;simp only[bI]at d;obtain⟨F,d⟩:=d;cases e:bQ z.cps.toList i with
   |none=>rw[e]at d;exact d.elim
   |some c=>
    rw[e]at d;exact Wq g f j s C H x y v u n I t A ⟨z,i,c,ra,rb,F,e,o _ M _ H d (.refl H) l (by simp only[Rep])⟩ hs
  |_=>exact(show False from d).elim
 |_=>cases a<;>exact(show False from d).elim
theorem ZT{a b:Expr}{ta tb:ar}(c:aj X a ta)(d:aj X b tb)(hs:Jf b:=by intro _ _;rfl):aj X (.Subscript a b pos) (ou bI ta tb):=PE.imp (YF MU c d hs) λ_ _ _ h=>yy h
noncomputable def qx:yR:=λo i v M Q=>match o,i with
 | .ref p,.int k=>match M p with
  |some (.lst xs)=>match f7 xs.length k with|some j=>Q (put M p (.lst (xs.set j v)))|none=>False
  |_=>False
 |_,_=>False
theorem YI:yX X (Kd X.K qx):=by
 intro f s z H o i v w iv u n I ro ri rv h;obtain⟨a,b,c,M,Q,ra,rb,x,m,d,t⟩:=h;cases a with
 |ref p=>
  cases b with
  |int k=>
   simp only[Rep]at ra rb;simp only[qx]at d;split at d
   . rename_i y g
     obtain⟨ho,e,r⟩:=m p _ g;obtain⟨vs,rfl,l⟩:=r;cases e2:f7 y.length k with
     |none=>rw[e2]at d;exact d.elim
     |some j=>
      rw[e2]at d;have ex:Ext H (upd H p (.lst (vs.set j v))):=Ext.write e rfl;exact set_list f s z H o i v w iv u n I ro ri rv ⟨p,vs,k,j,ra,rb,e,by rw[<-l.length];exact e2,t _ _ d ex (m.write g ⟨_,rfl,aa.ext ex _ _ (l.set x j)⟩)⟩
   . exact d.elim
  |_=>exact(show False from d).elim
 |_=>cases b<;>exact(show False from d).elim
def fE(K:ag)(r:LR->RM->ak->Prop):LV->Hp->VK->Prop:=λvs H a=>∃rs M Q,aa K H rs vs/\View K H M/\r rs M Q/\jZ K H Q a
def j6(r:LR->RM->ak->Prop)(t:bX):ar:=λσ M Q=>t σ M λrs M1=>r rs M1 Q
theorem Hc{K:ag}{t:bX}(h:up K (j6 r t) σ0 H Q0):Cd (fE K r) (Cg K t) σ0 H Q0:=by
 obtain⟨σ,M,Q,hs,hv,ht,hk⟩:=h;exact⟨σ,M,_,hs,hv,ht,λrs M1 vs H1 q e1 v1 r1=>⟨rs,M1,Q,r1,v1,q,hk.ext e1⟩⟩
variable {x:Str}{p pos:Pos}{e:Expr}{es:aV}{t:bX}{id T:String}{r:LR->RM->ak->Prop}
theorem ql(d:dm X (.builtin id) (fE X.K r))(i:X.mg x=none)(k:bootBuiltins x=some (.builtin id))(c:fI X (e::es) t)(g:Gl X x:=by rfl)(j:x≠"__name__":=by decide)(a:(x==("__debug__":Str))=false:=by decide)
 (f:starEach (e::es) X.env=(false,eval e X.env)::starEach es X.env:=by rfl) (b:(backTo pos (starEach es X.env)).any (·.1)=false:=by rfl):aj X (.Call (.Name x p) (e::es) [] pos) (j6 r t):=
 PE.imp (TZ d g i k c j a f b) λ_ _ _ h=>Hc h
theorem Be(d:dm X (.type T) (fE X.K r))(i:X.mg x=none)(k:bootBuiltins x=some (.type T))(c:fI X (e::es) t)(g:Gl X x:=by rfl)(j:x≠"__name__":=by decide)(a:(x==("__debug__":Str))=false:=by decide)
 (f:starEach (e::es) X.env=(false,eval e X.env)::starEach es X.env:=by rfl) (b:(backTo pos (starEach es X.env)).any (·.1)=false:=by rfl):aj X (.Call (.Name x p) (e::es) [] pos) (j6 r t):=
 PE.imp (R8 d g i k c j a f b) λ_ _ _ h=>Hc h
theorem aa.one{K:ag}{x:RV}{vs:LV}(h:aa K H [x] vs):∃v,vs= [v]/\Rep K H x v:=by
 simp only[aa]at h;obtain⟨v,r,rfl,a,rfl⟩:=h;exact⟨v,rfl,a⟩
theorem aa.two{K:ag}{x y:RV}{vs:LV}(h:aa K H [x,y] vs):∃v w,vs= [v,w]/\Rep K H x v/\Rep K H y w:=by
 simp only[aa]at h;obtain⟨v,r,rfl,a,w,c,rfl,b,rfl⟩:=h;exact⟨v,w,rfl,a,b⟩
noncomputable def y9:LR->RM->ak->Prop:=λrs M Q=>match rs with
 | [.tup xs]=>Q (.int xs.length) M
 | [.ls xs]=>Q (.int xs.length) M
 | [.str z]=>z.length<=sizeLine/\Q (.int z.length) M
 | [.ref a]=>match M a with|some (.lst xs)=>Q (.int xs.length) M|_=>False
 |_=>False
theorem EF:dm X (.builtin "len") (fE X.K y9):=by
 intro b s l H u us g I j h;obtain⟨rs,M,Q,k,f,c,i⟩:=h;unfold y9 at c;split at c
 . rename_i n
   obtain⟨v,rfl,r1⟩:=k.one;simp only[Rep]at r1;obtain⟨q,vs,rfl,m,d⟩:=r1;exact Al b s l H _ us g I j ⟨q,vs,rfl,.inr m,by rw[<-d.length];exact i _ M _ H c (.refl H) f (by simp only[Rep])⟩
 . rename_i n
   obtain⟨v,rfl,r1⟩:=k.one;simp only[Rep]at r1;obtain⟨q,vs,rfl,m,d⟩:=r1;exact Al b s l H _ us g I j ⟨q,vs,rfl,.inl m.sq,by rw[<-d.length];exact i _ M _ H c (.refl H) f (by simp only[Rep])⟩
 . rename_i z
   obtain⟨v,rfl,r1⟩:=k.one;simp only[Rep]at r1;subst r1;exact Qv b s l H _ us g I j ⟨z,rfl,c.1,i _ M _ H c.2 (.refl H) f (by simp only[Rep])⟩
 . rename_i a
   obtain⟨v,rfl,r1⟩:=k.one;simp only[Rep]at r1;subst r1;split at c
   . rename_i n o
     obtain⟨ho,e,r⟩:=f a _ o;obtain⟨vs,rfl,d⟩:=r;exact Al b s l H _ us g I j ⟨a,vs,rfl,.inl (dE.of e),by rw[<-d.length];exact i _ M _ H c (.refl H) f (by simp only[Rep])⟩
   . exact c.elim
 . exact c.elim
noncomputable def A9:LR->RM->ak->Prop:=λrs M Q=>match rs with
 | [.tup xs]=>Q (.tup xs) M
 | [.ls xs]=>Q (.tup xs) M
 | [.ref a]=>match M a with|some (.lst xs)=>Q (.tup xs) M|_=>False
 |_=>False
theorem XI:dm X (.type "tuple") (fE X.K A9):=by
 intro b s n H w us j I l h;obtain⟨rs,M,Q,m,i,c,k⟩:=h;unfold A9 at c;split at c
 . rename_i o
   obtain⟨v,rfl,r1⟩:=m.one;simp only[Rep]at r1;obtain⟨q,vs,rfl,g,f⟩:=r1;exact Ap b s n H _ us j I l ⟨q,vs,rfl,.inr ⟨g,k _ M _ H c (.refl H) i (by simp only[Rep];exact⟨q,vs,rfl,g,f⟩)⟩⟩
 . rename_i o
   obtain⟨v,rfl,r1⟩:=m.one;simp only[Rep]at r1;obtain⟨q,vs,rfl,g,f⟩:=r1;exact Ap b s n H _ us j I l ⟨q,vs,rfl,.inl ⟨g.sq,λl d=>k _ M _ _ c (Ext.new d) (i.new d) (rL d f)⟩⟩
 . rename_i a
   obtain⟨v,rfl,r1⟩:=m.one;simp only[Rep]at r1;subst r1;split at c
   . rename_i o u
     obtain⟨ho,e,r⟩:=i a _ u;obtain⟨vs,rfl,f⟩:=r;exact Ap b s n H _ us j I l ⟨a,vs,rfl,.inl ⟨dE.of e,λl d=>k _ M _ _ c (Ext.new d) (i.new d) (rL d f)⟩⟩
   . exact c.elim
 . exact c.elim
end
open HT
section
variable {prog:Program}{w:World}{A:Around}{E:aX}{s:Shared}
theorem Pf{t sl:Addr}{a hi:Option Int}(b:IsTup s.heap t items)(hs:s.heap.IsSliceOf sl vl vu .none)(pl:IsPart vl a)(pu:IsPart vu hi)
 (h0:aQ items.size 0 a=0) (g:aQ items.size items.size hi=items.size)
 (h:Q (.ref t) s):wpAny (model prog w) A (getItem (.ref t) (.ref sl)) Q E s:=by
 obtain⟨j,f,e,i⟩:=id hs;have d:s.TypeIs (.ref sl) "slice":=⟨j,f,e⟩;unfold getItem
 try with_reducible refine kq ?_
 first|refine ah (aD ?_)|skip
 refine ah (wpAny_sequenceKey b.typeIs (by decide) ?_)
 refine ah (wpAny_callSpecial?_slot (name:=Str.ofString "__getitem__") b.typeIs zH
  (ja zH b.typeIs entry_tuple_getitem ?_ (args_tuple_getitem _ _)))
 show wpAny _ _ (Builtin.Tuple.tupleItemsOf (.ref t) >>= _) _ _ s;refine ah (tupleItemsOf_ b ?_);refine ah (wpAny_typeOf d ?_);rw[ai (by decide)]
 refine ah (FJ hs pl pu ?_);have c:(((aQ items.size 0 a:Nat):Int)==0&&(1:Int)==1&&(aQ items.size items.size hi-aQ items.size 0 a)==items.size)=true:=by
  rw[h0,g];simp
 show wpAny _ _ (if(((aQ items.size 0 a:Nat):Int)==0&&(1:Int)==1&&(aQ items.size items.size hi-aQ items.size 0 a)==items.size)=true then _ else _) _ _ s
 rw[ai c];show wpAny _ _ (Builtin.Tuple.tupleIsExact (.ref t) >>= _) _ _ s;unfold Builtin.Tuple.tupleIsExact;refine ah (ah (wpAny_typeOf b.typeIs (aD ?_)));rw[ai (by decide)]
 refine ah (wpAny_rule ?_);refine ah (aD ?_);exact aD ⟨_,rfl,aD h⟩
end
section
variable {X:Cx}
abbrev oX:=bD->RM->(Option Int->RM->Prop)->Prop
def upP(K:ag)(t:oX):TO:=λσ0 H Q0=>∃σ M Q,aR K H σ σ0/\View K H M/\t σ M Q/\∀o M' H',Q o M'->Ext H H'->View K H' M'->Q0 o H'
def qW(X:Cx)(e:Option Expr)(t:oX):Prop:=PO X e (upP X.K t)
def Fc:oX:=λ_ M Q=>Q none M
def Km(t:ar):oX:=λσ M Q=>t σ M λx M1=>match x with| .int i=>Q (some i) M1|_=>False
theorem PO.imp{e:Option Expr}{t t':TO}(h:PO X e t)(i:∀σ H Q,t' σ H Q->t σ H Q):PO X e t':=λpins s σ H Q I w=>h pins s σ H Q I (i σ H Q w)
theorem YC:qW X none Fc:=PO.imp Us λσ0 H d h=>by
 obtain⟨e,M,Q,hs,c,b,a⟩:=h;exact a none M H b (.refl H) c
theorem Yz{e:Expr}(h:aj X e te):qW X (some e) (Km te):=PO.imp (Ur h) λσ0 H Q0 h=>by
 obtain⟨σ,M,Q,hs,hv,ht,hk⟩:=h;refine⟨σ,M,_,hs,hv,ht,λrx M1 x H1 q e1 v1 r1=>?_⟩
 cases rx with
 |int i=>simp only[Rep]at r1;exact⟨i,r1,hk _ M1 H1 q e1 v1⟩
 |_=>exact(show False from q).elim
def gy(xs:LR)(a hi:Option Int):LR:=(xs.drop (aQ xs.length 0 a)).take (aQ xs.length xs.length hi-aQ xs.length 0 a)
theorem HP{K:ag}{vs:LV}(r:aa K H xs vs)(a hi:Option Int):aa K H (gy xs a hi) (om vs a hi):=by
 unfold gy om;rw[r.length];exact(r.drop _).take _
noncomputable def oe:RV->Option Int->Option Int->RM->ak->Prop:=λx b hi M Q=>match x with
 | .tup xs=>Q (.tup (gy xs b hi)) M
 | .ls xs=>Q (.ls (gy xs b hi)) M
 | .ref a=>match M a with|some (.lst xs)=>Q (.ls (gy xs b hi)) M|_=>False
 |_=>False
noncomputable def upL (K:ag)(r:RV->Option Int->Option Int->RM->ak->Prop):V->Option Int->Option Int->Hp->VK->Prop:=λx c hi H b=>∃a M Q,Rep K H a x/\View K H M/\r a c hi M Q/\jZ K H Q b
theorem OV:wH X (upL X.K oe):=by
 intro f s w H x v z A k hi sl n I u hs pl pu h;obtain⟨a,M,Q,ra,m,d,t⟩:=h;have c:∀p xs vs,x= .ref p->dE X.K H p vs->aa X.K H xs vs->Q (.ls (gy xs k hi)) M->
  ∃T id,typeLookup (.type T) "__getitem__" =pure (some (.builtin id))/\s.TypeIs v T/\wpAny (model X.prog X.w) X.A (getItem v (.ref sl)) (EP X f w n) X.xe s:=by
  intro p xs vs ex j g d;obtain⟨T,id,E,F,J⟩:=Uu f s w H x v z A k hi sl (λv C=>∃H1 p xs,v= .ref p/\H1 p=none/\C=upd H1 p (.lst xs)/\∀o,n (.ref p) (upd H1 p (.bj o (.lst xs)))) I u hs pl pu
   ⟨p,vs,ex,j,λq b=>⟨H,q,_,rfl,b,rfl,λo=>t _ M _ _ d (Ext.new b) (m.new b) (j4 b (HP g k hi))⟩⟩
  exact⟨T,id,E,F,aB J λ_ _ e=>frozen e⟩
 cases a with
 |tup xs=>
  simp only[oe]at d;simp only[Rep]at ra;obtain⟨p,vs,rfl,j,g⟩:=ra
  by_cases l:aQ vs.length 0 k=0/\aQ vs.length vs.length hi=vs.length
  . cases u
    obtain⟨ab,r,y,L⟩:=I.tuple (bZ.of j);have i:ab.toArray.size=vs.length:=by rw[fx];exact r.length.symm
    refine⟨"tuple",_,PyProof.Rows.slot_tuple_getitem.lookup,y.typeIs,?_⟩;refine Pf y hs pl pu (by rw[i];exact l.1) (by rw[i];exact l.2) ⟨.ref p,H,I,rfl,?_⟩
    have e:gy xs k hi=xs:=by
     unfold gy;rw[g.length,l.1,l.2,List.drop_zero,Nat.sub_zero,<-g.length,List.take_length]
    rw[e]at d;exact t _ M _ H d (.refl H) m (by simp only[Rep];exact⟨p,vs,rfl,j,g⟩)
  . exact V9 f s w H _ v z A k hi sl n I u hs pl pu ⟨p,vs,rfl,j,l,λq b=>t _ M _ _ d (Ext.new b) (m.new b) (rL b (HP g k hi))⟩
 |ls xs=>
  simp only[oe]at d;simp only[Rep]at ra;obtain⟨p,vs,rfl,j,g⟩:=ra;exact c p xs vs rfl j.sq g d
 |ref p=>
  simp only[oe]at d;simp only[Rep]at ra;split at d
  . rename_i xs D
    obtain⟨ho,e,r⟩:=m p _ D;obtain⟨vs,rfl,g⟩:=r;exact c p xs vs ra (dE.of e) g d
  . exact d.elim
 |_=>exact(show False from d).elim
def Mc(te:ar)(tl th:oX):ar:=λσ M Q=>te σ M λx M1=>tl σ M1 λl M2=>th σ M2 λu M3=>oe x l u M3 Q
theorem ZW{e:Expr}{lo hi:Option Expr}(he:aj X e te)(hl:qW X lo tl)(hu:qW X hi th):aj X (.Subscript e (.Slice lo hi none p2) pos) (Mc te tl th):=PE.imp (TM OV he hl hu) λσ0 H Q0 h=>by
 obtain⟨σ,M,Q,hs,hv,ht,hk⟩:=h;refine⟨σ,M,_,hs,hv,ht,λrx M1 x H1 q e1 v1 r1=>?_⟩
 refine⟨σ,M1,_,hs.ext e1,v1,q,λl M2 H2 q2 e2 v2=>?_⟩
 refine⟨σ,M2,_,hs.ext (e1.trans e2),v2,q2,λu M3 H3 q3 e3 v3=>?_⟩
 exact⟨rx,M3,Q,Rep.ext (e2.trans e3) rx x r1,v3,q3,hk.ext ((e1.trans e2).trans e3)⟩
theorem QD(K:ag):PySem.W.kitOne K (.type "NoneType") (.type "int")=some false:=by kernel_rfl
theorem Q4(K:ag):PySem.W.kitOne K (.type "bool") (.type "int")=some true:=by kernel_rfl
theorem QG(K:ag):PySem.W.kitOne K (.type "int") (.type "int")=some true:=by kernel_rfl
theorem Qz(K:ag):PySem.W.kitOne K (.type "str") (.type "int")=some false:=by kernel_rfl
theorem Qx(K:ag):PySem.W.kitOne K (.type "tuple") (.type "int")=some false:=by kernel_rfl
theorem Q2(K:ag):PySem.W.kitOne K (.type "list") (.type "int")=some false:=by kernel_rfl
noncomputable def Jt:RV->Option Bool
 | .aq=>some false
 | .bl _=>some true
 | .int _=>some true
 | .str _=>some false
 | .tup _=>some false
 | .ls _=>some false
 |_=>none
theorem P0(K:ag):PySem.W.kitOne K (.type "NoneType") (.type "bool")=some false:=by kernel_rfl
theorem QJ(K:ag):PySem.W.kitOne K (.type "bool") (.type "bool")=some true:=by kernel_rfl
theorem P4(K:ag):PySem.W.kitOne K (.type "int") (.type "bool")=some false:=by kernel_rfl
theorem PY(K:ag):PySem.W.kitOne K (.type "str") (.type "bool")=some false:=by kernel_rfl
theorem PV(K:ag):PySem.W.kitOne K (.type "tuple") (.type "bool")=some false:=by kernel_rfl
theorem QE(K:ag):PySem.W.kitOne K (.type "list") (.type "bool")=some false:=by kernel_rfl
noncomputable def is_bool:RV->Option Bool
 | .aq=>some false
 | .bl _=>some true
 | .int _=>some false
 | .str _=>some false
 | .tup _=>some false
 | .ls _=>some false
 |_=>none
theorem QC(K:ag):PySem.W.kitOne K (.type "NoneType") (.type "str")=some false:=by kernel_rfl
theorem Q3(K:ag):PySem.W.kitOne K (.type "bool") (.type "str")=some false:=by kernel_rfl
theorem QF(K:ag):PySem.W.kitOne K (.type "int") (.type "str")=some false:=by kernel_rfl
theorem Qy(K:ag):PySem.W.kitOne K (.type "str") (.type "str")=some true:=by kernel_rfl
theorem Qw(K:ag):PySem.W.kitOne K (.type "tuple") (.type "str")=some false:=by kernel_rfl
theorem QZ(K:ag):PySem.W.kitOne K (.type "list") (.type "str")=some false:=by kernel_rfl
noncomputable def Js:RV->Option Bool
 | .aq=>some false
 | .bl _=>some false
 | .int _=>some false
 | .str _=>some true
 | .tup _=>some false
 | .ls _=>some false
 |_=>none
theorem PK(K:ag):PySem.W.kitOne K (.type "NoneType") (.type "tuple")=some false:=by kernel_rfl
theorem Qs(K:ag):PySem.W.kitOne K (.type "bool") (.type "tuple")=some false:=by kernel_rfl
theorem PL(K:ag):PySem.W.kitOne K (.type "int") (.type "tuple")=some false:=by kernel_rfl
theorem PJ(K:ag):PySem.W.kitOne K (.type "str") (.type "tuple")=some false:=by kernel_rfl
theorem PH(K:ag):PySem.W.kitOne K (.type "tuple") (.type "tuple")=some true:=by kernel_rfl
theorem P1(K:ag):PySem.W.kitOne K (.type "list") (.type "tuple")=some false:=by kernel_rfl
noncomputable def HA:RV->Option Bool
 | .aq=>some false
 | .bl _=>some false
 | .int _=>some false
 | .str _=>some false
 | .tup _=>some true
 | .ls _=>some false
 |_=>none
theorem PZ(K:ag):PySem.W.kitOne K (.type "NoneType") (.type "list")=some false:=by kernel_rfl
theorem QH(K:ag):PySem.W.kitOne K (.type "bool") (.type "list")=some false:=by kernel_rfl
theorem P2(K:ag):PySem.W.kitOne K (.type "int") (.type "list")=some false:=by kernel_rfl
theorem PX(K:ag):PySem.W.kitOne K (.type "str") (.type "list")=some false:=by kernel_rfl
theorem PU(K:ag):PySem.W.kitOne K (.type "tuple") (.type "list")=some false:=by kernel_rfl
theorem Ga(K:ag):PySem.W.kitOne K (.type "list") (.type "list")=some true:=by kernel_rfl
noncomputable def II:RV->Option Bool
 | .aq=>some false
 | .bl _=>some false
 | .int _=>some false
 | .str _=>some false
 | .tup _=>some false
 | .ls _=>some true
 |_=>none
noncomputable def Z5:RV->Option String
 | .aq=>some "NoneType"
 | .bl _=>some "bool"
 | .int _=>some "int"
 | .str _=>some "str"
 | .tup _=>some "tuple"
 | .ls _=>some "list"
 |_=>none
noncomputable def qA (T:String)(a:RV->Option Bool):LR->RM->ak->Prop:=λrs M Q=>match rs with
 | [x,.ty T']=>T'=T/\(match a x with|some b=>Q (.bl b) M|none=>False)
 |_=>False
theorem wc{T:String}(ht:∀a b,test a=some b->∃n,Z5 a=some n/\PySem.W.kitOne X.K (.type n) (.type T)=some b):dm X (.builtin "isinstance") (fE X.K (qA T test)):=by
 intro pins s σ H xs us Q0 I rl h;obtain⟨rs,M,Q,rr,hv,hq,hk⟩:=h;unfold qA at hq;split at hq
 . rename_i a T'
   obtain⟨rfl,hq⟩:=hq;obtain⟨v,w,rfl,r1,r2⟩:=rr.two;obtain⟨u,u',rfl,w1,w2⟩:=vals2 rl;simp only[Rep]at r2;subst r2;obtain rfl:u'=Value.type T':=w2;cases e:test a with
   |none=>rw[e]at hq;exact hq.elim
   |some b=>
    rw[e]at hq;obtain⟨n,en,ek⟩:=ht a b e;have fin:∀tk,EP X pins σ Q0 (.bool b) { s with toks:=tk }:=λtk=>⟨.bl b,H,I.tok tk,rfl,hk _ M _ H hq (.refl H) hv (by simp only[Rep])⟩
    cases a with
    |aq=>cases en;simp only[Rep]at r1;subst r1;cases(show u=Value.none from w1);exact qS PySem.W.kitx_none I.eL True.intro ek (λz=>nomatch z) fin
    |bl y=>cases en;simp only[Rep]at r1;subst r1;cases(show u=Value.bool y from w1);exact qS PySem.W.kitx_bool I.eL True.intro ek (λz=>nomatch z) fin
    |int y=>cases en;simp only[Rep]at r1;subst r1;obtain⟨t,q⟩:=(show ∃t,u=Value.int y t from w1);cases q;exact qS PySem.W.kitx_int I.eL True.intro ek (λz=>nomatch z) fin
    |str y=>cases en;simp only[Rep]at r1;subst r1;obtain⟨t,q⟩:=(show ∃t,u=Value.str y t from w1);cases q;exact qS PySem.W.kitx_str I.eL True.intro ek (λz=>nomatch z) fin
    |tup ys=>
     cases en;simp only[Rep]at r1;obtain⟨p,vs,rfl,hp,hr⟩:=r1;cases(show u=Value.ref p from w1)
     obtain⟨ab,_,pt,_⟩:=I.tuple (bZ.of hp);obtain⟨o,h1,h2,_⟩:=pt;exact qS PySem.W.kitx_tuple I.eL ⟨o,h1,h2⟩ ek (λz=>nomatch z) fin
    |ls ys=>
     cases en;simp only[Rep]at r1;obtain⟨p,vs,rfl,hp,hr⟩:=r1;cases(show u=Value.ref p from w1)
     obtain⟨ab,_,pt,_⟩:=I.list hp.sq;obtain⟨o,h1,h2,_⟩:=pt.isList;exact qS PySem.W.kitx_list I.eL ⟨o,h1,h2⟩ ek (λz=>nomatch z) fin
    |_=>cases en
 . exact hq.elim
theorem Uc:dm X (.builtin "isinstance") (fE X.K (qA "int" Jt)):=wc λa b e=>by
 cases a with
 |aq=>cases e;exact⟨_,rfl,QD X.K⟩
 |bl _=>cases e;exact⟨_,rfl,Q4 X.K⟩
 |int _=>cases e;exact⟨_,rfl,QG X.K⟩
 |str _=>cases e;exact⟨_,rfl,Qz X.K⟩
 |tup _=>cases e;exact⟨_,rfl,Qx X.K⟩
 |ls _=>cases e;exact⟨_,rfl,Q2 X.K⟩
 |_=>cases e
theorem Sv:dm X (.builtin "isinstance") (fE X.K (qA "bool" is_bool)):=wc λa b e=>by
 cases a with
 |aq=>cases e;exact⟨_,rfl,P0 X.K⟩
 |bl _=>cases e;exact⟨_,rfl,QJ X.K⟩
 |int _=>cases e;exact⟨_,rfl,P4 X.K⟩
 |str _=>cases e;exact⟨_,rfl,PY X.K⟩
 |tup _=>cases e;exact⟨_,rfl,PV X.K⟩
 |ls _=>cases e;exact⟨_,rfl,QE X.K⟩
 |_=>cases e
theorem Ub:dm X (.builtin "isinstance") (fE X.K (qA "str" Js)):=wc λa b e=>by
 cases a with
 |aq=>cases e;exact⟨_,rfl,QC X.K⟩
 |bl _=>cases e;exact⟨_,rfl,Q3 X.K⟩
 |int _=>cases e;exact⟨_,rfl,QF X.K⟩
 |str _=>cases e;exact⟨_,rfl,Qy X.K⟩
 |tup _=>cases e;exact⟨_,rfl,Qw X.K⟩
 |ls _=>cases e;exact⟨_,rfl,QZ X.K⟩
 |_=>cases e
theorem RK:dm X (.builtin "isinstance") (fE X.K (qA "tuple" HA)):=wc λa b e=>by
 cases a with
 |aq=>cases e;exact⟨_,rfl,PK X.K⟩
 |bl _=>cases e;exact⟨_,rfl,Qs X.K⟩
 |int _=>cases e;exact⟨_,rfl,PL X.K⟩
 |str _=>cases e;exact⟨_,rfl,PJ X.K⟩
 |tup _=>cases e;exact⟨_,rfl,PH X.K⟩
 |ls _=>cases e;exact⟨_,rfl,P1 X.K⟩
 |_=>cases e
theorem Su:dm X (.builtin "isinstance") (fE X.K (qA "list" II)):=wc λa b e=>by
 cases a with
 |aq=>cases e;exact⟨_,rfl,PZ X.K⟩
 |bl _=>cases e;exact⟨_,rfl,QH X.K⟩
 |int _=>cases e;exact⟨_,rfl,P2 X.K⟩
 |str _=>cases e;exact⟨_,rfl,PX X.K⟩
 |tup _=>cases e;exact⟨_,rfl,PU X.K⟩
 |ls _=>cases e;exact⟨_,rfl,Ga X.K⟩
 |_=>cases e
abbrev cu:=LR->RM->ak->Prop
def gd(K:ag)(sp:cu):Sp:=λvs H a _=>∃rs M Q,aa K H rs vs/\View K H M/\sp rs M Q/\jZ K H Q a
end
structure zJ(P:Program)(w:World)(K:ag)(mg:bC)(base:Heap)(k:Nat)(x:Str)(ps:aE)(sp:cu):Prop where
 ex:∃(f:Addr) (fd:FuncData),mg x=some (.ref f)/\PySem.W.keepIn K (.ref f)=true/\Binds K fd ps []/\eW P w K mg base fN k f fd ps (gd K sp)
section
variable {X:Cx}{x:Str}{p pos:Pos}{e:Expr}{es:aV}{t:bX}{k:Nat}{ps:aE}{sp:cu}
theorem VY(F:zJ X.prog X.w X.K X.mg X.base k x ps sp)(m:aN k X.A)(d:fI X (e::es) t)(j:Gl X x:=by rfl)(a:(x==("__debug__":Str))=false:=by decide)
 (i:starEach (e::es) X.env=(false,eval e X.env)::starEach es X.env:=by rfl) (c:(backTo pos (starEach es X.env)).any (·.1)=false:=by rfl):aj X (.Call (.Name x p) (e::es) [] pos) (j6 sp t):=by
 obtain⟨f,v,l,b,g,F⟩:=F.ex;refine PE.imp (Va F m j l b g .nil qr d a i c) λσ0 H u h=>?_
 obtain⟨s,M,Q,hs,o,n,b⟩:=h;exact⟨s,M,_,hs,o,n,λrs M1 vs H1 q e1 r r1=>⟨rs,M1,Q,by rw[oG];exact r1,r,q,b.ext e1⟩⟩
theorem UJ(F:zJ X.prog X.w X.K X.mg X.base k x ps sp)(i:aN k X.A)(d:Gl X x:=by rfl)(a:(x==("__debug__":Str))=false:=by decide):aj X (.Call (.Name x p) [] [] pos) (j6 sp mV):=by
 obtain⟨f,n,g,b,c,F⟩:=F.ex;refine PE.imp (T1 F i d g b c .nil qr a) λσ0 H m h=>?_
 obtain⟨o,M,Q,hs,l,j,b⟩:=h;exact⟨[],M,Q,aa.nil,l,j,b⟩
def jh(N:aE)(rs:LR):bD:=rs.map some++List.replicate (N.length-rs.length) none
theorem Rt{K:ag}{rs:LR}{vs:LV}(r:aa K H rs vs):aR K H (jh N rs) (L2.start N vs):=by
 unfold jh L2.start;refine⟨by simp[r.length],λi z e=>?_⟩
 have hi:i<rs.length:=by
  by_cases hi:i<rs.length
  . exact hi
  . rw[List.getElem?_append_right (by simpa using hi),List.getElem?_replicate]at e
    split at e<;>cases e
 rw[qQ (by simpa using hi),gm]at e
 cases q:rs[i]? with
 |none=>rw[q]at e;cases e
 |some y=>
  rw[q]at e;cases e;obtain⟨v,e1,r1⟩:=r.get q;exact⟨v,by rw[qQ (by rw[bo,<-r.length];exact hi),gm,e1];rfl,r1⟩
def nums(n:Nat):LR:=(List.range n).map λ(i:Nat)=>RV.int (i:Int)
theorem yf(n):(nums n).length=n:=by simp[nums]
end
def fz(b H a:Hp):Prop:=a=H∨∃d o u,H d=some (.bj o u)/\jO u=true/\(∀c e,b d≠some (.bj c e))/\a=upd H d u
theorem fz.inv{X:Cx}{s:Shared}(t:fz X.H₀ H H')(I:Inv X pins σ H s):Inv X pins σ H' s:=by
 rcases t with rfl|⟨p,ob,u,h,n,k,rfl⟩
 . exact I
 have d:∀b,H b=none->b≠p:=λb q w=>by subst w;rw[h]at q;cases q
 refine⟨I.ok,I.os,I.bare,⟨I.base.keep,I.base.slot,λb o q w x=>?_,I.base.there,λb e q=>?_,λb o u q=>?_,λb m q=>?_⟩,I.loc,I.cell,?_,λx c q=>?_,λq l=>?_,λb v q=>?_,I.len⟩
 . have:=I.base.free b o q w x
   rw[au (d b this)];exact this
 . have e1:=I.base.bq b e q
   rw[au (jL e1 h (by intro z;cases z))];exact e1
 . have e1:=I.base.aK b o u q
   rw[au (by rintro rfl;exact k _ _ q)];exact e1
 . obtain⟨a,e1⟩:=I.base.fm b m q
   exact⟨a,by rw[au (jL e1 h (by intro z;cases z))];exact e1⟩
 . rw[au (d _ I.free)];exact I.free
 . have:=I.bT x c q
   rw[au (d _ this)];exact this
 . obtain⟨i,f,j⟩:=I.pin q l
   exact⟨i,by rw[au (d _ f)];exact f,j⟩
 . have st:∀c v,aG X.prog X.w H s.heap c v->aG X.prog X.w (upd H p u) s.heap c v:=λc v z=>z.fj (λ_ _ _ q=>q) (λc q=>by rw[au (jL q h (by intro z;cases z))];exact q) λc r q=>by rw[au (jL q h (by intro z;cases z))];exact q
   by_cases g:b=p
   . subst g
     rw[bO]at q;cases q;exact st _ _ (I.av b _ h).2
   . rw[au g]at q
     exact st _ _ (I.av b v q)
theorem uV{s:Shared}{p:Addr}(I:Inv X pins σ H s)(h:H p=some u)(du:jO u=true):∃o,s.heap.get? p=some o/\Inv X pins σ (upd H p (.bj o u)) s/\∀o' u',X.H₀ p≠some (.bj o' u'):=by
 have hz:=I.av p u h;obtain⟨ob,e⟩:∃o,s.heap.get? p=some o:=by
  cases u<;>first|(cases du;done)|skip
  . obtain⟨_,_,_,_,o,_,_,e,_⟩:=hz;exact⟨o,e⟩
  . obtain⟨_,_,_,_,o,_,_,e,_⟩:=hz;exact⟨o,e⟩
 have nf:∀o' u',H p≠some (.bj o' u'):=λo' u' z=>by rw[h]at z;cases z;cases du
 have np:∀b,H b=none->b≠p:=λb q w=>by subst w;rw[h]at q;cases q
 have nt:∀c xs,H c=some (.tup xs)->c≠p:=λc xs q w=>by subst w;rw[h]at q;cases q;cases du
 have no:∀c y,H c=some (.own y)->c≠p:=λc y q w=>by subst w;rw[h]at q;cases q;cases du
 refine⟨ob,e,⟨I.ok,I.os,I.bare,⟨I.base.keep,I.base.slot,λb o q w x=>?_,I.base.there,λb xs' q=>?_,λb o u q=>?_,λb ps q=>?_⟩,I.loc,I.cell,?_,λx c q=>?_,λq hq=>?_,λb v q=>?_,I.len⟩,λo' u' z=>nf o' u' (I.base.aK _ _ _ z)⟩
 . have:=I.base.free b o q w x
   rw[au (np b this)];exact this
 . have e1:=I.base.bq b xs' q
   rw[au (nt _ _ e1)];exact e1
 . have e1:=I.base.aK b o u q
   rw[au (by rintro rfl;exact nf _ _ e1)];exact e1
 . obtain⟨more,e1⟩:=I.base.fm b ps q
   exact⟨more,by rw[au (by rintro rfl;rw[h]at e1;cases e1;cases du)];exact e1⟩
 . rw[au (np _ I.free)];exact I.free
 . have:=I.bT x c q
   rw[au (np _ this)];exact this
 . obtain⟨a1,a2,a3⟩:=I.pin q hq
   exact⟨a1,by rw[au (np _ a2)];exact a2,a3⟩
 . have st:∀c v,aG X.prog X.w H s.heap c v->aG X.prog X.w (upd H p (.bj ob u)) s.heap c v:=λc v z=>z.fj (λ_ _ _ q=>q) (λc q=>by rw[au (no _ _ q)];exact q) λc ys q=>by rw[au (nt _ _ q)];exact q
   by_cases hb:b=p
   . subst hb
     rw[bO]at q;cases q;exact⟨e,st _ _ hz⟩
   . rw[au hb]at q
     exact st _ _ (I.av b v q)
structure iZ(H0 Hs:Hp)(K:ag)(J:It)(xs:LR)(ok:RM->Prop)(un:RM->RM)(H1:Hp):Prop where
 turn:∀i H M,Ext H1 H->View K H M->ok M->∀x,xs[i]? =some x->J.go i H/\∀v H',J.Cn i H v H'->Ext H H'/\(∀M,View K H M->View K H' M)/\Rep K H' x v
 stop:∀i H M,Ext H1 H->View K H M->ok M->xs.length<=i->J.stop i H
 cB:∀H M,Ext H1 H->View K H M->ok M->∃H',fz H0 H H'/\bu H H'/\Ext Hs H'/\View K H' (un M)
abbrev g8:=bD->RM->(LR->(RM->Prop)->(RM->RM)->RM->Prop)->Prop
abbrev eM:RM->Prop:=λ_=>True
noncomputable def Z9 (H0:Hp)(K:ag)(ti:g8):TI:=λσ0 H R=>∃σ M Q,aR K H σ σ0/\View K H M/\ti σ M Q/\∀xs ok un M' J H',Q xs ok un M'->Ext H H'->View K H' M'->iZ H0 H K J xs ok un H'->R J H'
def iJ(X:Cx)(b a:Expr)(c:g8):Prop:=PI X b a (Z9 X.H₀ X.K c)
section
variable {X:Cx}{tg:Expr}
noncomputable def Em (te:ar):g8:=λσ M Q=>te σ M λv M1=>match v with
 | .tup xs=>Q xs eM id M1
 | .ls xs=>Q xs eM id M1
 | .ref a=>match M1 a with
  |some (.lst xs)=>Q xs (λM=>M a=some (.lst xs)) id M1
  |_=>False
 |_=>False
theorem nJ{K:ag}{H1:Hp}{b:RM->Prop}(es:Ext Hs H1):∀H M,Ext H1 H->View K H M->b M->∃a,fz H0 H a/\bu H a/\Ext Hs a/\View K a (id M):=λH M e v _=>⟨H,.inl rfl,(Ext.refl H).w,es.trans e,v⟩
theorem Wu{K:ag}{H1:Hp}{a:Addr}{rs:LR}{vs:LV}(h:Fz K H1 a vs)(r:aa K H1 rs vs)(es:Ext Hs H1):iZ H0 Hs K (wB K a) rs eM id H1 where
 turn:=λi H M e _ _ x hx=>by
  obtain⟨v,e1,r1⟩:=r.get hx;refine⟨⟨vs,v,(h.ext e).sq,e1⟩,λv' b y=>?_⟩
  obtain⟨rfl,y⟩:=y;have:=y vs (h.ext e).sq;rw[e1]at this;cases this;exact⟨.refl _,λ_ w=>w,Rep.ext e x v r1⟩
 stop:=λi H M e _ _ hi=>⟨vs,(h.ext e).sq,by rw[<-r.length];exact hi⟩
 cB:=nJ es
theorem Wr{K:ag}{H1:Hp}{a:Addr}{rs:LR}{vs:LV}(h:bZ K H1 a vs)(r:aa K H1 rs vs)(es:Ext Hs H1):iZ H0 Hs K (Co K a) rs eM id H1 where
 turn:=λi H M e _ _ x hx=>by
  obtain⟨v,e1,r1⟩:=r.get hx;refine⟨⟨vs,v,bZ.ext e h,e1⟩,λv' b y=>?_⟩
  obtain⟨rfl,y⟩:=y;have:=y vs (bZ.ext e h);rw[e1]at this;cases this;exact⟨.refl _,λ_ w=>w,Rep.ext e x v r1⟩
 stop:=λi H M e _ _ hi=>⟨vs,bZ.ext e h,by rw[<-r.length];exact hi⟩
 cB:=nJ es
theorem Ws{K:ag}{H1:Hp}(n)(es:Ext Hs H1):iZ H0 Hs K (wC 0 n) (nums n) eM id H1 where
 turn:=λi H M e _ _ x hx=>by
  have hi:i<n:=by have:=(ke.mp hx).1;rw[yf]at this;exact this
  have a:x= .int (i:Int):=by simp[nums,hi]at hx;exact hx.symm
  subst a;refine⟨hi,λv' b y=>?_⟩
  obtain⟨rfl,rfl⟩:=y;exact⟨.refl _,λ_ w=>w,by simp only[Rep];simp⟩
 stop:=λi H M e _ _ hi=>by rw[yf]at hi;exact hi
 cB:=nJ es
theorem Wt{K:ag}{H1:Hp}{a:Addr}{rs:LR}(es:Ext Hs H1):iZ H0 Hs K (wB K a) rs (λM=>M a=some (.lst rs)) id H1 where
 turn:=λi H M e d c x hx=>by
  obtain⟨ho,b,vs,rfl,r⟩:=d a _ c;obtain⟨v,e1,r1⟩:=r.get hx;refine⟨⟨vs,v,dE.of b,e1⟩,λv' f y=>?_⟩
  obtain⟨rfl,y⟩:=y;have:=y vs (dE.of b);rw[e1]at this;cases this;exact⟨.refl _,λ_ w=>w,r1⟩
 stop:=λi H M e d c hi=>by
  obtain⟨ho,b,vs,rfl,r⟩:=d a _ c;exact⟨vs,dE.of b,by rw[<-r.length];exact hi⟩
 cB:=nJ es
theorem Oq{l:Expr}(w:aj X l te):iJ X tg l (Em te):=by
 intro i s n H R I h;obtain⟨E,M,Q,hs,A,z,t⟩:=h;refine aB (w i s n H (λx H1=>(∃a vs rs k M1,x= .ref a/\dE X.K H1 a vs/\iZ X.H₀ H X.K (wB X.K a) rs k id H1/\Q rs k id M1/\Ext H H1/\View X.K H1 M1)∨∃a vs rs M1,x= .ref a/\bZ X.K H1 a vs/\aa X.K H1 rs vs/\Q rs eM id M1/\Ext H H1/\View X.K H1 M1) I ⟨E,M,_,hs,A,z,λrv M1 v H1 q e1 f r1=>?_⟩) λu d ⟨v,H1,I1,r1,D⟩=>?_
 . cases rv with
   |ls j=>simp only[Rep]at r1;obtain⟨a,vs,rfl,c,g⟩:=r1;exact .inl ⟨a,vs,j,eM,M1,rfl,c.sq,Wu c g e1,q,e1,f⟩
   |tup j=>simp only[Rep]at r1;obtain⟨a,vs,rfl,c,g⟩:=r1;exact .inr ⟨a,vs,j,M1,rfl,bZ.of c,g,q,e1,f⟩
   |ref a=>
    simp only[Rep]at r1;subst r1;dsimp only at q;split at q
    . rename_i j y
      obtain⟨ho,u,vs,rfl,r⟩:=f a _ y;exact .inl ⟨a,vs,j,_,M1,rfl,dE.of u,Wt e1,q,e1,f⟩
    . exact q.elim
   |_=>exact(show False from q).elim
 . rcases D with⟨a,vs,rs,k,M1,rfl,c,g,q,e1,f⟩|⟨a,vs,rs,M1,rfl,c,g,q,e1,f⟩
   . cases r1
     obtain⟨ab,rv,p,C⟩:=I1.list c;refine wpAny_pyIter_list p.isList ?_;refine⟨d.heap.objs.size,[d.heap.objs.size],_,_,H1,rfl,I1.kept (t':=d.toks) λb o e=>bK _ e,RT a _,⟨_,dJ _ rfl,rfl,rfl⟩,λb m=>?_,t rs k id M1 _ H1 q e1 f g⟩
     have e:b=d.heap.objs.size:=by simpa using m
     subst e;exact I1.fZ (aU _) (I1.av.fresh (aU _))
   . cases r1
     obtain⟨ab,rv,p,C⟩:=I1.tuple c;refine wpAny_pyIter_tuple (show d.heap.IsTuple a ab.toArray from p) ?_
     refine⟨d.heap.objs.size,[d.heap.objs.size],_,_,H1,rfl,I1.kept (t':=d.toks) λb o e=>bK _ e,Q8 a _,⟨_,dJ _ rfl,rfl,rfl⟩,λb m=>?_,t rs eM id M1 _ H1 q e1 f (Wr c g e1)⟩
     have e:b=d.heap.objs.size:=by simpa using m
     subst e;exact I1.fZ (aU _) (I1.av.fresh (aU _))
noncomputable def vj (Q:LR->(RM->Prop)->(RM->RM)->RM->Prop):LR->RM->Prop:=λrs M=>match rs with
 | [.int n]=>-(2 ^ 62)<=n/\n<2 ^ 62/\Q (nums n.toNat) eM id M
 |_=>False
def Eo(te:ar):g8:=λσ M Q=>te σ M λv M1=>vj Q [v] M1
theorem PI.imp{t t':TI}(h:PI X tg iter t)(i:∀σ H R,t' σ H R->t σ H R):PI X tg iter t':=λpins s σ H R I w=>h pins s σ H R I (i σ H R w)
theorem Wx{a:Expr}{p pos:Pos}(i:X.mg "range" =none)(f:aj X a te)(b:Gl X "range":=by rfl)(d:starEach [a] X.env= [(false,eval a X.env)]:=by rfl)(c:starEach (a::[]) X.env=(false,eval a X.env)::starEach [] X.env:=by rfl):
 iJ X tg (.Call (.Name "range" p) [a] [] pos) (Eo te):=PI.imp (R7 b i (yQ f B1 c) d) λσ0 H R h=>by
 obtain⟨r,M,Q,hs,k,j,g⟩:=h;refine⟨r,M,vj Q,hs,k,j,λrs M1 vs H1 q e1 o r1=>?_⟩
 unfold vj at q;split at q
 . rename_i n
   obtain⟨l,m,q⟩:=q;obtain⟨v,rfl,e⟩:=r1.one;simp only[Rep]at e;subst e;exact⟨n,rfl,l,m,g _ eM id M1 _ H1 q e1 o (Ws _ e1)⟩
 . exact q.elim
def Kr(ti:g8)(g:js)(tb:d9):d9:=λD σ M=>ti σ M λxs ok un M1=>jK g tb D ok un xs σ M1
def J9(H0:Hp)(D:Ends):Ends where
 nx:=λσ H=>∃H',fz H0 H H'/\D.nx σ H'
 rt:=λv H=>∃H',fz H0 H H'/\D.rt v H'
 bk:=D.bk
 ct:=D.ct
theorem EW{body:List Stmt}{g:js}{tb:d9}(hp:PassesOwn (model X.prog X.w) X.A X.env X.xe)(hc:X.calm=true)(hi:iJ X tg iter ti)(hg:oW X tg g)(hb:ka X body tb)
 (hs:∀x,foldedSetIterable iter X.env x=pure x:=by intro _;rfl):fy X (.For tg iter body [] pos) (Kr ti g tb):=by
 intro pins s σ0 H D0 I h;refine aB (VP hp hc hi hg hb hs pins s σ0 H (J9 X.H₀ D0) I ?_) λf s' h'=>?_
 rotate_left
 . cases f with
   |next=>obtain⟨σ1,H1,I1,H2,t,q⟩:=h';exact⟨σ1,H2,t.inv I1,q⟩
   |brk=>exact h'
   |cont=>exact h'
   |ret v=>obtain⟨x1,σ1,H1,I1,r1,H2,t,q⟩:=h';exact⟨x1,σ1,H2,t.inv I1,r1,q⟩
 obtain⟨σ,M,D,hs,hv,ht,hd⟩:=h;refine⟨σ,M,_,hs,hv,ht,λxs ok un M1 J H1 q e1 v1 hJ=>?_⟩
 have outN:∀{σ4:bD} {M4:RM} {σ04:L2.St} {H4:Hp},(ok M4/\D.nx σ4 (un M4))->Ext H1 H4->View X.K H4 M4->aR X.K H4 σ4 σ04->(J9 X.H₀ D0).nx σ04 H4:=λq4 e4 v4 r4=>by
  obtain⟨H5,t5,e5,x5,v5⟩:=hJ.cB _ _ e4 v4 q4.1;exact⟨H5,t5,hd.nx _ _ _ H5 q4.2 x5 v5 (r4.ba e5)⟩
 refine⟨λi m σ0 H=>m=xs.length-i/\i<=xs.length/\∃σ M,aR X.K H σ σ0/\View X.K H M/\jK g tb D ok un (xs.drop i) σ M/\Ext H1 H,⟨_,rfl,qT _,σ,M1,hs.ext e1,v1,by simpa using q,.refl _⟩,?_⟩
 rintro i m σ0 H ⟨rfl,hi,σ,M,hs,hv,hf,e⟩
 by_cases hlt:i<xs.length
 . have ed:xs.drop i=xs[i]::xs.drop (i+1):=by simp
   rw[ed]at hf;obtain⟨av,hf⟩:=hf;obtain⟨hgo,hy⟩:=hJ.turn i H M e hv av xs[i] (by simp)
   refine .inr ⟨hgo,λσ0 H=>∃σ M,aR X.K H σ σ0/\View X.K H M/\jK g tb D ok un (xs.drop (i+1)) σ M/\Ext H1 H,λσ' H' h=>⟨_,by omega,rfl,hlt,h⟩,λx H' y=>?_⟩
   obtain⟨e2,w2,r2⟩:=hy x H' y;refine⟨xs[i],σ,M,_,r2,hs.ext e2,w2 M hv,hf,λσ' M' σ0' H'' q e3 v3 r3=>?_⟩
   have e13:=(e.trans e2).trans e3;refine⟨σ',M',_,r3,v3,q,⟨λσ4 M4 σ04 H4 q4 e4 v4 r4=>⟨σ4,M4,r4,v4,q4,e13.trans e4⟩,λrv M4 v H4 q4 e4 v4 r4=>?_,λσ4 M4 σ04 H4 q4 e4 v4 r4=>outN q4 (e13.trans e4) v4 r4,λσ4 M4 σ04 H4 q4 e4 v4 r4=>⟨σ4,M4,r4,v4,q4,e13.trans e4⟩⟩⟩
   obtain⟨H5,t5,e5,x5,v5⟩:=hJ.cB _ _ (e13.trans e4) v4 q4.1;exact⟨H5,t5,hd.rt _ _ _ H5 q4.2 x5 v5 (Rep.ba e5 _ _ r4)⟩
 . have ei:i=xs.length:=by omega
   subst ei;rw[List.drop_length]at hf;exact .inl ⟨hJ.stop _ H M e hv hf.1 (aU _),outN hf e hv hs⟩
end
theorem RJ{env:Env}:∀a,(∀y∈a.names,y.2= .free->∃c,env.cells.lookup y.1=some c)->∃f,closureFor a env=pure f/\(∀y c,f.lookup y=some c->env.cells.lookup y=some c)/\∀y∈a.names,y.2= .free->∃c,f.lookup y.1=some c:=by
 intro a h;have t:∀(l:List (Str×NameKind)) (cs:List (Str×Addr)),(∀y∈l,y.2= .free->∃c,env.cells.lookup y.1=some c)->(∀y c,cs.lookup y=some c->env.cells.lookup y=some c)->
  ∃f,(forIn l cs λ(x:Str×NameKind) (r:List (Str×Addr))=>(match x with|(name,kind)=>if(kind==NameKind.free)=true then do let c<-cellOf env name;pure (ForInStep.yield ((name,c)::r))else pure (ForInStep.yield r):Sem (ForInStep (List (Str×Addr)))))=(pure f:Sem _)/\
   (∀y c,f.lookup y=some c->env.cells.lookup y=some c)/\(∀y c,cs.lookup y=some c->∃A,f.lookup y=some A)/\∀y∈l,y.2= .free->∃c,f.lookup y.1=some c:=by
  intro l
  induction l with
  |nil=>intro cs _ o;exact⟨cs,by simp,o,λy c e=>⟨c,e⟩,λy b=>by cases b⟩
  |cons x l ih=>
   intro cs u o;obtain⟨n,k⟩:=x
   by_cases v:k= .free
   . subst v
     obtain⟨c,ec⟩:=u (n,.free) iH rfl;have e0:cellOf env n=pure c:=by unfold cellOf;rw[ec]
     obtain⟨f,e1,g,i,j⟩:=ih ((n,c)::cs) (λy b=>u y (gJ _ b)) (λy d e=>by
      rw[oS]at e;split at e
      . rename_i z;cases e;rw[gA z];exact ec
      . exact o y d e)
     refine⟨f,?_,g,λy d e=>?_,λy b s=>?_⟩
     . rw[sT]
       simp only[beq_self_eq_true,if_true,e0,pure_bind];exact e1
     . by_cases b:y=n
       . subst b;exact i y c (by simp)
       . exact i y d (by rw[oS,oO.mpr b];exact e)
     . rcases eY.mp b with rfl|b
       . exact i n c (by simp)
       . exact j y b s
   . obtain⟨f,e1,g,i,j⟩:=ih cs (λy b=>u y (gJ _ b)) o
     have C:(k==NameKind.free)=false:=by simpa using v
     refine⟨f,?_,g,i,λy b s=>?_⟩
     . rw[sT]
       simp only[C,jr,if_false,pure_bind];exact e1
     . rcases eY.mp b with rfl|b
       . exact aW s v
       . exact j y b s
 obtain⟨f,e1,g,_,j⟩:=t a.names [] h (λy c e=>by simp at e)
 refine⟨f,?_,g,j⟩;unfold closureFor;have w:=congrArg (λm=>m >>= λr=>(pure r:Sem (List (Str×Addr)))) e1
 simp only[pure_bind]at w;rw[<-w]
noncomputable def gI (env:Env)(p:Str×NameKind):Str×NameKind:=if(p.2==NameKind.free&&env.scope.kind== .function&&env.kindOf p.1==some .cell)then(p.1,NameKind.cell)else(p.1,p.2)
theorem So(env)(p:Str×NameKind):(gI env p).1=p.1:=by unfold gI;split<;>rfl
theorem AU(env)(p:Str×NameKind):(gI env p).2=p.2∨((gI env p).2= .cell/\p.2= .free):=by
 unfold gI;split
 . rename_i h
   rw[bg,bg]at h;exact .inr ⟨rfl,gA h.1.1⟩
 . exact .inl rfl
theorem xo{env:Env}{x:Str}:∀{a:List (Str×NameKind)},(a.map (gI env)).lookup x=(a.find? λp=>x==p.1).map λp=>(gI env p).2
 | []=>rfl
 |p::r=>by
  rw[bF,i7];obtain⟨n,k⟩:=p;have e:gI env (n,k)=(n,(gI env (n,k)).2):=Prod.ext (So env (n,k)) rfl;rw[e,oS];cases hx:x==n with
  |true=>rfl
  |false=>exact xo
theorem xp{x:Str}:∀{a:List (Str×NameKind)},a.lookup x=(a.find? λp=>x==p.1).map λp=>p.2
 | []=>rfl
 |(n,k)::r=>by
  rw[oS,i7];cases hx:x==n with
  |true=>rfl
  |false=>exact xp
theorem FW{env:Env}{a:List (Str×NameKind)}{x:Str}{k:NameKind}(c:∀y∈a,y.2≠.cell)(hk:k= .cell∨k= .free)
 (h:(a.map (gI env)).lookup x=some k):a.lookup x=some .free:=by
 rw[xo]at h;rw[xp];cases e:a.find? λp=>x==p.1 with
 |none=>rw[e]at h;cases h
 |some p=>
  rw[e]at h;have b:(gI env p).2=k:=d0 h;have d:=i8 e;show some p.2=some .free;rcases AU env p with z|z
  . rcases hk with rfl|rfl
    . exact aW (z.symm.trans b) (c p d)
    . rw[<-b,z]
  . rw[z.2]
theorem FV{env:Env}{a:List (Str×NameKind)}{x:Str}(h:a.lookup x=some .free):(a.map (gI env)).lookup x=some .cell∨(a.map (gI env)).lookup x=some .free:=by
 rw[xp]at h;rw[xo];cases e:a.find? λp=>x==p.1 with
 |none=>rw[e]at h;cases h
 |some p=>
  rw[e]at h;have b:p.2= .free:=d0 h;show some (gI env p).2=some .cell∨some (gI env p).2=some .free;rcases AU env p with z|z
  . right;rw[z,b]
  . left;rw[z.1]
noncomputable def dH (X:Cx)(scope:Scope)(cl:List (Str×Addr))(C:Addr)(a:aE)(s:Shared)(H:Hp)(b:List Addr):Cx:=
 { X with N:=a,s₀:=s,H₀:=H,env:=compEnvC scope cl C X.env,outer:=X.stack,ex:=b,fn:=λ_=>false,pn:=[],xe:=λ_ _=>False }
theorem Xq{s:Shared}{scope:Scope}{cl:List (Str×Addr)}(I:Inv X pins σ H s)(d:∀b∈i,mX X pins H b)(g:∀b∈i,b<s.heap.objs.size)
 (k:scope.kind= .function) (j:s.heap.objs.size<=C) (f:∀y c,cl.lookup y=some c->X.env.cells.lookup y=some c) (m:∀y∈scope.names,y.2= .free->∃c,cl.lookup y.1=some c) (h:∀y∈scope.names,y.2≠.cell):
 (dH X scope cl C Nc s H i).Ok where
 mod:=I.ok.mod
 kind:=k
 glob:=I.ok.glob
 blt:=I.ok.blt
 above:=j
 inj:=λx y c e1 l=>I.ok.inj x y c (f x c e1) (f y c l)
 has:=λx hx=>by
  have e:scope.names.lookup x=some .free:=by
   rcases hx with hx|hx
   . exact FW h (.inl rfl) hx
   . exact FW h (.inr rfl) hx
  exact m (x,.free) (PySem.mem_of_lookup e) rfl
 qY:=λx c z=>by cases z
 hd:=I.ok.hd
 frames:=I.ok.frames
 wj:=.inl rfl
 tK:=λb a=>⟨λz=>aW (fT (g b a) j) (by rw[show b=C from z];exact km _),λx c e=>(d b a).2.2.2.2.1 x c (f x c e)⟩
 bs:=λb o e=>I.bs b o e
 jt:=cq I.ok.jt I.sz
 iQ:=λb o e a=>by
  rcases(d b a).2.2.2.1 with z|z
  . exact I.ok.iQ b o e z
  . exact aW (fT (bJ e) (cq I.ok.jt z)) (km _)
 iL:=λb a z=>by
  rcases eY.mp (I.gj b z)with e|e
  . exact(d b a).2.1 e
  . exact(d b a).2.2.1 e
 eJ:=I.stack
 nz:=I.gh
section
variable {prog:Program}{w:World}{A:Around}{R:Result->Shared->Prop}{s:Shared}
abbrev Nv:aX:=λ_ _=>False
noncomputable abbrev A0 (a:aV) (env:Env):Sem Bool:=forIn a true λc r=>if r=true then do let b<-isTrue c env (eval c env);pure (ForInStep.yield b)else pure (ForInStep.yield r)
theorem SO{env:Env}(I:Nat->Shared->Prop)
 (u:∀n s,I n s->wpAny (model prog w) A (pyNext it) (λr c=>(r=none/\R (.ok .next) c)∨∃v,r=some v/\wpAny (model prog w) A (letOwnedTupleGo target it v) (λ_ d=>wpAny (model prog w) A (assign target env v) (λ_ g=>
  wpAny (model prog w) A (A0 ifs env) (λok e=>
   if ok=true then wpAny (model prog w) A (eval elt env) (λx i=>
    wpAny (model prog w) A (call (.builtin "list.append") [acc,x]) (λ_ j=>∃m,m<n/\I m j) Nv i) Nv e
   else ∃m,m<n/\I m e) Nv g) Nv d) Nv c) Nv s)
 (n) (h:I n s):
 codeAny (model prog w) A (.compLoop (.ListComp elt [⟨target,iter,ifs,0⟩] scope pos) 0 it acc env) R s:=by
 refine codeAny_loop rfl I (λn s y=>?_) n h
 show wpAny _ A ((compTurn (.ListComp elt [⟨target,iter,ifs,0⟩] scope pos) 0 it acc env).onRaise (λx=>do noteFrame x env;theTreesLotGoes x)) _ _ s
 refine wpAny_noted ?_;rw[compTurn_list];refine ah (wpAny_standAt (ah (ir (u n s y) (λr c a=>?_) λ_ _ b=>b.elim)))
 rcases a with⟨rfl,a⟩|⟨v,rfl,a⟩
 . exact aD a
 . refine ah (ir a (λ_ d k=>?_) λ_ _ b=>b.elim)
   refine ah (ir k (λ_ g l=>ah (ir l (λok e f=>?_) λ_ _ b=>b.elim)) λ_ _ b=>b.elim)
   cases ok with
   |false=>exact aD ⟨rfl,f⟩
   |true=>
    exact ah (ah (ir f (λx i o=>ah (ir o (λ_ j t=>aD (aD ⟨rfl,t⟩)) λ_ _ b=>b.elim)) λ_ _ b=>b.elim))
end
def qH(X:Cx)(b:aV)(t:ee):Prop:=
 ∀(a:aJ) (s:Shared) (σ:L2.St) (H:Hp) (Q:Bool->Hp->Prop),Inv X a σ H s->Ci X.K t σ H Q->wpAny (model X.prog X.w) X.A (A0 b X.env) (TP X a σ Q) X.xe s
def OM:ee:=λ_ M Q=>Q true M
theorem NJ:qH X [] OM:=by
 intro a s e H f I h;obtain⟨g,M,Q,hs,d,c,b⟩:=h;exact aD ⟨H,I,b true M H c (.refl H) d⟩
theorem NI{t:ee}(h:fb X c t):qH X [c] t:=by
 intro a s b H d I e;have:=h a s b H d I e;unfold A0;rw[sT];simp only[if_true,bind_assoc,pure_bind];refine ah (aB this λb f q=>?_)
 simp only[List.forIn_nil];exact aD q
def mQ(md:Bool)(a:LR)(M:RM)(Q:ak):Prop:=match md with
 |true=>∀p,M p=none->Q (.ref p) (put M p (.lst a))
 |false=>Q (.ls a) M
noncomputable def gr (bd:RV->Option (LR))(md:Bool)(b:RM->Prop)(un:RM->RM)(e:ee)(d:ar)(a:List (Option RV)):LR->LR->RM->ak->Prop
 | [],acc,M,Q=>b M/\mQ md acc (un M) Q
 |x::xs,acc,M,Q=>b M/\match bd x with
  |some bs=>e (bs.map some++a) M λc M1=>(c=true->d (bs.map some++a) M1 λv f=>gr bd md b un e d a xs (acc++ [v]) f Q)/\(c=false->gr bd md b un e d a xs acc M1 Q)
  |none=>False
noncomputable def rR (bd:RV->Option (LR))(md:Bool)(ti:g8)(cap:List Nat)(tt:ee)(te:ar):ar:=λσ M Q=>ti σ M λxs ok un M1=>xs.length<sizeLine/\gr bd md ok un tt te (cap.map λi=>(σ[i]?).join) xs [] M1 Q
section
variable {X:Cx}
theorem SQ{nm:aE}(caps:List (Nat×Str)){osc:Scope}{oN:aE}
 (hc:X.calm=true) (hi:iJ X tg iter ti)
 (hif:∀cl C s H fp,qH (dH X scope cl C (nm++caps.map Prod.snd) s H fp) ifs tt)
 (hel:∀cl C s H fp,aj (dH X scope cl C (nm++caps.map Prod.snd) s H fp) elt te)
 (hX:X.env.scope=osc) (hN:X.N=oN)
 (fU:∀p∈caps,oN[p.1]? =some p.2/\scope.names.lookup p.2=some .free/\(osc.names.lookup p.2=some .cell∨osc.names.lookup p.2=some .free))
 (fu:∀y∈scope.names,y.2= .free->(osc.names.lookup y.1=some .cell∨osc.names.lookup y.1=some .free))
 (bH:∀y∈scope.names,y.2≠.cell) (bM:scope.kind= .function) (cA:∀y∈scope.names,y.2= .local->scope.names.lookup y.1=some .local)
 (hb:∀r bs,bd r=some bs->bs.length=nm.length)
 (hpg:∀cl C s2 H2 fp (pins':aJ) (s6:Shared) (vs0 cv:List (Option V)) (H6:Hp) (rv:RV) (xv:V) (u:Value) (bs:LR) (Q1:Unit->Shared->Prop),vs0.length=nm.length->Inv (dH X scope cl C (nm++caps.map Prod.snd) s2 H2 fp) pins' (vs0++cv) H6 s6->RelV xv u->Rep X.K H6 rv xv->bd rv=some bs->
  (∀vs s7,aa X.K H6 bs vs->Inv (dH X scope cl C (nm++caps.map Prod.snd) s2 H2 fp) pins' (vs.map some++cv) H6 s7->Q1 () s7)->wpAny (model X.prog X.w) X.A (assign tg (compEnvC scope cl C X.env) u) Q1 Nv s6)
 (hs:∀v,foldedSetIterable iter X.env v=pure v) {s:Shared} (I:Inv X pins σ0 H s) (hw:up X.K (rR bd md ti (caps.map Prod.fst) tt te) σ0 H Q0)
 (fin:∀(D C:Addr) (s5:Shared) (m5:bC) (H5:Hp),s5.heap.Ns C m5->(∀h',Heap.SameBut C s5.heap h'->Inv X pins σ0 H5 { s5 with heap:=h' })->Q0 (.ref D) H5->H5 C=none->C≠X.env.locals->X.s₀.heap.objs.size<=C->(∀y c,X.env.cells.lookup y=some c->c≠C)->(∀p∈X.pn++pins,p.1≠C)->compPost (model X.prog X.w) X.A X.xe use PP (.ref D) C (.ok .next) s5):
 wpAny (model X.prog X.w) X.A (comprehension (.ListComp elt [⟨tg,iter,ifs,0⟩] scope pos) scope X.env pos' (newList []) false (eval iter X.env) use) PP X.xe s:=by
 subst hX;subst hN;obtain⟨σ,M,Q,hst,hv,ht,hk⟩:=hw;obtain⟨cl,hclos,hcl1,hcl2⟩:=RJ scope λy hy hf=>I.ok.has y.1 (fu y hy hf)
 refine wpAny_comprehension_free (use:=use) (cl:=cl) rfl hs hclos bM cA ?_;refine ir (hi pins s σ0 H (λJ H1=>∃xs ok un M1,Ext H H1/\View X.K H1 M1/\iZ X.H₀ H X.K J xs ok un H1/\xs.length<sizeLine/\gr bd md ok un tt te ((caps.map Prod.fst).map λi=>(σ[i]?).join) xs [] M1 Q) I ⟨σ,M,_,hst,hv,ht,λxs ok un M' J H' q e w hJ=>⟨xs,ok,un,M',e,w,hJ,q.1,q.2⟩⟩)
  (λv s1 h1=>ir h1 (λitv s2 h2=>?_) λ_ _ e=>e) λ_ _ e=>e
 obtain⟨it,fp,tn,J,H2,rfl,I2,T,st2,f2,xs,ok,un,M1,e2,w2,hJ,hz,hq⟩:=h2;have pQ:∀b∈fp,b<s2.heap.objs.size:=λb hb=>by obtain⟨o,e,_⟩:=T.obj _ _ st2 b hb;exact bJ e
 refine i9 (wpAny_newFunctionEnv bH (by intro y hy;simp at hy) (λh₁ hns₁ hsb₁=>?_) bM)
 dsimp only at hns₁ hsb₁ ⊢;generalize hH2:s2.heap.push { cls:=.type "list",dict:=none,data:=.seq ([]:az).toArray }=hp2 at hns₁ hsb₁ ⊢;have hCs:hp2.objs.size=s2.heap.objs.size+1:=by rw[<-hH2,Heap.size_push]
 have hDC:s2.heap.objs.size≠hp2.objs.size:=by rw[hCs];exact cX (sS _)
 have hCle:s2.heap.objs.size<=hp2.objs.size:=by rw[hCs];exact Nat.le_succ _
 have old:∀b o,s2.heap.get? b=some o->h₁.get? b=some o:=λb o e=>hsb₁.extBut b o (cX (by rw[hCs];exact kg (bJ e))) (bK _ (hH2 ▸ bK _ e))
 have hacc:h₁.get? s2.heap.objs.size=some { cls:=.type "list",data:=.seq ([]:az).toArray }:=hsb₁.extBut _ _ hDC (bK _ (hH2 ▸ dJ _ rfl));generalize hD:s2.heap.objs.size=D at*;generalize hCg:hp2.objs.size=C at*;have hDfp:∀b∈fp,b≠D:=λb hb=>cX (pQ b hb)
 have okB:(dH X scope cl C (nm++caps.map Prod.snd) s2 H2 fp).Ok:=Xq I2 f2 (by rw[hD];exact pQ) bM (by rw[hD];exact hCle) hcl1 hcl2 bH
 have fr:∀b,D<=b->H2 b=none:=λb hb=>I2.av.fresh (by rw[hD];exact hb)
 have capsV:∃cv:List (Option V),cv.length=caps.length/\(∀(j:Nat) v,cv[j]? =some (some v)->∃p,caps[j]? =some p/\σ0[p.1]? =some (some v))/\
  ∀(j:Nat) r,((caps.map Prod.fst).map λi=>(σ[i]?).join)[j]? =some (some r)->∃v,cv[j]? =some (some v)/\Rep X.K H2 r v:=by
  refine⟨caps.map λp=>(σ0[p.1]?).join,by simp,λj v e=>?_,λj r e=>?_⟩
  . rw[gm]at e
    cases q:caps[j]? with
    |none=>rw[q]at e;cases e
    |some p=>
     rw[q]at e;have e':(σ0[p.1]?).join=some v:=d0 e;refine⟨p,rfl,?_⟩;cases z:σ0[p.1]? with
     |none=>rw[z]at e';cases e'
     |some o=>rw[z]at e';have:o=some v:=e';rw[this]
  . rw[gm,gm]at e
    cases q:caps[j]? with
    |none=>rw[q]at e;cases e
    |some p=>
     rw[q]at e;have e':(σ[p.1]?).join=some r:=d0 e;have e'':σ[p.1]? =some (some r):=by
      cases z:σ[p.1]? with
      |none=>rw[z]at e';cases e'
      |some o=>rw[z]at e';have:o=some r:=e';rw[this]
     obtain⟨v,h1,h2⟩:=hst.2 p.1 r e'';refine⟨v,?_,Rep.ext e2 r v h2⟩;rw[gm,q];show some ((σ0[p.1]?).join)=_;rw[h1];rfl
 obtain⟨cv,cvl,cv1,cv2⟩:=capsV;have I3:Inv (dH X scope cl C (nm++caps.map Prod.snd) s2 H2 fp) [(D,{ cls:=.type "list",data:=.seq ([]:az).toArray })] (List.replicate nm.length none++cv) H2 { s2 with heap:=h₁,toks:=s2.toks+([]:List (Str×Value)).length }:=by
  refine⟨okB,rfl,I2.bare,Un.kept old,⟨_,hns₁,λi y v a b c=>?_⟩,λy c e=>?_,fr C hCle,λy c e=>I2.bT y c (hcl1 y c e),λp hp=>?_,I2.av.kept old,?_⟩
  . by_cases hi0:i<nm.length
    . rw[qQ (by rw[zD];exact hi0),List.getElem?_replicate]at b
      split at b<;>cases b
    . obtain⟨j,rfl⟩:=Nat.exists_eq_add_of_le (Nat.le_of_not_lt hi0)
      rw[List.getElem?_append_right (by rw[zD];omega),zD,zC]at b
      have a:(caps.map Prod.snd)[j]? =some y:=by
       have a':(nm++caps.map Prod.snd)[nm.length+j]? =some y:=a;rw[List.getElem?_append_right (by omega),zC]at a';exact a'
      obtain⟨p,q1,q2⟩:=cv1 j v b;have hy:p.2=y:=by
       have a':(caps.map Prod.snd)[j]? =some y:=a;rw[gm,q1]at a';exact d0 a'
      subst hy;obtain⟨z1,z2,z3⟩:=fU p (kf q1);obtain⟨m,hn,hl⟩:=I2.loc;have Cj:tj X.env.scope p.2:=by rcases z3 with z|z;exact .inr (.inl z);exact .inr (.inr z)
      obtain⟨u,ru,lk⟩:=hl p.1 p.2 v z1 q2 Cj;refine⟨u,ru,.inr ⟨FV z2,?_⟩⟩;obtain⟨c,ec⟩:=hcl2 (p.2,.free) (PySem.mem_of_lookup z2) rfl;have ec':=hcl1 p.2 c ec;rcases lk with⟨k,_⟩|⟨_,c',e',ic⟩
      . have k':X.env.scope.names.lookup p.2=some .local:=k
        rcases z3 with z|z<;>(rw[z]at k';cases k')
      . rw[ec']at e';cases e'
        obtain⟨o,ho,hd⟩:=ic;exact⟨c,ec,o,old c o ho,hd⟩
  . obtain⟨v,o,ho,hd⟩:=I2.cell y c (hcl1 y c e)
    exact⟨v,o,old c o ho,hd⟩
  . have hp':p=(D,{ cls:=.type "list",data:=.seq ([]:az).toArray }):=by simpa[dH]using hp
    subst hp';refine⟨hacc,fr D (aU _),hDC,λz=>?_,λv=>by simp⟩
    have:=I2.gh D z;rcases eY.mp (I2.gj D z)with e|e
    . exact aW I2.lt (by rw[<-e,hD];exact km _)
    . exact I2.tX (by rw[hD];exact aU _) e
  . show(List.replicate nm.length none++cv).length=(nm++caps.map Prod.snd).length
    simp[cvl]
 have W:∀s3:Shared,s3= { s2 with heap:=h₁,toks:=s2.toks+([]:List (Str×Value)).length }->codeAny (model X.prog X.w) X.A (.compLoop (.ListComp elt [⟨tg,iter,ifs,0⟩] scope pos) 0 (.ref it) (.ref D) (compEnvC scope cl C X.env))
  (compPost (model X.prog X.w) X.A X.xe use PP (.ref D) C) s3:=by
  rintro s3 rfl;refine SO (λn s'=>∃(i:Nat) (v0:List (Option V)) (H':Hp) (M':RM) (accR:LR) (accV:LV) (ab:az) (k:Nat),n=xs.length-i/\v0.length=nm.length/\i<=xs.length/\accR.length<=i/\
   Inv (dH X scope cl C (nm++caps.map Prod.snd) s2 H2 fp) [(D,{ cls:=.type "list",data:=.seq ab.toArray k })] (v0++cv) H' s'/\View X.K H' M'/\Ext H2 H'/\aa X.K H' accR accV/\Vals accV ab/\tn i s'.heap/\(∀b∈fp,H' b=none)/\
   gr bd md ok un tt te ((caps.map Prod.fst).map λi=>(σ[i]?).join) (xs.drop i) accR M' Q) ?_ xs.length ⟨0,List.replicate nm.length none,H2,M1,[],[],[],0,rfl,by simp,qT _,aU _,I3,w2,.refl _,aa.nil,.nil,T.keep _ _ _ st2 λb _ o e=>old b o e,λb hb=>(f2 b hb).1,by simpa using hq⟩
  rintro n s' ⟨i,v0,H',M',accR,accV,ab,k,rfl,hv0,hi,hal,I4,w4,e4,ra,rl,st4,f4,hq4⟩;have fpB:∀(pins':aJ) (H'':Hp),(∀b∈fp,H'' b=none)->(∀p∈pins',∀b∈fp,p.1≠b)->∀b∈fp,mX (dH X scope cl C (nm++caps.map Prod.snd) s2 H2 fp) pins' H'' b:=λpins' H'' h1 h2 b hb=>
   ⟨h1 b hb,(okB.tK b hb).1,okB.iL b hb,.inl hb,(okB.tK b hb).2,λp hp=>h2 p (by simpa[dH]using hp) b hb⟩
  have pD:∀(o:Obj),∀p∈[(D,o)],∀b∈fp,p.1≠b:=λo p hp b hb=>by
   have:p=(D,o):=by simpa using hp
   subst this;exact(hDfp b hb).symm
  by_cases hlt:i<xs.length
  . have ed:xs.drop i=xs[i]::xs.drop (i+1):=by simp
    rw[ed]at hq4;obtain⟨av,hq4⟩:=hq4;obtain⟨hgo,hy⟩:=hJ.turn i H' M' e4 w4 av xs[i] (by simp)
    refine aB (T.item (dH X scope cl C (nm++caps.map Prod.snd) s2 H2 fp) rfl rfl rfl hc i _ s' _ H' Nv I4 (fpB _ _ f4 (pD _)) st4 hgo) λr s5 ⟨u,hr,h5⟩=>.inr ⟨u,hr,?_⟩
    refine aB h5 λ_ s6 zz=>?_;obtain⟨xv,H6,I6,r6,y6,st6,f6⟩:=zz
    obtain⟨e6,w6,rr6⟩:=hy xv H6 y6;have I6':=I6.pinned (fpB _ _ f6 (pD _)) (T.obj _ _ st6);obtain⟨bs,ebs,hq4⟩:∃bs,bd xs[i]=some bs/\tt (bs.map some++(caps.map Prod.fst).map λi=>(σ[i]?).join) M' λc M1=>(c=true->te (bs.map some++(caps.map Prod.fst).map λi=>(σ[i]?).join) M1 λv M2=>gr bd md ok un tt te ((caps.map Prod.fst).map λi=>(σ[i]?).join) (xs.drop (i+1)) (accR++ [v]) M2 Q)/\(c=false->gr bd md ok un tt te ((caps.map Prod.fst).map λi=>(σ[i]?).join) (xs.drop (i+1)) accR M1 Q):=by
     split at hq4
     . rename_i bs e;exact⟨bs,e,hq4⟩
     . exact hq4.elim
    refine hpg cl C s2 H2 fp _ s6 v0 cv H6 xs[i] xv u bs _ hv0 I6' r6 rr6 ebs λvs6 s7 rp6 I7=>?_
    have lv6:vs6.length=nm.length:=by rw[<-rp6.length];exact hb _ _ ebs
    have base:∀{Hx:Hp},Ext H6 Hx->aR X.K Hx (bs.map some++(caps.map Prod.fst).map λi=>(σ[i]?).join) (vs6.map some++cv):=λ{Hx} ex=>by
     have lb:=rp6.length;refine⟨by simp[cvl,lb],λj r e=>?_⟩
     by_cases hj:j<bs.length
     . rw[qQ (by simpa using hj),gm]at e
       cases q:bs[j]? with
       |none=>rw[q]at e;cases e
       |some r'=>
        rw[q]at e;have:r'=r:=d0 (d0 e);subst this;obtain⟨v,q1,q2⟩:=rp6.get q;exact⟨v,by rw[qQ (by rw[bo];omega),gm,q1];rfl,Rep.ext ex _ _ q2⟩
     . obtain⟨k,rfl⟩:=Nat.exists_eq_add_of_le (Nat.le_of_not_lt hj)
       rw[List.getElem?_append_right (by simp),bo,zC]at e
       obtain⟨v,q1,q2⟩:=cv2 k r e;exact⟨v,by rw[List.getElem?_append_right (by rw[bo];omega),bo,<-lb,zC];exact q1,Rep.ext (e4.trans (e6.trans ex)) r v q2⟩
    have next:∀(M8:RM) (H8:Hp) (s8:Shared) (accR':LR) (accV':LV) (its':az) (k':Nat),accR'.length<=i+1->
     Inv (dH X scope cl C (nm++caps.map Prod.snd) s2 H2 fp) ([(D,{ cls:=.type "list",data:=.seq its'.toArray k' })]++nQ fp s6.heap) (vs6.map some++cv) H8 s8->View X.K H8 M8->Ext H6 H8->aa X.K H8 accR' accV'->Vals accV' its'->
     gr bd md ok un tt te ((caps.map Prod.fst).map λi=>(σ[i]?).join) (xs.drop (i+1)) accR' M8 Q->∃m,m<xs.length-i/\∃(i:Nat) (v0:List (Option V)) (H':Hp) (M':RM) (accR:LR) (accV:LV) (ab:az) (k:Nat),m=xs.length-i/\v0.length=nm.length/\i<=xs.length/\accR.length<=i/\
     Inv (dH X scope cl C (nm++caps.map Prod.snd) s2 H2 fp) [(D,{ cls:=.type "list",data:=.seq ab.toArray k })] (v0++cv) H' s8/\View X.K H' M'/\Ext H2 H'/\aa X.K H' accR accV/\Vals accV ab/\tn i s8.heap/\(∀b∈fp,H' b=none)/\
     gr bd md ok un tt te ((caps.map Prod.fst).map λi=>(σ[i]?).join) (xs.drop i) accR M' Q:=by
     intro M8 H8 s8 accR' accV' its' k' hl' I8 w8 e8 ra' rl' hq8;have keep8:∀b∈fp,∀o,s6.heap.get? b=some o->s8.heap.get? b=some o/\H8 b=none:=λb hb o e=>by
      have:=I8.pin (b,o) (gV _ (gV _ (As hb e)));exact⟨this.1,this.2.1⟩
     refine⟨xs.length-(i+1),by omega,i+1,vs6.map some,H8,M8,accR',accV',its',k',rfl,by rw[bo];exact lv6,hlt,hl',I8.dW,w8,e4.trans (e6.trans e8),ra',rl',T.keep _ _ _ st6 λb hb o e=>(keep8 b hb o e).1,λb hb=>?_,hq8⟩
     obtain⟨o,e,_⟩:=T.obj _ _ st6 b hb;exact(keep8 b hb o e).2
    refine aB (hif cl C s2 H2 fp _ s7 _ H6 (λoc H8=>∃M8,View X.K H8 M8/\Ext H6 H8/\(oc=true->te (bs.map some++(caps.map Prod.fst).map λi=>(σ[i]?).join) M8 λv M2=>gr bd md ok un tt te ((caps.map Prod.fst).map λi=>(σ[i]?).join) (xs.drop (i+1)) (accR++ [v]) M2 Q)/\
     (oc=false->gr bd md ok un tt te ((caps.map Prod.fst).map λi=>(σ[i]?).join) (xs.drop (i+1)) accR M8 Q)) I7 ⟨_,M',_,base (.refl _),w6 M' w4,hq4,λb M8 H8 q e w=>⟨M8,w,e,q.1,q.2⟩⟩) λoc s8 ⟨H8,I8,M8,w8,e8,qt,qf⟩=>?_
    cases oc with
    |false=>
     exact next M8 H8 s8 accR accV ab k (by omega) I8 w8 e8 (aa.ext (e6.trans e8) _ _ ra) rl (qf rfl)
    |true=>
     refine aB (hel cl C s2 H2 fp _ s8 _ H8 (λv H9=>∃rv M9,View X.K H9 M9/\Ext H8 H9/\Rep X.K H9 rv v/\gr bd md ok un tt te ((caps.map Prod.fst).map λi=>(σ[i]?).join) (xs.drop (i+1)) (accR++ [rv]) M9 Q) I8 ⟨_,M8,_,base e8,w8,qt rfl,λrv M9 v H9 q e w r=>⟨rv,M9,w,e,r,q⟩⟩) λy s9 zz=>?_;obtain⟨yv,H9,I9,r9,rv,M9,w9,e9,rr9,hq9⟩:=zz
     have pD9:=I9.pin (D,{ cls:=.type "list",data:=.seq ab.toArray k }) (gV _ (oM _ iH));have hlen:ab.length<=i:=by rw[<-rl.length,<-ra.length];exact hal
     refine call_meets F.slot_list_append ⟨_,pD9.1,rfl⟩ F.entry_list_append (F.args_list_append_2 _ _) (PySem.list_append D ab.toArray k y (by rw[fx];omega)) ⟨pD9.1,?_⟩
     have q:=PySem.IsL.update pD9.1 (λx_1=>x_1.push y)
     have hpush:ab.toArray.push y=(ab++ [y]).toArray:=by simp
     rw[hpush]at q;obtain⟨k',q⟩:∃k',(s9.heap.update D (Obj.mapSeq λx_1=>x_1.push y)).get? D=some { cls:=.type "list",data:=.seq (ab++ [y]).toArray k' }:=⟨_,q⟩
     have I10:Inv (dH X scope cl C (nm++caps.map Prod.snd) s2 H2 fp) (nQ fp s6.heap) (vs6.map some++cv) H9 { s9 with heap:=s9.heap.update D (Obj.mapSeq λx_1=>x_1.push y),toks:=s9.toks }:=by
      refine Inv.turned (it:=D) (I9.fw λp hp=>I9.pin p (gV _ (gV _ hp))) (λb o hb e=>(Heap.get?_update_other _ _ (aY hb)).trans e) pD9.2.1 pD9.2.2.1 (.inr (by show s2.heap.objs.size<=D;rw[hD];exact aU _)) (λz c e=>?_) λp hp=>?_
      . obtain⟨v,o,ho,hd⟩:=I2.cell z c (hcl1 z c e)
        exact cX (by have:=bJ ho;rw[hD]at this;exact this)
      . have hp':p∈nQ fp s6.heap:=by simpa[dH]using hp
        exact hDfp p.1 (GP hp').1
     have I11:Inv (dH X scope cl C (nm++caps.map Prod.snd) s2 H2 fp) ([(D,{ cls:=.type "list",data:=.seq (ab++ [y]).toArray k' })]++nQ fp s6.heap) (vs6.map some++cv) H9 { s9 with heap:=s9.heap.update D (Obj.mapSeq λx_1=>x_1.push y),toks:=s9.toks }:=by
      refine I10.fw λp hp=>?_
      rcases dZ.mp hp with hp|hp
      . have:p=(D,{ cls:=.type "list",data:=.seq (ab++ [y]).toArray k' }):=by simpa using hp
        subst this;exact⟨q,pD9.2.1,pD9.2.2.1,pD9.2.2.2.1,λv=>by simp⟩
      . exact I10.pin p (gV _ hp)
     exact next M9 H9 _ (accR++ [rv]) (accV++ [yv]) (ab++ [y]) k' (by rw[eF,List.length_singleton];omega) I11 w9 (e8.trans e9) ((aa.ext (e6.trans (e8.trans e9)) _ _ ra).append (aa.cons rr9 aa.nil)) (rl.append (.cons r9 .nil)) hq9
  . have ei:i=xs.length:=by omega
    subst ei;refine aB (T.done (dH X scope cl C (nm++caps.map Prod.snd) s2 H2 fp) rfl rfl rfl hc _ _ s' _ H' Nv I4 (fpB _ _ f4 (pD _)) st4 (hJ.stop _ H' M' e4 w4 (by rw[List.drop_length]at hq4;exact hq4.1) (aU _))) λr s5 ⟨hr,I5⟩=>.inl ⟨hr,?_⟩
    rw[List.drop_length]at hq4;obtain⟨hok4,hq4⟩:=hq4;obtain⟨m5,hn5,_⟩:=I5.loc;have pD5:=I5.pin (D,{ cls:=.type "list",data:=.seq ab.toArray k }) (gV _ iH);have hC5:H' C=none:=I5.free;have lC:X.env.locals<C:=fT I2.lt (by rw[hD];exact hCle)
    obtain⟨HD,oHD,wHD,qHD⟩:∃HD:HO,(∀h':Heap,h'.get? D=some { cls:=.type "list",data:=.seq ab.toArray k }->accV.length<=sizeLine->aG X.prog X.w (upd H' D HD) h' D HD)/\(∀o u,HD= .bj o u->jO u=false)/\∃H5,fz X.H₀ (upd H' D HD) H5/\Q0 (.ref D) H5/\H5 C=none:=by
     have keyD:∀(HD:HO),∃H5,fz X.H₀ (upd H' D HD) H5/\H5 C=none/\∃H4,bu H' H4/\Ext H H4/\View X.K H4 (un M')/\H4 D=none/\H5=upd H4 D HD:=λHD=>by
      obtain⟨H4,t4,e4',x4',v4⟩:=hJ.cB H' M' e4 w4 hok4;rcases t4 with h4|⟨d,ob,u,h1,du,h0,rfl⟩
      . rw[h4]at v4 x4'
        exact⟨_,.inl rfl,by rw[au (aY hDC)];exact hC5,H',(Ext.refl _).w,x4',v4,pD5.2.1,rfl⟩
      . have nd:d≠D:=λz=>by rw[z,pD5.2.1]at h1;cases h1
        have nc:d≠C:=λz=>by rw[z,hC5]at h1;cases h1
        have h1':upd H' D HD d=some (.bj ob u):=by rw[au nd];exact h1
        have eq:upd (upd H' D HD) d u=upd (upd H' d u) D HD:=by
         funext b;unfold upd
         by_cases b1:b=d
         . subst b1;rw[ai rfl,ae nd,ai rfl]
         . rw[ae b1]
           by_cases b2:b=D
           . rw[ai b2,ai b2]
           . rw[ae b2,ae b2,ae b1]
        exact⟨_,.inr ⟨d,ob,u,h1',du,h0,rfl⟩,by rw[au nc.symm,au (aY hDC)];exact hC5,_,e4',x4',v4,by rw[au nd.symm];exact pD5.2.1,eq⟩
     cases md with
     |false=>
      obtain⟨H5,t5,c5,H4,x4,y4,v4,n4,rfl⟩:=keyD (.bj { cls:=.type "list",data:=.seq ab.toArray k } (.lst accV));exact⟨.bj { cls:=.type "list",data:=.seq ab.toArray k } (.lst accV),λh' e z=>⟨e,z,ab,k,rl,e⟩,λo u z=>by cases z;rfl,_,t5,hk _ _ _ _ hq4 (y4.trans (Ext.new n4)) (v4.new n4) (j4 n4 (aa.ba x4 _ _ ra)),c5⟩
     |true=>
      obtain⟨H5,t5,c5,H4,x4,y4,v4,n4,rfl⟩:=keyD (.lst accV);exact⟨.lst accV,λh' e z=>⟨z,ab,k,rl,e⟩,λo u z=>(by cases z),_,t5,hk _ _ _ _ (hq4 D (v4.free n4)) (y4.trans (Ext.new n4)) (v4.cj n4 ⟨accV,rfl,aa.ba (x4.trans (Ext.new n4).w) _ _ ra⟩) (by simp only[Rep]),c5⟩
    obtain⟨H5,t5,q5,c5⟩:=qHD;refine fin D C s5 m5 H5 hn5 (λh' sb=>t5.inv ?_) q5 c5 (Nat.ne_of_gt lC) (cq I2.ok.above (oK lC)) (λy c e=>?_) λp hp=>?_
    rotate_left
    . obtain⟨v,o,ho,_⟩:=I2.cell y c e
      exact cX (fT (bJ ho) (by rw[hD];exact hCle))
    . exact cX (fT (bJ (I2.pin p hp).1) (by rw[hD];exact hCle))
    have hDh:h'.get? D=some { cls:=.type "list",data:=.seq ab.toArray k }:=sb.extBut _ _ hDC pD5.1;have hz':accV.length<=sizeLine:=by rw[<-ra.length];omega
    have hok5:c9 X.prog X.w (upd H' D HD) h':=λb u q=>by
     by_cases hb:b=D
     . subst hb;rw[bO]at q;cases q
       exact oHD h' hDh hz'
     . rw[au hb]at q
       refine(I5.av b u q).fj (λc v hcb e=>sb.extBut c v ?_ e) (λc e=>?_) λc ys e=>?_
       . rcases hcb with rfl|e'
         . exact fh q hC5
         . exact fh e' hC5
       . rw[au (fh e pD5.2.1)];exact e
       . rw[au (fh e pD5.2.1)];exact e
    have un5:Un (iM X.stack) fp H2 (upd H' D HD) s2.heap h':=by
     have B:Un (iM X.stack) fp H2 H' s2.heap s5.heap:=I5.base;have nC:∀b o,s2.heap.get? b=some o->b≠C:=λb o e=>cX (fT (bJ e) (by rw[hD];exact hCle))
     have nD:∀b o,s2.heap.get? b=some o->b≠D:=λb o e=>cX (by have:=bJ e;rw[hD]at this;exact this)
     refine⟨λb o a1 a2 a3 a4=>sb.extBut b o (nC b o a1) (B.keep b o a1 a2 a3 a4),λb o a1 a2 a3 a4=>?_,λb o a1 a2 a4=>?_,λb o a1 a4=>?_,λb ys a=>?_,λb o u a=>?_,λb ps a=>?_⟩
     . obtain⟨sl,e⟩:=B.slot b o a1 a2 a3 a4
       exact⟨sl,sb.extBut b _ (nC b o a1) e⟩
     . rw[au (nD b o a1)];exact B.free b o a1 a2 a4
     . obtain⟨o',e⟩:=B.there b o a1 a4
       exact⟨o',sb.extBut b o' (nC b o a1) e⟩
     . have e:=B.bq b ys a;rw[au (fh e pD5.2.1)];exact e
     . have e:=B.aK b o u a;rw[au (fh e pD5.2.1)];exact e
     . obtain⟨more,e⟩:=B.fm b ps a;exact⟨more,by rw[au (fh e pD5.2.1)];exact e⟩
    have I6:Inv X pins σ0 (upd H' D HD) { s5 with heap:=h' }:=I2.tq (ch:=fp) I5.os un5 hok5 I5.bare λb hb=>⟨(f2 b hb).2.2.2.1,(f2 b hb).2.1,(f2 b hb).2.2.2.2.1,(f2 b hb).2.2.2.2.2⟩
    exact I6
 exact codeAny_compStart_list (W _ rfl) (T.self X.A 0 _ _ _ (T.keep _ _ _ st2 λb _ o e=>old b o e) (W _ rfl))
noncomputable def nV:aV->Option (aE)
 | []=>some []
 | .Name x _::r=>(nV r).map (x:: ·)
 |_::_=>none
def Of(n:Nat):RV->Option (LR)
 | .tup xs=>if xs.length=n then some xs else none
 |_=>none
def Og(r:RV):Option (LR):=some [r]
theorem Ic{es:aV}{xs:aE}:∀(es:aV) (xs:aE) (j:Nat),nV es=some xs->X.N.Nodup->(∀i x,xs[i]? =some x->X.N[j+i]? =some x)->(∀x∈xs,X.env.scope.names.lookup x=some .local)->oU X es (mU (List.range' j xs.length))/\(assignEach es X.env).length=xs.length/\(assignEach es X.env).findIdx? (·.1)=none
 | [],xs,j,h,_,_,_=>by cases h;exact⟨IM,rfl,rfl⟩
 |e::r,xs,j,h,jd,hN,hl=>by
  cases e<;>first|(cases h;done)|skip
  rename_i x p;cases e:nV r with
  |none=>simp only[nV,e]at h;cases h
  |some ys=>
   simp only[nV,e]at h;cases h;obtain⟨a,b,c⟩:=Ic (es:=es) (xs:=xs) r ys (j+1) e jd (λi y d=>by have:=hN (i+1) y (by simpa using d);rw[<-this];congr 1;omega) λy d=>hl y (gJ _ d)
   have hx:=hl x iH;have f:(assignEach (.Name x p::r) X.env)=(false,assign (.Name x p) X.env)::assignEach r X.env:=rfl;refine⟨?_,by rw[f,cY,b];rfl,?_⟩
   . rw[cY,List.range'_succ]
     exact HV (yr (i:=j) jd (by simpa using hN 0 x rfl) (.inl hx) (.inr hx)) a
   . rw[f,List.findIdx?_cons,c];rfl
theorem Jh:∀(vs:LV) (pre vs0 cv:List (Option V)),vs0.length=vs.length->Q (pre++(vs.map some++cv)) H->mU (List.range' pre.length vs.length) vs (pre++(vs0++cv)) H Q
 | [],pre,vs0,cv,h,q=>by
  have:vs0= []:=List.eq_nil_of_length_eq_zero h;subst this;exact⟨rfl,q⟩
 |v::vs,pre,vs0,cv,h,q=>by
  cases vs0 with
  |nil=>cases h
  |cons o r=>
   rw[cY,List.range'_succ];refine⟨v,vs,rfl,?_⟩;show mU _ vs ((pre++(o::r++cv)).set pre.length (some v)) H Q;have e:(pre++(o::r++cv)).set pre.length (some v)=(pre++ [some v])++(r++cv):=by simp
   rw[e];have:=Jh (H:=H) (Q:=Q) vs (pre++ [some v]) r cv (by simpa using h) (by simpa using q)
   simpa using this
def vQ(tup:Bool)(a:Expr)(nm:aE):Prop:=match tup,a with
 |false,.Name x _=>nm= [x]
 |true,.Tuple es _ _=>nV es=some nm
 |_,_=>False
def fW(tup:Bool)(n:Nat):RV->Option (LR):=match tup with
 |true=>Of n
 |false=>Og
theorem Ih{tup md:Bool}(caps:List (Nat×Str)){osc:Scope}{oN:aE}(htg:vQ tup tg nm)
 (hc:X.calm=true) (hi:iJ X tg iter ti)
 (hif:∀cl C s H fp,qH (dH X scope cl C (nm++caps.map Prod.snd) s H fp) ifs tt)
 (hel:∀cl C s H fp,aj (dH X scope cl C (nm++caps.map Prod.snd) s H fp) elt te)
 (hX:X.env.scope=osc) (hN:X.N=oN)
 (fU:∀p∈caps,oN[p.1]? =some p.2/\scope.names.lookup p.2=some .free/\(osc.names.lookup p.2=some .cell∨osc.names.lookup p.2=some .free))
 (fu:∀y∈scope.names,y.2= .free->(osc.names.lookup y.1=some .cell∨osc.names.lookup y.1=some .free))
 (bH:∀y∈scope.names,y.2≠.cell) (bM:scope.kind= .function) (cA:∀y∈scope.names,y.2= .local->scope.names.lookup y.1=some .local) (hx:∀x∈nm,scope.names.lookup x=some .local) (jd:(nm++caps.map Prod.snd).Nodup)
 (hs:∀v,foldedSetIterable iter X.env v=pure v) {s:Shared} (I:Inv X pins σ0 H s) (hw:up X.K (rR (fW tup nm.length) md ti (caps.map Prod.fst) tt te) σ0 H Q0)
 (fin:∀(D C:Addr) (s5:Shared) (m5:bC) (H5:Hp),s5.heap.Ns C m5->(∀h',Heap.SameBut C s5.heap h'->Inv X pins σ0 H5 { s5 with heap:=h' })->Q0 (.ref D) H5->H5 C=none->C≠X.env.locals->X.s₀.heap.objs.size<=C->(∀y c,X.env.cells.lookup y=some c->c≠C)->(∀p∈X.pn++pins,p.1≠C)->compPost (model X.prog X.w) X.A X.xe use PP (.ref D) C (.ok .next) s5):
 wpAny (model X.prog X.w) X.A (comprehension (.ListComp elt [⟨tg,iter,ifs,0⟩] scope pos) scope X.env pos' (newList []) false (eval iter X.env) use) PP X.xe s:=by
 refine SQ (bd:=fW tup nm.length) (md:=md) (nm:=nm) caps hc hi hif hel hX hN fU fu bH bM cA (λr bs e=>?_) (λcl C s2 H2 fp pins' s6 vs0 cv H6 rv xv u bs Q1 hl I6 r6 rr6 eb hQ=>?_) hs I hw fin
 . cases tup with
   |false=>
    cases tg<;>first|(exact False.elim htg)|skip
    have htg:nm=_:=htg;subst htg;cases e;rfl
   |true=>
    cases r<;>first|(cases(show none=some bs from e))|skip
    rename_i xs;have e':(if xs.length=nm.length then some xs else none)=some bs:=e
    split at e'
    . rename_i hh;cases e';exact hh
    . cases e'
 . have hls:∀x∈nm,(dH X scope cl C (nm++caps.map Prod.snd) s2 H2 fp).env.scope.names.lookup x=some .local:=λx h=>lookup_relabel_local (hx x h)
   cases tup with
   |false=>
    cases tg<;>first|(exact False.elim htg)|skip
    rename_i x px;have htg:nm=_:=htg;subst htg;cases eb;obtain⟨v0,rfl⟩:=List.length_eq_one_iff.mp hl;have hx0:=hls x (by simp)
    refine aB (yr (X:=dH X scope cl C (x::caps.map Prod.snd) s2 H2 fp) (i:=0) jd rfl (.inl hx0) (.inr hx0) _ s6 _ H6 xv u (λσ' H'=>σ'=(some xv::cv)/\H'=H6) I6 r6 ⟨rfl,rfl⟩) λ_ s7 h7=>?_
    obtain⟨σ7,H7,I7,q7,q7'⟩:=h7;subst q7 q7';exact hQ [xv] s7 (aa.cons rr6 aa.nil) I7
   |true=>
    cases tg<;>first|(exact False.elim htg)|skip
    rename_i es tk tp;have htg:nV es=some nm:=htg;cases rv<;>first|(cases(show none=some bs from eb))|skip
    rename_i xs;have e':(if xs.length=nm.length then some xs else none)=some bs:=eb
    split at e'
    . rename_i hh;cases e'
      simp only[Rep]at rr6;obtain⟨pa,pvs,rfl,sq6,rp6⟩:=rr6;have hlen:pvs.length=nm.length:=by rw[<-rp6.length];exact hh
      obtain⟨g1,g2,g3⟩:=Ic (X:=dH X scope cl C (nm++caps.map Prod.snd) s2 H2 fp) (es:=es) (xs:=nm) es nm 0 htg jd (λi x e=>by
       show(nm++caps.map Prod.snd)[0+i]? =some x;rw[Nat.zero_add,qQ (ke.mp e).1];exact e) hls
      have pg:PG (dH X scope cl C (nm++caps.map Prod.snd) s2 H2 fp) (.Tuple es tk tp) (EB X.K nm.length (mU (List.range' 0 nm.length))):=JF (n:=nm.length) hc g1 g2 g3;refine aB (pg _ s6 _ H6 _ u (λσ' H'=>σ'=(pvs.map some++cv)/\H'=H6) I6 r6 ⟨pa,pvs,rfl,bZ.of sq6,hlen,?_⟩) λ_ s7 h7=>?_
      . have:=Jh (H:=H6) (Q:=λσ' H'=>σ'=(pvs.map some++cv)/\H'=H6) pvs [] vs0 cv (by rw[hlen];exact hl) ⟨rfl,rfl⟩
        rw[hlen]at this;exact this
      . obtain⟨σ7,H7,I7,q7,q7'⟩:=h7
        subst q7 q7';exact hQ pvs s7 rp6 I7
    . cases e'
end
noncomputable def fR:RV->Option Key
 | .int i=>some (.inl i)
 | .str x=>some (.inr x)
 |_=>none
def et(kvs:List (Key×α))(k:Key):Option α:=(kvs.find? λp=>decide (p.1=k)).map (·.2)
theorem qd{K:ag}{a:RV}{x:V}(e:fR a=some k)(r:Rep K H a x):x=kV k:=by
 cases a with
 |int i=>cases e;simp only[Rep]at r;exact r
 |str y=>cases e;simp only[Rep]at r;exact r
 |_=>cases e
theorem uH{K:ag}:∀{kvs:bP} {ws:List (Key×V)},aH K H kvs ws->(∀r,et kvs k=some r->∃v,fK ws k=some v/\Rep K H r v)/\(et kvs k=none->fK ws k=none)
 | [],ws,h=>by
  have h:ws= []:=h;subst h;exact⟨λr e=>(by cases e),λ_=>rfl⟩
 |(j,x)::t,ws,h=>by
  obtain⟨v,u,rfl,c,d⟩:=h;have b:=uH (k:=k) d;unfold et;rw[i7]
  by_cases a:j=k
  . rw[d8 (show(j,x).1=k from a)]
    refine⟨λr e=>⟨v,uE (p:=(j,v)) a,?_⟩,λe=>(by cases e)⟩
    cases e;exact c
  . rw[iq (show ¬(j,x).1=k from a)]
    refine⟨λr e=>?_,λe=>?_⟩
    . rw[qa (p:=(j,v)) a];exact b.1 r e
    . rw[qa (p:=(j,v)) a];exact b.2 e
theorem Aq:∀(b a:List (Key×V)),((a++b).map Prod.fst).Nodup->j5 a b=a++b
 | [],a,_=>by simp[j5]
 |p::r,a,h=>by
  have e:fK a p.1=none:=by
   cases q:fK a p.1 with
   |none=>rfl
   |some v=>
    have m:=UM q;rw[fF,bF,List.nodup_append]at h;exact aW rfl (h.2.2 p.1 m p.1 iH)
  show j5 (putK a p.1 p.2) r=_;rw[TC _ e,Aq r (a++ [(p.1,p.2)]) (by simpa using h)]
  simp
structure KTab(P:Program)(w:World)(K:ag)(mg:bC)(x:Str)(kvs:bP):Prop where
 ex:∃(a:Addr) (vs:List (Key×Value)) (ws:List (Key×V)),mg x=some (.ref a)/\(a==sysModules)=false/\(∀h:Heap,K.In h->h.DictOf (dv P w) a vs)/\KV ws vs/\∀H,aH K H kvs ws
noncomputable def vG (w:World):List DictEntry->List (Str×Value)->Prop
 | [],[]=>True
 |e::es,(x,v)::r=>(∃t,e.key= .str x t)/\e.hash=hashStr w x/\e.val=v/\vG w es r
 |_,_=>False
theorem F9{P:Program}:∀{es:List DictEntry} {vs:List (Str×Value)},vG w es vs->
 (∀e∈es,∃k,(dv P w).is k e.key=true/\e.hash=(dv P w).hash k)/\Pairs (dv P w) es (vs.map λp=>((Sum.inr p.1:Key),p.2))
 | [],[],_=>⟨λ_ h=>(by cases h),Pairs.nil⟩
 |e::es,(x,v)::r,h=>by
  obtain⟨⟨t,h1⟩,h2,h3,h4⟩:=h;obtain⟨ih1,ih2⟩:=F9 (P:=P) (w:=w) h4;have hi:(dv P w).is (.inr x) e.key=true:=by rw[h1];exact Gh P w x t
  refine⟨λe' he=>?_,?_⟩
  . rcases eY.mp he with rfl|he
    . exact⟨.inr x,hi,h2⟩
    . exact ih1 e' he
  . subst h3
    exact Pairs.cons hi rfl ih2
theorem xS:∀{l:aE},l.Nodup->(l.map (Sum.inr:Str->Key)).Nodup
 | [],_=>jW
 |a::r,h=>by
  obtain⟨c,d⟩:=ip.mp h;rw[bF];refine ip.mpr ⟨λm=>?_,xS d⟩
  obtain⟨b,f,e⟩:=aP.mp m;cases e;exact c f
theorem IE{P:Program}{K:ag}{x:Str}{a:Addr}{sl:Array (cJ)}{vs:List (Str×Value)}
 (h:mg x=some (.ref a)) (l:K.lookup a=some ⟨.type "dict",none,.dict es ep,sl⟩) (f:(a==sysModules)=false) (k:vG w es.toList vs) (i:(vs.map Prod.fst).Nodup)
 (b:Obj.ExactDict ⟨.type "dict",none,.dict es ep,sl⟩) (hk:KV ws (vs.map λp=>((Sum.inr p.1:Key),p.2))) (j:∀H,aH K H kvs ws):KTab P w K mg x kvs:=by
 obtain⟨c,d⟩:=F9 (P:=P) k;refine⟨a,_,ws,h,f,λh X=>⟨_,es,ep,X _ _ l,b,rfl,λe g=>c e (by simpa using g),d,?_⟩,hk,j⟩
 have:(vs.map λp=>((Sum.inr p.1:Key),p.2)).map (·.1)=(vs.map Prod.fst).map Sum.inr:=by simp[bG,Function.comp_def]
 rw[this];exact xS i
section
variable {X:Cx}
noncomputable def y7 (kvs:bP)(te:ar):ar:=λσ M Q=>te σ M λk M1=>match fR k with
 |some key=>(match et kvs key with|some v=>Q v M1|none=>False)
 |none=>False
theorem OG{x:Str}{e:Expr}{p pos:Pos}(T:KTab X.prog X.w X.K X.mg x kvs)(j:aj X e te)(hs:sL e:=by intro _ _;rfl)(l:Gl X x:=by rfl)(i:(x==("__debug__":Str))=false:=by decide):
 aj X (.Subscript (.Name x p) e pos) (y7 kvs te):=by
 obtain⟨a,vs,N,n,F,g,m,u⟩:=T.ex;intro b s f H E I h;obtain⟨D,M,Q,c,A,z,t⟩:=h;refine Iz PySem.F.slot_dict_getitem.lookup hs (qj I l n (aB (j b s f H (λv H1=>∃r M1,Rep X.K H1 r v/\Ext H H1/\View X.K H1 M1/\(match fR r with
  |some key=>(match et kvs key with|some v=>Q v M1|none=>False)
  |none=>False)) I ⟨D,M,_,c,A,z,λr M1 v H1 q e w r1=>⟨r,M1,r1,e,w,q⟩⟩) λiv J ⟨y,H2,I2,ry,r,M2,rr,e2,w2,q2⟩=>?_) i)
 have dd:=g _ I2.eL;refine⟨dd.typeIs,?_⟩;cases ek:fR r with
 |none=>rw[ek]at q2;exact q2.elim
 |some key=>
  rw[ek]at q2;simp only at q2;cases el:et kvs key with
  |none=>rw[el]at q2;exact q2.elim
  |some rv=>
   rw[el]at q2;simp only at q2;obtain⟨v,e1,r1⟩:=(uH (k:=key) (u H2)).1 rv el;have:=qd ek rr;subst this;obtain⟨L,C,d⟩:=bS.some_of (v:=v) (o:=valueAt vs key) (by rw[<-e1];exact m.val key)
   exact wpAny_getItem_of (j9 ry) dd.mapOf C ⟨v,H2,I2.tok _,d,t rv M2 v H2 q2 e2 w2 r1⟩
theorem Rb{K:ag}{vs:List (Key×Value)}(hk:KV ws vs)(a:aH K H kvs ws):(valueAt vs key).isSome=(et kvs key).isSome:=by
 rw[<-(hk.val key).bp];cases el:et kvs key with
 |none=>rw[(uH (k:=key) a).2 el];rfl
 |some rv=>obtain⟨v,e1,_⟩:=(uH (k:=key) a).1 rv el;rw[e1];rfl
def drop(M:RM)(p:Addr):RM:=λb=>if b=p then none else M b
theorem S4{p:Addr}(h:M p=none):drop (put M p o) p=M:=by
 funext b;unfold drop put
 by_cases a:b=p
 . subst a;simp[h]
 . simp[a]
theorem View.drop{K:ag}{H:Hp}{M:RM}(w:View K H M)(p:Addr):View K H (drop M p):=λa o e=>by
 unfold R.drop at e;split at e
 . cases e
 . exact w a o e
noncomputable def AO (kvs:bP)(te:ar):ar:=λσ M Q=>∀p,M p=none->te σ (put M p (.dk kvs)) λk M1=>M1 p=some (.dk kvs)/\(match fR k with
 |some key=>(match et kvs key with|some v=>Q v (drop M1 p)|none=>False)
 |none=>False)
def uK:List (Key×V)->List (TE×TE)
 | []=>[]
 |(k,v)::r=>(tC (kV k),tC v)::uK r
theorem Gx:∀{ws:List (Key×V)} {H:Hp} {Q:List (V×V)->Hp->Prop},Q (ws.map λkv=>(kV kv.1,kv.2)) H->vb (uK ws) σ H Q
 | [],_,_,h=>h
 |(k,v)::r,H,Q,h=>Gx (ws:=r) (Q:=λps H3=>Q ((kV k,v)::ps) H3) h
theorem Sq{e:Expr}{p1 pos:Pos}(z:X.A.units+1<cLine)(h:nj X p1 keys values (uK ws))(o:aj X e te)(x:∀H,aH X.K H kvs ws)
 (w:(ws.map Prod.fst).Nodup) (b:ws.length<=15:=by decide) (a:keys.all (·.isSome)=true:=by rfl) (t:keys.length=values.length:=by rfl) (h0:keys≠[]) (c:keys.length<=15:=by decide) (hs:sL e:=by intro _ _;rfl):
 aj X (.Subscript (.Dict keys values p1) e pos) (AO kvs te):=PE.imp (IQ z (IP h a t h0 c) o hs) λσ0 H E h=>by
 obtain⟨D,M,Q,f,i,y,s⟩:=h;intro p d;refine Gx ⟨bO,ws,rfl,b,?_⟩;have u:j5 [] ws=ws:=by have:=Aq ws [] (by simpa using w);simpa using this
 rw[u,Iw];have ex:Ext H (upd H p (.dK ws)):=Ext.new d;refine⟨D,put M p (.dk kvs),_,f.ext ex,i.cj d ⟨ws,rfl,x _⟩,y p (i.free d),λr M1 v H1 q e1 l r1=>?_⟩
 obtain⟨q0,q⟩:=q;obtain⟨ho,n,g⟩:=l p _ q0;obtain⟨C,rfl,g⟩:=g;cases ek:fR r with
 |none=>rw[ek]at q;exact q.elim
 |some key=>
  rw[ek]at q;simp only at q;cases el:et kvs key with
  |none=>rw[el]at q;exact q.elim
  |some rv=>
   rw[el]at q;simp only at q;obtain⟨j,m,A⟩:=(uH (k:=key) g).1 rv el;have:=qd ek r1;subst this;exact⟨p,j,rfl,by rw[<-m];exact bY.k n,s rv _ j H1 q (ex.trans e1) (l.drop p) A⟩
def gQ(l:List (Str×Int)):bP:=l.map λp=>((Sum.inr p.1:Key),RV.int p.2)
def nh(l:List (Str×Int)):List (Key×V):=l.map λp=>((Sum.inr p.1:Key),V.int p.2)
theorem Bd{K:ag}:∀l:List (Str×Int),aH K H (gQ l) (nh l)
 | []=>rfl
 |p::r=>⟨V.int p.2,nh r,rfl,by simp only[Rep],Bd r⟩
theorem Vl{l:List (Str×Int)}(h:(l.map Prod.fst).Nodup):((nh l).map Prod.fst).Nodup:=by
 have e:(nh l).map Prod.fst=(l.map Prod.fst).map (Sum.inr:Str->Key):=by simp[nh,bG,Function.comp_def]
 rw[e];exact xS h
theorem VT(l:List (Str×Int)){e:Expr}{p1 pos:Pos}(j:X.A.units+1<cLine)(h:nj X p1 keys values trs)(d:aj X e te)
 (g:(l.map Prod.fst).Nodup) (i:trs=uK (nh l):=by rfl) (b:l.length<=15:=by decide) (a:keys.all (·.isSome)=true:=by rfl) (f:keys.length=values.length:=by rfl) (h0:keys≠[]) (c:keys.length<=15:=by decide) (hs:sL e:=by intro _ _;rfl):
 aj X (.Subscript (.Dict keys values p1) e pos) (AO (gQ l) te):=Sq j (i ▸ h) d (λH=>Bd l) (Vl g) (by rw[nh,bo];exact b) a f h0 c hs
end
theorem Y5{P:Program}{K:ag}{x qual:Str}{st:Stmt}{sp:cu}{t:d9}(F:sV K x qual st f fd)(S:rO N ps (gu st))
 (len:∀rs M Q,sp rs M Q->rs.length=ps.length)
 (term:∀(cdv:Value),fd.code=cdv->∀(A:Around) (outer:List Env) (s:Shared) (H:Hp) (E:XK),aN k (A.deeper (envOfC qual (gu st) s.heap.objs.size f cdv))->ka (oj fN P w K mg base N qual (gu st) f cdv A outer s H E).rg (qg st) t)
 (body:∀rs M Q,sp rs M Q->t { nx:=λ_ M'=>Q .aq M',rt:=Q } (jh N rs) M):eW P w K mg base fN (k+1) f fd ps (gd K sp):=by
 refine F.ok S (λvs H Q0 E h=>?_) λcdv hcd A outer s H vs Q0 E hr h=>?_
 . obtain⟨rs,M,Q,rr,hv,hq,hk⟩:=h
   rw[<-rr.length];exact len rs M Q hq
 . obtain⟨rs,M,Q,rr,hv,hq,hk⟩:=h
   refine⟨_,term cdv hcd A outer s H E hr,jh N rs,M,{ nx:=λ_ M'=>Q .aq M',rt:=Q },Rt rr,hv,body rs M Q hq,⟨λσ M' σ0 H' q e w r=>hk .aq M' .aq H' q e w (by simp only[Rep]),hk,λ_ _ _ _ z=>z.elim,λ_ _ _ _ z=>z.elim⟩⟩
theorem Xn:bootBuiltins "len" =some (.builtin "len"):=by decide+kernel
theorem PB:bootBuiltins "isinstance" =some (.builtin "isinstance"):=by decide+kernel
theorem Xl:bootBuiltins "ord" =some (.builtin "ord"):=by decide+kernel
theorem Xp:bootBuiltins "all" =some (.builtin "all"):=by decide+kernel
theorem Ij:bootBuiltins "tuple" =some (.type "tuple"):=by decide+kernel
theorem Ja:bootBuiltins "list" =some (.type "list"):=by decide+kernel
theorem J0:bootBuiltins "int" =some (.type "int"):=by decide+kernel
theorem VF:bootBuiltins "bool" =some (.type "bool"):=by decide+kernel
theorem Xk:bootBuiltins "str" =some (.type "str"):=by decide+kernel
section
variable {X:Cx}{pos:Pos}
theorem UB(b:X.mg "int" =none)(a:Gl X "int":=by rfl):aj X (.Name "int" pos) (rC (.ty "int")):=vo b J0 (v:=.ty "int") rfl (λH=>by simp only[Rep]) a
theorem Sn(b:X.mg "bool" =none)(a:Gl X "bool":=by rfl):aj X (.Name "bool" pos) (rC (.ty "bool")):=vo b VF (v:=.ty "bool") rfl (λH=>by simp only[Rep]) a
theorem UA(b:X.mg "str" =none)(a:Gl X "str":=by rfl):aj X (.Name "str" pos) (rC (.ty "str")):=vo b Xk (v:=.ty "str") rfl (λH=>by simp only[Rep]) a
theorem RB(b:X.mg "tuple" =none)(a:Gl X "tuple":=by rfl):aj X (.Name "tuple" pos) (rC (.ty "tuple")):=vo b Ij (v:=.ty "tuple") rfl (λH=>by simp only[Rep]) a
theorem Sl(b:X.mg "list" =none)(a:Gl X "list":=by rfl):aj X (.Name "list" pos) (rC (.ty "list")):=vo b Ja (v:=.ty "list") rfl (λH=>by simp only[Rep]) a
def Cb(mg:bC)(x:Str)(i:Int):Prop:=∃t,mg x=some (.int i t)
theorem ZR{x:Str}{i:Int}(h:Cb X.mg x i)(b:Gl X x:=by rfl)(a:(x==("__debug__":Str))=false:=by decide):aj X (.Name x pos) (rC (.int i)):=by
 obtain⟨t,c⟩:=h;exact Kh c (v:=.int i) ⟨t,rfl⟩ (λH=>by simp only[Rep]) b a
def vZ(K:ag)(a:Addr)(b:aE):Prop:=∃(o:Obj) (ab:Array Value) (n:Nat),K.lookup a=some o/\o.cls= .type "tuple"/\o.data= .seq ab n/\ab.size<=sizeLine/\Vals (b.map V.str) ab.toList
def sJ(K:ag)(mg:bC)(x:Str)(b:aE):Prop:=∃a,mg x=some (.ref a)/\vZ K a b
def L4(K:ag)(a:aE):ar:=λ_ M Q=>∀p,vZ K p a->Q (.ref p) M
theorem Md{x:Str}(h:sJ X.K X.mg x ss)(c:Gl X x:=by rfl)(b:(x==("__debug__":Str))=false:=by decide):aj X (.Name x pos) (L4 X.K ss):=by
 obtain⟨a,e,f⟩:=h;refine PE.imp (Kh (r:=.ref a) e (v:=.ref a) rfl (λH=>by simp only[Rep]) c b) λσ0 H k h=>?_
 obtain⟨j,M,Q,hs,i,g,d⟩:=h;exact⟨j,M,Q,hs,i,g a f,d⟩
end
theorem UP{K:ag}{x:Str}{a:Addr}{b:aE}{ab:Array Value}{n:Nat}{sl:Array (cJ)}(c:mg x=some (.ref a))(l:K.lookup a=some ⟨.type "tuple",d,.seq ab n,sl⟩)(hz:ab.size<=sizeLine)
 (e:Vals (b.map V.str) ab.toList):sJ K mg x b:=⟨a,c,_,ab,n,l,rfl,rfl,hz,e⟩
structure J6(N:aE)(sc:Scope):Prop where
 nd:N.Nodup
 loc:∀x∈N,sc.names.lookup x=some .local∨sc.names.lookup x=some .cell
 jw:∀x∈N,(x==("__debug__":Str))=false/\(x==("__classdict__":Str))=false
section
variable {X:Cx}{x:Str}{pos pos':Pos}
theorem MA{scope:Scope}{s:Shared}(h:scope.names.lookup x=some .globalImplicit):Gl (dH X scope cl C Nc s H fp) x:=by
 show(scope.names.map (gI X.env)).lookup x=_;rw[xo];rw[xp]at h;cases e:scope.names.find? λp=>x==p.1 with
 |none=>rw[e]at h;cases h
 |some p=>
  rw[e]at h;have a:p.2= .globalImplicit:=d0 h;show some (gI X.env p).2=_;rcases AU X.env p with z|z
  . rw[z,a]
  . rw[a]at z;cases z.2
end
noncomputable def Bo (w:World):List DictEntry->List (Str×Int)->Prop
 | [],[]=>True
 |e::es,(x,i)::r=>(∃t,e.key= .str x t)/\e.hash=hashStr w x/\(∃t,e.val= .int i t)/\Bo w es r
 |_,_=>False
theorem JO:∀{es:List DictEntry} {l:List (Str×Int)},Bo w es l->∃vs:List (Str×Value),vG w es vs/\vs.map Prod.fst=l.map Prod.fst/\KV (nh l) (vs.map λp=>((Sum.inr p.1:Key),p.2))
 | [],[],_=>⟨[],trivial,rfl,.nil⟩
 |e::es,(x,i)::r,h=>by
  obtain⟨d,f,⟨t,g⟩,j⟩:=h;obtain⟨vs,a,b,c⟩:=JO j;exact⟨(x,.int i t)::vs,⟨d,f,g,a⟩,by simp[b],.cons ⟨rfl,t,rfl⟩ c⟩
theorem Tj{P:Program}{K:ag}{x:Str}{a:Addr}{l:List (Str×Int)}
 (f:mg x=some (.ref a)) (lk:K.lookup a=some ⟨.type "dict",none,.dict es ep,#[]⟩) (e:(a==sysModules)=false) (h:Bo w es.toList l) (g:(l.map Prod.fst).Nodup):KTab P w K mg x (gQ l):=by
 obtain⟨vs,b,c,d⟩:=JO h;exact IE f lk e b (by rw[c];exact g) ⟨rfl,rfl,rfl⟩ d λH=>Bd l
theorem Jd{e:Value->Bool}{p:RV->Bool}:∀{xs:LR} {us:az},aC h xs us->(∀x∈xs,∀u,Den h x u->e u=p x)->us.any e=xs.any p
 | [],us,d,_=>by simp only[aC]at d;subst d;rfl
 |x::xs,us,d,k=>by
  simp only[aC]at d;obtain⟨u,r,rfl,d1,a⟩:=d;rw[jX,jX,k x iH u d1,Jd a λy b=>k y (gJ _ b)]
theorem IZ:∀{xs:LR} {us:az},aC h xs us->∀u∈us,∃x∈xs,Den h x u
 | [],us,d,u,a=>by simp only[aC]at d;subst d;cases a
 |x::xs,us,d,u,a=>by
  simp only[aC]at d;obtain⟨w,r,rfl,d1,b⟩:=d;rcases eY.mp a with rfl|a
  . exact⟨x,iH,d1⟩
  . obtain⟨y,c,dy⟩:=IZ b u a
    exact⟨y,gJ _ c,dy⟩
open Classical in
noncomputable def nv (h:Heap)(a:RV)(w:Value):Bool:=if q:∃r,aF 15 r=true/\Den h r w then bh (choose q) a else false
theorem JZ{a x:RV}(o:aF 15 x=true)(d:Den h x u):nv h a u=bh x a:=by
 have q:∃r,aF 15 r=true/\Den h r u:=⟨x,o,d⟩;unfold nv;rw[dif_pos q];have e:=A8 15 _ x u (Classical.choose_spec q).1 o (Classical.choose_spec q).2 d;rw[e]
def inR(x:RV)(xs:LR):Bool:=xs.any λy=>bh y x
noncomputable def zc (neg:Bool):cM:=λx y M Q=>match y with
 | .tup xs=>aF 15 x=true/\xs.all (aF 15)=true/\Q (.bl (if neg then !inR x xs else inR x xs)) M
 | .ls xs=>aF 15 x=true/\xs.all (aF 15)=true/\Q (.bl (if neg then !inR x xs else inR x xs)) M
 |_=>False
section
variable {X:Cx}
theorem uF{s:Shared}{A:Around}{xs:LR}{ab:az}{a:RV}{v:Value}(g:A.units+15<cLine)(os:xs.all (aF 15)=true)(i:aF 15 a=true)(d:aC s.heap xs ab)(e:Den s.heap a v):
 (∀w,w∈ab.toArray->SeqAt.EqAt A s w v (nv s.heap a w))/\ab.toArray.any (nv s.heap a)=inR a xs:=by
 have b:∀x∈xs,aF 15 x=true:=by simpa[gM]using os
 refine⟨λw h=>?_,?_⟩
 . obtain⟨x,hx,c⟩:=IZ d w (by simpa using h)
   rw[JZ (b x hx) c];exact AI 15 x a A s w v (b x hx) i c e g
 . rw[show ab.toArray.any (nv s.heap a)=ab.any (nv s.heap a) by simp]
   exact Jd d λx hx u f=>JZ (b x hx) f
theorem yI{xs:LR}(os:xs.all (aF 15)=true):aF 16 (.tup xs)=true/\aF 16 (.ls xs)=true:=⟨os,os⟩
theorem MS(r:X.A.units+64<cLine):dz X (compareOp .In) (zc false):=by
 intro l s t H x y v u o I m n h;obtain⟨a,b,M,Q,ra,rb,k,c,j⟩:=h;cases b with
 |tup xs=>
  obtain⟨e,f,c⟩:=c;have d:=jI I 16 (.tup xs) y u (yI f).1 rb n;simp only[Den]at d;obtain⟨p,ab,rfl,i,g⟩:=d;have z:=uF (A:=X.A.in1) (by rw[in1_units];omega) f e g (jI I 15 a x v e ra m)
  refine SeqAt.in_tupleAt _ i z.1 ⟨.bl (inR a xs),H,I,by rw[z.2];rfl,j _ M _ H c (.refl H) k (by simp only[Rep];rfl)⟩
 |ls xs=>
  obtain⟨e,f,c⟩:=c;have d:=jI I 16 (.ls xs) y u (yI f).2 rb n;simp only[Den]at d;obtain⟨p,ab,rfl,i,g⟩:=d;have z:=uF (A:=X.A.in1) (by rw[in1_units];omega) f e g (jI I 15 a x v e ra m)
  refine SeqAt.in_listAt _ i z.1 ⟨.bl (inR a xs),H,I,by rw[z.2];rfl,j _ M _ H c (.refl H) k (by simp only[Rep];rfl)⟩
 |_=>exact(show False from c).elim
theorem W8(r:X.A.units+64<cLine):dz X (compareOp .NotIn) (zc true):=by
 intro l s t H x y v u o I m n h;obtain⟨a,b,M,Q,ra,rb,k,c,j⟩:=h;cases b with
 |tup xs=>
  obtain⟨e,f,c⟩:=c;have d:=jI I 16 (.tup xs) y u (yI f).1 rb n;simp only[Den]at d;obtain⟨p,ab,rfl,i,g⟩:=d;have z:=uF (A:=X.A.in1) (by rw[in1_units];omega) f e g (jI I 15 a x v e ra m)
  refine SeqAt.notIn_tupleAt _ i z.1 ⟨.bl (!inR a xs),H,I,by rw[z.2];rfl,j _ M _ H c (.refl H) k (by simp only[Rep];rfl)⟩
 |ls xs=>
  obtain⟨e,f,c⟩:=c;have d:=jI I 16 (.ls xs) y u (yI f).2 rb n;simp only[Den]at d;obtain⟨p,ab,rfl,i,g⟩:=d;have z:=uF (A:=X.A.in1) (by rw[in1_units];omega) f e g (jI I 15 a x v e ra m)
  refine SeqAt.notIn_listAt _ i z.1 ⟨.bl (!inR a xs),H,I,by rw[z.2];rfl,j _ M _ H c (.refl H) k (by simp only[Rep];rfl)⟩
 |_=>exact(show False from c).elim
def E9:LR->RM->ak->Prop:=λrs M Q=>match rs with
 | [.str x]=>x.length=1/\Q (.int (x.cps.getD 0 0:Nat)) M
 |_=>False
theorem Oy:dm X (.builtin "ord") (fE X.K E9):=by
 intro b s j H k us d I i h;obtain⟨rs,M,Q,c,g,a,e⟩:=h
 match rs,a with
 | [.str x],a=>
  obtain⟨f,a⟩:=a;simp only[aa,Rep]at c;obtain⟨v,r,rfl,rfl,rfl⟩:=c;exact Ue b s j H _ us d I i ⟨x,rfl,f,e _ M _ H a (.refl H) g (by simp only[Rep])⟩
noncomputable def zb (K:ag)(neg:Bool):cM:=λx y M Q=>match y with
 | .ref p=>∃a,vZ K p a/\aF 15 x=true/\Q (.bl (if neg then !inR x (a.map RV.str)else inR x (a.map RV.str))) M
 |_=>False
theorem Ho:∀{b:aE} {ab:az},Vals (b.map V.str) ab->aC h (b.map RV.str) ab
 | [],_,r=>by rw[oJ]at r;cases r;simp only[oJ,aC]
 |s::b,_,r=>by
  rw[bF]at r;cases r with
  |cons a t=>rw[bF];simp only[aC,Den];exact⟨_,_,rfl,a,Ho t⟩
theorem Jv{s:Shared}(h:X.A.units+64<cLine)(I:Inv X pins σ H s){a:RV}{x:V}{v:Value}{p:Addr}(d:vZ X.K p ss)(c:aF 15 a=true)(ra:Rep X.K H a x)(g:RelV x v):
 ∃ab:az,IsTup s.heap p ab.toArray/\(∀w,w∈ab.toArray->SeqAt.EqAt X.A.in1 s w v (nv s.heap a w))/\ab.toArray.any (nv s.heap a)=inR a (ss.map RV.str):=by
 obtain⟨ab,b,e,_⟩:=I.tuple (a:=p) (xs:=ss.map V.str) (.inr d);have f:(ss.map RV.str).all (aF 15)=true:=by simp[gM,aF]
 have z:=uF (A:=X.A.in1) (by rw[in1_units];omega) f c (Ho b) (jI I 15 a x v c ra g)
 exact⟨ab,e,z.1,z.2⟩
theorem O0(i:X.A.units+64<cLine):dz X (compareOp .In) (zb X.K false):=by
 intro d s w H x y v u t I l m h;obtain⟨a,b,M,Q,ra,rb,j,c,e⟩:=h;cases b with
 |ref p=>
  obtain⟨n,f,k,c⟩:=c;simp only[Rep]at rb;subst rb;cases(show u=Value.ref p from m)
  obtain⟨ab,g,o,r⟩:=Jv i I f k ra l;exact SeqAt.in_tupleAt _ g o ⟨.bl (inR a (n.map RV.str)),H,I,by rw[r];rfl,e _ M _ H c (.refl H) j (by simp only[Rep];rfl)⟩
 |_=>exact(show False from c).elim
theorem Vh(i:X.A.units+64<cLine):dz X (compareOp .NotIn) (zb X.K true):=by
 intro d s w H x y v u t I l m h;obtain⟨a,b,M,Q,ra,rb,j,c,e⟩:=h;cases b with
 |ref p=>
  obtain⟨n,f,k,c⟩:=c;simp only[Rep]at rb;subst rb;cases(show u=Value.ref p from m)
  obtain⟨ab,g,o,r⟩:=Jv i I f k ra l;exact SeqAt.notIn_tupleAt _ g o ⟨.bl (!inR a (n.map RV.str)),H,I,by rw[r];rfl,e _ M _ H c (.refl H) j (by simp only[Rep];rfl)⟩
 |_=>exact(show False from c).elim
noncomputable def sD (neg:Bool)(ss:aE)(ty:ar):ar:=λσ M Q=>ty σ M λx M1=>aF 15 x=true/\Q (.bl (if neg then !inR x (ss.map RV.str)else inR x (ss.map RV.str))) M1
def Eu:LR->RM->ak->Prop:=λrs M Q=>∃a:List Bool,rs= [.ls (a.map RV.bl)]/\Q (.bl (a.all id)) M
theorem A2{K:ag}:∀{bs:List Bool} {vs:LV},aa K H (bs.map RV.bl) vs->vs=bs.map V.bl
 | [],vs,h=>by simpa only[oJ,aa]using h
 |b::bs,vs,h=>by
  simp only[bF,aa,Rep]at h;obtain⟨v,r,rfl,rfl,a⟩:=h;rw[A2 a];rfl
theorem AZ:∀{bs:List Bool} {us:az},Vals (bs.map V.bl) us->us=bs.map Value.bool
 | [],us,h=>by cases h;rfl
 |b::bs,us,h=>by
  obtain⟨u,r,rfl,a,c⟩:=Vals.cons_inv h;cases a;rw[AZ c];rfl
theorem range_all(bs:List Bool):(List.range bs.length).all (λi=>bs.getD i true)=bs.all id:=by
 induction bs with
 |nil=>rfl
 |cons b bs ih=>
  rw[cY,List.range_succ_eq_map,fS,List.all_map,fS];have:((λi=>(b::bs).getD i true) ∘ Nat.succ)=λi=>bs.getD i true:=by funext i;rfl
  rw[this,ih];rfl
theorem Uh(N:X.calm=true):dm X (.builtin "all") (fE X.K Eu):=by
 intro d s r H xs us Q0 I W h;obtain⟨rs,M,Q,Y,U,⟨f,rfl,R⟩,O⟩:=h;obtain⟨v,rfl,r1⟩:=Y.one;simp only[Rep]at r1;obtain⟨a,vs,rfl,F,J⟩:=r1;have:=A2 J;subst this;obtain⟨u,rfl,ru⟩:=W.one;cases ru;obtain⟨ab,rv,p,hz⟩:=I.list F.sq;have:=AZ rv;subst this;have m:a<s.heap.objs.size:=by obtain⟨o,n,e,_⟩:=p;exact bJ e
 refine call_all_walk (wpAny_pyIter_list p.isList ?_);have hd:X.A.in1.handled=none:=I.ok.hd N;refine⟨s.heap.objs.size,_,_,_,_,_,λi=>f.getD i true,rfl,Walks.list hd s.heap.objs.size a (cX m) (f.map Value.bool).toArray,⟨⟨_,dJ _ rfl,rfl,rfl⟩,p.isList.push _⟩,?_,?_⟩
 . intro i v Z x E' L j
   have c:(f.map Value.bool)[i]? =some v:=by simpa using L
   rw[gm]at c;cases e:f[i]? with
   |none=>rw[e]at c;cases c
   |some b=>
    rw[e]at c;have k:f.getD i true=b:=by rw[List.getD_eq_getElem?_getD,e];rfl
    cases c;have g:x (f.getD i true) Z:=j;rw[k]at g;exact jS g
 . intro h' tk l
   have t:Inv X d r H { s with heap:=s.heap.push { cls:=.type "list_iterator",data:=.fields #[.ref a,.int 0 0] } }:=I.kept (t':=s.toks) λb o e=>bK _ e
   obtain⟨y,A,f2,C,D,E⟩:=I.fZ (aU _) (I.av.fresh (aU _));have w:Inv X d r H { s with heap:=h',toks:=tk }:=by
    have z:=t.turned (h':=h') (t':=tk) (it:=s.heap.objs.size) (λb o k e=>l b o (by simpa using k) e) y A C D E
    exact z
   refine⟨.bl (f.all id),H,w,?_,O _ M _ H R (.refl H) U (by simp only[Rep])⟩
   show _=_;rw[<-range_all];simp
def wD(x:Str):It:=⟨λi _=>i<x.cps.size,λi H v a=>a=H/\∃c,x.cps[i]? =some c/\v= .str ⟨#[c]⟩,λi _=>x.cps.size<=i⟩
def mE(x:Str):LR:=x.cps.toList.map λc=>.str ⟨#[c]⟩
theorem HJ{P:Program}{K:ag}(it)(n:String)(x:Str)(t)
 (hn:["enumerate","zip","dict_itemiterator","dict_reverseitemiterator","odict_iterator","itertools.zip_longest","itertools.pairwise"].contains n=false)
 (W:∀A:Around,A.handled=none->Walks P w A it [it] [it] x.cps.size (SignAt x) (λi h=>h.IsStrIter it n x t i))
 (l:∀(A:Around) (i:Nat) (s:Shared) (Q:cJ->Shared->Prop) (E:aX),A.handled=none->s.heap.IsStrIter it n x t i->x.cps.size<=i->(∀j,(∀b o,b≠it->s.heap.get? b=some o->j.get? b=some o)->Q none { s with heap:=j })->wpAny (model P w) A (pyNext (.ref it)) Q E s)
 (g:∀A i s Q E,s.heap.IsStrIter it n x t i->Q (.ref it) s->wpAny (model P w) A (pyIter (.ref it)) Q E s):
 Turn P w K tg (wD x) [it] it (λi h=>h.IsStrIter it n x t i) where
 mem:=by simp
 obj:=λi h st b f=>by
  have e:b=it:=by simpa using f
  subst e;obtain⟨o,e,c,d⟩:=st;exact⟨o,e,λv z=>by rw[d]at z;cases z⟩
 keep:=λi h j st k=>by
  obtain⟨o,e,r⟩:=st;exact⟨o,k it (by simp) o e,r⟩
 item:=by
  intro X M Y L N i a s Z H E I v st U;subst M Y L;obtain⟨y,C,f2,D,F,J⟩:=v it (by simp)
  refine(W X.A (I.ok.hd N)).item i s _ _ U st λv j tk hv m kk=>?_
  obtain⟨c,u,R,rfl⟩:=hv;have I1:Inv X a Z H { s with heap:=j,toks:=tk }:=I.turned (λb o f e=>kk b o (by simpa using f) e) y C D F J
  obtain⟨o,e,O,hd⟩:=id m;exact⟨_,rfl,rZ (s:={ s with heap:=j,toks:=tk }) (n:=n) e O hd hn ⟨.str ⟨#[c]⟩,H,I1,⟨u,rfl⟩,⟨rfl,c,R,rfl⟩,m,λb f=>(v b f).1⟩⟩
 done:=by
  intro X M Y L N i a s Z H E I v st U;subst M Y L;obtain⟨y,C,f2,D,F,J⟩:=v it (by simp)
  exact l X.A i s _ _ (I.ok.hd N) st U λh' eb=>⟨rfl,I.turned (t':=s.toks) (λb o f e=>eb b o f e) y C D F J⟩
 self:=g
theorem Jo{K:ag}{H1:Hp}(x)(es:Ext Hs H1):iZ H0 Hs K (wD x) (mE x) eM id H1 where
 turn:=λi H M e _ _ r b=>by
  have hi:i<x.cps.size:=by have:=(ke.mp b).1;simpa[mE]using this
  refine⟨hi,λv' f y=>?_⟩
  obtain⟨rfl,c,a,rfl⟩:=y;refine⟨.refl _,λ_ w=>w,?_⟩
  have:r= .str ⟨#[c]⟩:=by
   have d:x.cps.toList[i]? =some c:=by simpa using a
   simp only[mE,gm,d,Option.map_some,kj]at b;exact b.symm
  subst this;simp only[Rep]
 stop:=λi H M e _ _ hi=>by
  have:(mE x).length=x.cps.size:=by simp[mE]
  rw[this]at hi;exact hi
 cB:=nJ es
def El(te:ar):g8:=λσ M Q=>te σ M λv M1=>match v with| .str x=>Q (mE x) eM id M1|_=>False
theorem Oo{l:Expr}(r:aj X l te):iJ X tg l (El te):=by
 intro a s j H R I h;obtain⟨y,M,Q,hs,w,u,m⟩:=h;refine aB (r a s j H (λv H1=>∃x M1,v= .str x/\Q (mE x) eM id M1/\Ext H H1/\View X.K H1 M1) I ⟨y,M,_,hs,w,u,λrv M1 v H1 q e1 g r1=>?_⟩) λv c ⟨z,H1,I1,r1,q1⟩=>?_
 . cases rv with
   |str x=>simp only[Rep]at r1;exact⟨x,M1,r1,q,e1,g⟩
   |_=>exact(show False from q).elim
 . obtain⟨x,M1,rfl,q,e1,g⟩:=q1
   obtain⟨t,rfl⟩:=r1;have k:∀b∈[c.heap.objs.size],mX X a H1 b:=λb n=>by
    have e:b=c.heap.objs.size:=by simpa using n
    subst e;exact I1.fZ (aU _) (I1.av.fresh (aU _))
   cases ha:x.cps.all (. < 128)
   . refine wpAny_pyIter_wide ha ?_
     exact⟨c.heap.objs.size,[c.heap.objs.size],_,wD x,H1,rfl,I1.kept (t':=c.toks) λb o e=>bK _ e,HJ _ "str_iterator" x t (by decide) (λA d=>Walks.strWide d _ x t) (λA i s Q E d st hi f=>wpAny_pyNext_wide_end d st (by simp;exact hi) f) (λA i s Q E st f=>wpAny_pyIter_striter_wide st f),⟨_,dJ _ rfl,rfl,rfl⟩,k,m _ eM id M1 _ H1 q e1 g (Jo x e1)⟩
   . refine wpAny_pyIter_ascii ha ?_
     exact⟨c.heap.objs.size,[c.heap.objs.size],_,wD x,H1,rfl,I1.kept (t':=c.toks) λb o e=>bK _ e,HJ _ "str_ascii_iterator" x t (by decide) (λA d=>Walks.strAscii d _ x t) (λA i s Q E d st hi f=>wpAny_pyNext_ascii_end d st (by simp;exact hi) f) (λA i s Q E st f=>wpAny_pyIter_striter_ascii st f),⟨_,dJ _ rfl,rfl,rfl⟩,k,m _ eM id M1 _ H1 q e1 g (Jo x e1)⟩
noncomputable def ze (to:ar)(t:bX):ar:=λσ M Q=>to σ M λx M1=>match x with
 | .ref p=>(∃ys,M1 p=some (.lst ys))/\t σ M1 λrs M2=>∃ys y,rs= [y]/\M2 p=some (.lst ys)/\ys.length<sizeLine/\Q .aq (put M2 p (.lst (ys++ [y])))
 |_=>False
theorem UK{o e:Expr}{t:bX}{c a:Pos}(ho:aj X o to)(z:fI X [e] t)
 (d:attributeBase o "append" X.env (eval o X.env)=eval o X.env:=by rfl)
 (g:((backTo a (starEach [e] X.env)).all (λx=>!x.1)&&(backToKw a (keywordEach [] X.env)).all (λx=>x.1.isSome)&&decide ([e].length+([]:List Keyword).length+(if([]:List Keyword).isEmpty then 0 else 1)<30))=true:=by rfl)
 (f:(c.endLine==a.line)=true:=by rfl) (hs:starEach [e] X.env=(false,eval e X.env)::starEach [] X.env:=by rfl) (b:(backTo a (starEach [] X.env)).any (·.1)=false:=by rfl):
 aj X (.Call (.Attribute o "append" c) [e] [] a) (ze to t):=PE.imp (YG PySem.F.plainAttrs_list PySem.F.slot_list_append PySem.F.type_list_append Se ho z d g f hs b) λσ0 H Z h=>by
 obtain⟨u,M,Q,hs,I,F,A⟩:=h;refine⟨u,M,_,hs,I,F,λrx M1 x H1 q e1 r r1=>?_⟩
 cases rx with
 |ref p=>
  obtain⟨⟨ys,C⟩,q⟩:=q;simp only[Rep]at r1;subst r1;obtain⟨D,e0,r0⟩:=r p _ C;obtain⟨U,rfl,R⟩:=r0;refine⟨.inl ⟨rfl,_,dE.of e0⟩,u,M1,_,hs.ext e1,r,q,λrs Y vs m l w s L=>?_⟩
  obtain⟨W,y,rfl,i,J,l⟩:=l;obtain⟨v,rfl,N⟩:=L.one;obtain⟨E,n,O⟩:=s p _ i;obtain⟨k,rfl,j⟩:=O;have ex:Ext m (upd m p (.lst (k++ [v]))):=Ext.write n rfl;refine⟨p,k,v,rfl,rfl,n,by rw[<-j.length];exact J,A _ _ _ _ l ((e1.trans w).trans ex) (s.write i ⟨_,rfl,?_⟩) (by simp only[Rep])⟩
  exact(aa.ext ex _ _ j).append (aa.cons (Rep.ext ex _ _ N) aa.nil)
 |_=>exact(show False from q).elim
def Bw:LR->RM->ak->Prop:=λrs M Q=>match rs with
 | [.tup xs]=>Q (.ls xs) M
 | [.ls xs]=>Q (.ls xs) M
 |_=>False
theorem Zp:dm X (.type "list") (fE X.K Bw):=by
 intro a s n H i us k I w h;obtain⟨rs,M,Q,m,u,b,t⟩:=h;have f:∀p vs j,i= [.ref p]->(dE X.K H p vs∨bZ X.K H p vs)->aa X.K H j vs->Q (.ls j) M->wpAny (model X.prog X.w) X.A (call (.type "list") us) (EP X a n k) X.xe s:=by
  intro p vs j e c d b;subst e;refine aB (Qu a s n H _ us (λv r=>∃H1 p i,v= .ref p/\H1 p=none/\r=upd H1 p (.lst i)/\∀o,k (.ref p) (upd H1 p (.bj o (.lst i)))) I w ⟨p,vs,rfl,c,λl g=>⟨H,l,vs,rfl,g,rfl,λo=>?_⟩⟩) λ_ _ e=>frozen e
  exact t _ M _ _ b (Ext.new g) (u.new g) (j4 g d)
 unfold Bw at b;split at b
 . obtain⟨v,rfl,r1⟩:=m.one
   simp only[Rep]at r1;obtain⟨q,vs,rfl,c,d⟩:=r1;exact f q vs _ rfl (.inr c) d b
 . obtain⟨v,rfl,r1⟩:=m.one
   simp only[Rep]at r1;obtain⟨q,vs,rfl,c,d⟩:=r1;exact f q vs _ rfl (.inl c.sq) d b
 . exact b.elim
noncomputable def JE (fs:List (Addr×cu))(tx:ar)(t:bX):ar:=λσ M Q=>tx σ M λv M1=>match v with
 | .ref f=>∃sp,(f,sp)∈fs/\t σ M1 λrs M2=>sp rs M2 Q
 |_=>False
theorem VX{x:Str}{p pos:Pos}{e:Expr}{t:bX}{tx:ar}(i:List (Addr×cu))
 (A:∀q∈i,∃g n k,aN k X.A/\PySem.W.keepIn X.K (.ref q.1)=true/\Binds X.K g n []/\eW X.prog X.w X.K X.mg X.base fN k q.1 g n (gd X.K q.2)) (hx:aj X (.Name x p) tx) (C:fI X (e::es) t)
 (E:starEach (e::es) X.env=(false,eval e X.env)::starEach es X.env:=by rfl) (m:(backTo pos (starEach es X.env)).any (·.1)=false:=by rfl):aj X (.Call (.Name x p) (e::es) [] pos) (JE i tx t):=by
 intro a s b H w I h;obtain⟨u,M,Q,hs,O,N,J⟩:=h;refine wpAny_Call_Name_kw (aB (hx a s b H (λv H1=>∃f sp M1,v= .ref f/\(f,sp)∈i/\Ext H H1/\View X.K H1 M1/\t u M1 λrs d=>sp rs d Q) I ⟨u,M,_,hs,O,N,λrv M1 v H1 q e1 o r1=>?_⟩) λv W ⟨y,H1,I1,r1,q1⟩=>?_)
 . cases rv with
   |ref f=>simp only[Rep]at r1;obtain⟨sp,l,q⟩:=q;exact⟨f,sp,M1,r1,l,e1,o,q⟩
   |_=>exact(show False from q).elim
 . obtain⟨f,sp,M1,rfl,l,e1,o,q⟩:=q1
   cases r1;obtain⟨g,n,k,L,j,D,F⟩:=A _ l;refine zE (h₀:=X.base) I1.ok.mod.mz j (aB (C pos a W b H1 (λvs c=>gd X.K sp (vs++ []) c w (λ_ _ _=>False)) I1 ⟨u,M1,_,hs.ext e1,o,q,λrs d vs c R z Y U=>?_⟩) λus Z ⟨vs,c,I2,r,q⟩=>⟨I2.eL,?_⟩) E m
   . exact⟨rs,d,Q,by rw[oG];exact U,Y,R,J.ext (e1.trans z)⟩
   . exact vd F L D .nil qr I2 r q
end
theorem R9{P:Program}{vs:List (Key×Value)}(h:Pairs (dv P w) es vs):Pairs (optKind P w) es (vs.map λp=>(some p.1,p.2)):=by
 induction h with
 |nil=>exact .nil
 |cons a b _ ih=>exact .cons (kv:=(some _,_)) a b ih
theorem Gj:∀{l:List Key},l.Nodup->(l.map some).Nodup
 | [],_=>jW
 |a::r,h=>by
  obtain⟨c,d⟩:=ip.mp h;rw[bF];refine ip.mpr ⟨λm=>?_,Gj d⟩
  obtain⟨b,f,e⟩:=aP.mp m;cases e;exact c f
theorem T8{P:Program}{h:Heap}{a:Addr}{vs:List (Key×Value)}(d:h.DictOf (dv P w) a vs):h.DictOf (optKind P w) a (vs.map λp=>(some p.1,p.2)):=by
 obtain⟨o,c,b,f,g,i,j,l,m⟩:=d;refine⟨o,c,b,f,g,i,λe n=>?_,R9 l,?_⟩
 . obtain⟨k,r,s⟩:=j e n
   exact⟨some k,r,s⟩
 . rw[bG]
   have:((λx:Option Key×Value=>x.1) ∘ λp:Key×Value=>(some p.1,p.2))=some ∘ λp=>p.1:=rfl
   rw[this,<-bG];exact Gj m
theorem Vk{vs:List (Key×Value)}:valueAt (vs.map λp=>(some p.1,p.2)) (none:Option Key)=none:=by
 unfold valueAt;rw[il.mpr]
 . rfl
 . intro x hx
   obtain⟨p,_,rfl⟩:=aP.mp hx;simp
section
variable {X:Cx}
noncomputable def Bj (neg:Bool)(kvs:bP)(Q:ak):ak:=λk M1=>match fR k with
 |some key=>Q (.bl (if neg then !(et kvs key).isSome else(et kvs key).isSome)) M1
 |none=>False
def yk(kvs:bP)(Q:ak):ak:=λk M1=>match k with
 | .aq=>Q (.bl true) M1
 |k=>Bj true kvs Q k M1
def AM(kvs:bP)(te:ar):ar:=λσ M Q=>te σ M (yk kvs Q)
theorem PQ{x:Str}{e:Expr}{p:Pos}(T:KTab X.prog X.w X.K X.mg x kvs)(D:aj X e te)(E:Gl X x)(C:(x==("__debug__":Str))=false):
 PC X .NotIn e (.Name x p) (up X.K (AM kvs te)):=by
 obtain⟨a,vs,Z,J,m,A,F,L⟩:=T.ex;intro d s j H W I h;obtain⟨U,M,Q,i,O,N,o⟩:=h;refine aB (D d s j H (λv H1=>∃r M1,Rep X.K H1 r v/\Ext H H1/\View X.K H1 M1/\yk kvs Q r M1) I ⟨U,M,_,i,O,N,λr M1 v H1 q e w r1=>⟨r,M1,r1,e,w,q⟩⟩) λiv Y R=>?_;obtain⟨y,c,f,u,r,g,t,l,z,b⟩:=R
 refine qj f E J ?_ C;have dd:=A _ f.eL
 by_cases n:r= .aq
 . subst n
   have b:Q (.bl true) g:=b;have:y=V.aq:=by simpa only[Rep]using t
   subst this;have:iv=Value.none:=u;subst this;refine wpAny_notIn_of (knd:=optKind X.prog X.w) (k:=none) rfl m (T8 dd).mapOf ?_;rw[Vk];exact⟨.bl true,c,f.tok _,rfl,o _ g _ c b l z (by simp only[Rep])⟩
 . have b:Bj true kvs Q r g:=by
    cases r<;>first|exact b|exact aW rfl n
   unfold Bj at b;cases ek:fR r with
   |none=>rw[ek]at b;exact b.elim
   |some key=>
    rw[ek]at b;simp only at b;have:=qd ek t;subst this;refine wpAny_notIn_of (j9 u) m dd.mapOf ?_;rw[Rb F (L c)];exact⟨.bl (!(et kvs key).isSome),c,f.tok _,rfl,o _ g _ c b l z (by simp only[Rep];rfl)⟩
theorem RC{x:Str}{e:Expr}{p pos:Pos}(T:KTab X.prog X.w X.K X.mg x kvs)(c:aj X e te)(d:Gl X x:=by rfl)(b:(x==("__debug__":Str))=false:=by decide)(a:behindInMarks .NotIn (Expr.Name x p)=false:=by with_unfolding_all rfl):
 fb X (.Compare e [.NotIn] [.Name x p] pos) (mK (AM kvs te)):=PT.imp (Ba (PQ T c d b) a) λσ0 H k h=>by
 obtain⟨j,M,Q,hs,i,g,f⟩:=h;exact⟨j,M,_,hs,i,g,qi f⟩
end
theorem xn{K:ag}:∀{a:List (Str×RV)} {gs:List (Str×V)} {v:RV},aH K H a gs->a.lookup f=some v->∃u,gs.lookup f=some u/\Rep K H v u
 | [],gs,v,h,e=>by cases e
 |(g,x)::r,gs,v,h,e=>by
  obtain⟨u,t,rfl,b,c⟩:=h;rw[oS]at e;cases hb:f==g with
  |true=>rw[hb]at e;cases e;exact⟨u,by rw[oS,hb],b⟩
  |false=>
   rw[hb]at e;obtain⟨w,e1,r1⟩:=xn c e;exact⟨w,by rw[oS,hb];exact e1,r1⟩
theorem Ay{K:ag}:∀{a:List (Str×RV)} {gs:List (Str×V)},aH K H a gs->a.lookup f=none->gs.lookup f=none
 | [],gs,h,e=>by have b:gs= []:=h;subst b;rfl
 |(g,x)::r,gs,h,e=>by
  obtain⟨u,t,rfl,d,c⟩:=h;rw[oS]at e ⊢;cases hb:f==g with
  |true=>rw[hb]at e;cases e
  |false=>rw[hb]at e;exact Ay c e
def j7(f:Str)(v:RV):List (Str×RV)->List (Str×RV)
 | []=>[(f,v)]
 |(g,x)::r=>if g=f then(g,v)::r else(g,x)::j7 f v r
theorem Ax{K:ag}{v:RV}(a:Rep K H v u):∀{b:List (Str×RV)} {gs:List (Str×V)},aH K H b gs->aH K H (j7 f v b) (fQ f u gs)
 | [],gs,h=>by have d:gs= []:=h;subst d;exact⟨u,[],rfl,a,rfl⟩
 |(g,x)::r,gs,h=>by
  obtain⟨w,t,rfl,i,c⟩:=h;unfold j7 fQ
  by_cases e:g=f
  . rw[ai e,ai e];exact⟨u,t,rfl,a,c⟩
  . rw[ae e,ae e];exact⟨w,_,rfl,i,Ax a c⟩
theorem iR{K:ag}:∀{a:List (κ×RV)} {gs:List (κ×V)},aH K H a gs->a.length=gs.length
 | [],gs,h=>by have b:gs= []:=h;subst b;rfl
 |(g,x)::r,gs,h=>by
  obtain⟨w,t,rfl,d,c⟩:=h;rw[cY,cY,iR c]
section
variable {X:Cx}{o e value:Expr}{f:Str}{pos pos':Pos}{ta tv:ar}{C:Addr}
noncomputable def OT (C:Addr)(f:Str)(ta:ar):ar:=λσ M Q=>ta σ M λx M1=>match x with
 | .ref a=>∃fs v,M1 a=some (.ins C fs)/\fs.lookup f=some v/\Q v M1
 |_=>False
theorem OK(hc:cZ X.K C)(hn:aZ X.K C f)(he:aj X e ta)(hb:attributeBase e f X.env (eval e X.env)=eval e X.env:=by rfl):aj X (.Attribute e f pos) (OT C f ta):=PE.imp (WU he hb) λσ0 H Q0 h=>by
 obtain⟨σ,M,Q,hs,hv,ht,hk⟩:=h;refine⟨σ,M,_,hs,hv,ht,λrx M1 x H1 q e1 v1 r1=>?_⟩
 cases rx with
 |ref a=>
  obtain⟨fs,v,hm,hl,q⟩:=q;simp only[Rep]at r1;subst r1;obtain⟨ho,eo,dx,gs,rfl,hg⟩:=v1 a _ hm;obtain⟨u,hu,ru⟩:=xn hg hl;exact⟨a,C,dx,gs,u,rfl,eo,hc,hn,hu,hk _ M1 _ H1 q e1 v1 ru⟩
 |_=>exact(show False from q).elim
noncomputable def Yv (C:Addr)(f:Str)(ta tv:ar):d9:=λD c M=>tv c M λy M1=>ta c M1 λx d=>match x with
 | .ref a=>∃b,d a=some (.ins C b)/\b.length<1000/\D.nx c (put d a (.ins C (j7 f y b)))
 |_=>False
theorem N9(hc:cZ X.K C)(hn:aZ X.K C f)(ha:aj X o ta)(hv:aj X value tv)(hs:swapsWith value (some (.Attribute o f pos')) pos.line X.env=pure false:=by rfl):fy X (.Assign [.Attribute o f pos'] value pos) (Yv C f ta tv):=PS.imp (WK ha hv hs) λD0 σ0 H h=>by
 obtain⟨σ,M,D,hs,hv,ht,hd⟩:=h;refine⟨σ,M,_,hs,hv,ht,λry M1 y H1 q e1 v1 r1=>⟨σ,M1,_,hs.ext e1,v1,q,λrx M2 x H2 q2 e2 v2 r2=>?_⟩⟩
 cases rx with
 |ref a=>
  obtain⟨fs,hm,hl,q2⟩:=q2;simp only[Rep]at r2;subst r2;obtain⟨ho,eo,dx,gs,rfl,hg⟩:=v2 a _ hm;have ex:Ext H2 (upd H2 a (.ins C dx (fQ f y gs))):=Ext.write eo rfl;refine⟨a,C,dx,gs,rfl,eo,hc,hn,by rw[<-iR hg];exact hl,hd.nx σ _ _ _ q2 ((e1.trans e2).trans ex) (v2.write hm ⟨dx,_,rfl,?_⟩) (hs.ext ((e1.trans e2).trans ex))⟩
  exact Ax (Rep.ext (e2.trans ex) _ _ r1) (hg.ext ex)
 |_=>exact(show False from q2).elim
end
section
variable {K:ag}{H:Hp}{k:Key}{v:RV}{u:V}
theorem HQ:∀{a:List (κ×RV)} {ws:List (κ×V)} {ys:List (κ×RV)} {zs:List (κ×V)},aH K H a ws->aH K H ys zs->aH K H (a++ys) (ws++zs)
 | [],ws,ys,zs,h,t=>by have b:ws= []:=h;subst b;exact t
 |(j,x)::r,ws,ys,zs,h,t=>by
  obtain⟨w,e,rfl,c,d⟩:=h;exact⟨w,_,rfl,c,HQ d t⟩
end
section
variable {X:Cx}{o i value:Expr}{pos pos':Pos}{td ty tv:ar}
def Kg:ar:=λ_ M Q=>∀p,M p=none->Q (.ref p) (put M p (.dk []))
theorem Y6:aj X (.Dict [] [] pos) Kg:=PE.imp TV λσ0 H e h=>by
 obtain⟨f,M,Q,hs,b,d,c⟩:=h;intro p a;exact c _ _ _ _ (d p (b.free a)) (Ext.new a) (b.cj a ⟨[],rfl,rfl⟩) (by simp only[Rep])
def atKey(M:RM)(x y:RV)(P:Addr->bP->Key->Prop):Prop:=match x with
 | .ref a=>(match M a with|some (.dk kvs)=>(match fR y with|some k=>P a kvs k|none=>False)|_=>False)
 |_=>False
end
section
variable {X:Cx}{x m:Str}{p pos apos:Pos}{o e:Expr}{es:aV}{t:bX}{ta:ar}{k:Nat}{ps:aE}{sp:cu}{C g:Addr}{fd:FuncData}
noncomputable def vk (C:Addr)(m:Str)(sp:cu)(ta:ar)(t:bX):ar:=λσ M Q=>ta σ M λx M1=>match x with
 | .ref a=>∃fs,M1 a=some (.ins C fs)/\fs.lookup m=none/\t σ M1 λrs M2=>sp (.ref a::rs) M2 Q
 |_=>False
theorem Sh(h:up X.K (vk C m sp ta t) σ0 H Q0):Bt C m (gd X.K sp) [] (λ_ _ _=>False) (up X.K ta) (Cg X.K t) σ0 H Q0:=by
 obtain⟨σ,M,Q,hs,hv,ht,hk⟩:=h;refine⟨σ,M,_,hs,hv,ht,λrx M1 x H1 q e1 v1 r1=>?_⟩
 cases rx with
 |ref a=>
  obtain⟨fs,hm,hl,q⟩:=q;simp only[Rep]at r1;subst r1;obtain⟨ho,eo,dx,gs,rfl,hg⟩:=v1 a _ hm;refine⟨a,dx,gs,rfl,eo,Ay hg hl,σ,M1,_,hs.ext e1,v1,q,λrs M2 vs H2 q2 e2 v2 r2=>?_⟩
  exact⟨.ref a::rs,M2,Q,by rw[oG];exact aa.cons (by simp only[Rep]) r2,v2,q2,hk.ext (e1.trans e2)⟩
 |_=>exact(show False from q).elim
theorem Y3{pl:Sem Bool}(l:aj X o ta)(c:cZ X.K C)(n:Meth X.K C m g)(F:eW X.prog X.w X.K X.mg X.base fN k g fd ps (gd X.K sp))(r:aN k X.A)(j:Binds X.K fd ps [])(i:fI X (e::es) t)
 (b:starEach (e::es) X.env=(false,eval e X.env)::starEach es X.env:=by rfl) (a:(backTo pos (starEach es X.env)).any (·.1)=false:=by rfl)
 (s:eval (.Call (.Attribute o m apos) (e::es) [] pos) X.env=(do
  let d<-eval o X.env
  standAt apos.atName
  let(f,first) <-holding [d] (getMethod d m pl)
  callWith pos f first (backTo pos (starEach (e::es) X.env)) (backToKw pos (keywordEach [] X.env))):=by rfl):
 aj X (.Call (.Attribute o m apos) (e::es) [] pos) (vk C m sp ta t):=PE.imp (U7 l c n F r j .nil qr i b a s) λσ0 H u h=>Sh h
noncomputable def sg (C:Addr)(sp:cu)(t:bX):ar:=λσ M Q=>t σ M λrs M1=>∀a,M1 a=none->sp (.ref a::rs) (put M1 a (.ins C [])) (λv M2=>v= .aq/\Q (.ref a) M2)
theorem Y4{h0:Nat}(f:Mk X.K C g)(F:eW X.prog X.w X.K X.mg X.base fN k g fd ps (gd X.K sp))(O:aN (k+1) X.A)(N:X.mg x=some (.ref C))(E:Binds X.K fd ps [])(D:fI X (e::es) t)(J:Gl X x:=by rfl)(j:(x==("__debug__":Str))=false:=by decide)
 (I:starEach (e::es) X.env=(false,eval e X.env)::starEach es X.env:=by rfl) (l:(backTo pos (starEach es X.env)).any (·.1)=false:=by rfl):aj X (.Call (.Name x p) (e::es) [] pos) (sg C sp t):=PE.imp (U8 f F O J N E .nil qr D j I l) λσ0 H Q0 h=>by
 obtain⟨Z,M,Q,hs,U,R,L⟩:=h;refine⟨Z,M,_,hs,U,R,λrs M1 vs H1 q e1 w r1 a b r s W=>?_⟩
 have i:Ext H1 (upd H1 b (.own a)):=Ext.new s;have d:(upd H1 b (.own a)) a=none:=by rw[au (aY W)];exact r
 have c:Ext H1 (upd (upd H1 b (.own a)) a (.ins C b [])):=i.trans (Ext.new d);refine⟨.ref a::rs,put M1 a (.ins C []),_,by rw[oG];exact aa.cons (by simp only[Rep]) (aa.ext c _ _ r1),(w.new s).cj d ⟨b,[],rfl,rfl⟩,q a (w.free r),λrv z v y n A Y u=>?_⟩
 obtain⟨rfl,n⟩:=n;simp only[Rep]at u;exact⟨u,L _ z _ y n ((e1.trans c).trans A) Y (by simp only[Rep])⟩
end
section
variable {X:Cx}{o e f:Expr}{apos cpos:Pos}{td ty tx:ar}
def Yw:LR->RM->ak->Prop:=λrs M Q=>∃a b,rs= [.ref a]/\M a=some (.dk b)/\Q (.int b.length) M
theorem Zr:dm X (.builtin "len") (fE X.K Yw):=by
 intro b s u H w us d I n h;obtain⟨rs,M,Q,r,c,⟨a,m,rfl,k,l⟩,j⟩:=h;obtain⟨v,rfl,r1⟩:=r.one;simp only[Rep]at r1;subst r1;obtain⟨ho,g,t,rfl,i⟩:=c a _ k;exact Sx b s u H _ us d I n ⟨a,t,rfl,g,j _ M _ H l (.refl H) c (by simp only[Rep];rw[iR i])⟩
end
section
variable {X:Cx}{m:Str}{p pos apos:Pos}{o a b tg:Expr}{ta t1 t2:ar}{k:Nat}{ps:aE}{sp:cu}{C g:Addr}{fd:FuncData}
theorem Wl{pl:Sem Bool}(he:aj X o ta)(c:cZ X.K C)(hm:Meth X.K C m g)(F:eW X.prog X.w X.K X.mg X.base fN k g fd ps (gd X.K sp))(hr:aN k X.A)(hb:Binds X.K fd ps [])
 (ht:eval (.Call (.Attribute o m apos) [] [] pos) X.env=(do
  let ov<-eval o X.env
  standAt apos.atName
  let(f,first) <-holding [ov] (getMethod ov m pl)
  callWith pos f first (backTo pos (starEach [] X.env)) (backToKw pos (keywordEach [] X.env))):=by rfl):
 aj X (.Call (.Attribute o m apos) [] [] pos) (vk C m sp ta mV):=PE.imp (TN he c hm F hr hb .nil qr ht) λσ0 H Q0 h=>by
 obtain⟨σ,M,Q,hs,hv,ht,hk⟩:=h;refine⟨σ,M,_,hs,hv,ht,λrx M1 x H1 q e1 v1 r1=>?_⟩
 cases rx with
 |ref a=>
  obtain⟨fs,hm,hl,q⟩:=q;simp only[Rep]at r1;subst r1;obtain⟨ho,eo,dx,gs,rfl,hg⟩:=v1 a _ hm;exact⟨a,dx,gs,rfl,eo,Ay hg hl,[.ref a],M1,Q,aa.cons (by simp only[Rep]) aa.nil,v1,q,hk.ext e1⟩
 |_=>exact(show False from q).elim
def yg(c:Int)(n:Nat):LR:=(List.range n).map λ(i:Nat)=>RV.int (c+(i:Int))
end
section
variable {prog:Program}{w:World}{A:Around}{E:aX}{s:Shared}
theorem HC:∀{vs:az} {ns:List Int},vs.length=ns.length->(∀(j:Nat) v,vs[j]? =some v->∃t,v= .int (ns.getD j 0) t)->IntsAre vs ns
 | [],[],_,_=>.nil
 |v::vs,n::ns,hl,h=>by
  obtain⟨t,e⟩:=h 0 v rfl;have e:v= .int n t:=e;subst e;exact .cons _ _ (HC (by simpa using hl) λj u a=>h (j+1) u (by simpa using a))
theorem Qi{ns:List Int}(hh:A.handled=none)(hd:s.heap.DictOf (dv prog w) d kvs)(lo:(d==sysModules)=false)(hk:kvs.map (·.1)=ns.map Sum.inl)(i:ns.length<64)
 (h:∀(B:Addr) (h':Heap) (tk e:Nat) (vs':az) (c:List Int),(∀b o,s.heap.get? b=some o->h'.get? b=some o)->s.heap.get? B=none->h'.get? B=some { cls:=.type "list",data:=.seq vs'.toArray e }->IntsAre vs' c->c.Perm ns->c.Pairwise (. <= ·)->Q (.ref B) { s with heap:=h',toks:=tk }):
 wpAny (model prog w) A (call (.builtin "sorted") [.ref d]) Q E s:=by
 have r:kvs.length=ns.length:=by have:=congrArg List.length hk;simpa using this
 obtain⟨o,N,ep,O,R,U,W,X,Y⟩:=id hd;have y:s.heap.DictAt (dv prog w) d kvs ep:=⟨o,N,O,R,U,W,X,Y⟩;refine Calls.call_function_entry kind_sorted plain_sorted entry_sorted (args_sorted1 (.ref d)) ?_;unfold Builtin.«sorted»;refine ah (m:=checkCount "sorted" 1 1 _) (aD ?_);refine ah (PySem.W.kdu_collect (A:=A.in1) (PySem.W.kdl_dict (knd:=dv prog w) (kvs:=kvs) (ep:=ep) lo) hh y (by rw[r];exact cq (oK i) (by decide)) λg tk a D f=>?_)
 have C:a.toList.length=ns.length:=by rw[Array.length_toList,f.1,r]
 have Z:IntsAre a.toList ns:=HC C λj v e=>by
  obtain⟨k,x,hx,z⟩:=f.2 j v (by rw[<-Array.getElem?_toList];exact e)
  have n:(kvs.map (·.1))[j]? =some k:=by rw[gm,hx];rfl
  rw[hk,gm]at n;cases q:ns[j]? with
  |none=>rw[q]at n;cases n
  |some m=>
   rw[q]at n;have M:(Sum.inl m:Key)=k:=d0 n;subst M;obtain⟨t,rfl⟩:=Value.isInt_shape (show Value.isInt m v=true from z)
   refine⟨t,?_⟩;rw[List.getD_eq_getElem?_getD,q];rfl
 refine ah (wpAny_newList ?_ (by rw[C];exact cq (oK i) (by decide)))
 have l:(g.push { cls:=.type "list",data:=.seq a.toList.toArray }).get? g.objs.size=some (seqObj "list" a.toList.toArray 0):=dJ _ rfl;refine ah (kq (ja PyProof.Rows.slot_list_sort ⟨_,l,rfl⟩ PyProof.Rows.entry_list_sort (list_sort_tree (s:={ s with heap:=g.push { cls:=.type "list",data:=.seq a.toList.toArray },toks:=tk }) l Z (by rw[C];exact i) λout c I J L=>⟨_,rfl,?_⟩) (args_list_sort _)))
 obtain⟨e,he⟩:=sortedHeap_at (out:=out) l;refine aD ⟨_,rfl,h g.objs.size _ tk e out.toList c (λb o' q=>?_) ?_ (by rw[Array.toArray_toList];exact he) I J L⟩
 . have F:=D b o' q
   have H:b<g.objs.size:=bJ F;rw[sortedHeap_old (cX H) (by rw[size_push'];exact kg H)]
   exact bK _ F
 . cases q:s.heap.get? g.objs.size with
   |none=>rfl
   |some u=>exact aW (bJ (D _ u q)) (km _)
end
theorem Sd{P:Program}{a:Addr}(x:aG P w H h a o):∃u,h.get? a=some u:=by
 cases o with
 |lst xs=>obtain⟨_,_,_,_,e⟩:=x;exact⟨_,e⟩
 |tup xs=>obtain⟨_,_,_,o,e,_⟩:=x;exact⟨o,e⟩
 |dK kvs=>obtain⟨_,_,_,_,o,_,_,e,_⟩:=x;exact⟨_,e⟩
 |dT kvs=>obtain⟨_,_,_,_,o,_,_,e,_⟩:=x;exact⟨_,e⟩
 |set S n=>obtain⟨o,_,_,_,e,_⟩:=x;exact⟨_,e⟩
 |ins C dx fs=>obtain⟨_,_,_,e,_⟩:=x;exact⟨_,e⟩
 |own y=>obtain⟨_,e⟩:=x;exact⟨_,e⟩
 |xd fs=>obtain⟨_,⟨_,_,_,e,_⟩,_⟩:=x;exact⟨_,e⟩
 |zw lo hi=>obtain⟨_,_,_,e⟩:=x;exact⟨_,e⟩
 |bj ob u=>obtain⟨e,_⟩:=x;exact⟨_,e⟩
 |oC ps=>exact⟨_,(show h.get? a=some _ from x)⟩
 |met f y=>exact⟨_,(show h.get? a=some _ from x)⟩
 |ext φ=>obtain⟨_,⟨_,e⟩,_⟩:=x;exact⟨_,e⟩
section
variable {X:Cx}{pins:aJ}{σ:L2.St}{H:Hp}{s:Shared}{h':Heap}{a:Addr}{o:HO}
theorem none_of(I:Inv X pins σ H s)(b:s.heap.get? a=none):H a=none:=by
 cases q:H a with
 |none=>rfl
 |some u=>
  obtain⟨v,e⟩:=Sd (I.av a u q);rw[b]at e;cases e
theorem ZF(I:Inv X pins σ H s)(k:∀b u,s.heap.get? b=some u->h'.get? b=some u)(g:s.heap.get? a=none)(d:aG X.prog X.w (upd H a o) h' a o):Inv X pins σ (upd H a o) { s with heap:=h',toks:=t' }:=by
 have hn:=none_of I g;have i:∀b u,s.heap.get? b=some u->b≠a:=λb u e z=>by rw[z,g]at e;cases e
 refine I.un ⟨λb u q _ _ _=>k b u q,λb u q _ _ _=>⟨u.slots,k b u q⟩,λb u q n _=>by rw[au (i b u q)];exact n,λb u q _=>⟨u,k b u q⟩,λb h q=>by rw[au (fh q hn)];exact q,λb u h q=>by rw[au (fh q hn)];exact q,λb j q=>⟨#[],by rw[au (fh q hn),q];simp⟩⟩ λb u e=>?_
 by_cases f:b=a
 . subst f;rw[bO]at e;cases e;exact d
 . rw[au f]at e
   exact(I.av b u e).fj (λc v _ q=>k c v q) (λc q=>by rw[au (fh q hn)];exact q) λc h q=>by rw[au (fh q hn)];exact q
end
theorem bW:∀{vs:az} {ns:List Int},IntsAre vs ns->Vals (ns.map V.int) vs
 |_,_,.nil=>.nil
 |_,_,.cons _ t r=>.cons ⟨t,rfl⟩ (bW r)
theorem Aw{K:ag}:∀(ns:List Int),aa K H (ns.map RV.int) (ns.map V.int)
 | []=>aa.nil
 |n::r=>aa.cons (by simp only[Rep]) (Aw r)
theorem AA{K:ag}:∀{a:List (κ×RV)} {ws:List (κ×V)},aH K H a ws->a.map (·.1)=ws.map (·.1)
 | [],ws,h=>by have b:ws= []:=h;subst b;rfl
 |(j,x)::r,ws,h=>by
  obtain⟨w,t,rfl,d,c⟩:=h;rw[bF,bF,AA c]
theorem ID:∀{a:List (κ×V)} {vs:List (κ×Value)},KV a vs->a.map (·.1)=vs.map (·.1)
 |_,_,.nil=>rfl
 |_,_,.cons r t=>by rw[bF,bF,r.1,ID t]
section
variable {X:Cx}
noncomputable def JA:LR->RM->ak->Prop:=λrs M Q=>∃a c ns,rs= [.ref a]/\M a=some (.dk c)/\c.map (·.1)=ns.map Sum.inl/\ns.length<64/\∀b:List Int,b.Perm ns->b.Pairwise (. <= ·)->Q (.ls (b.map RV.int)) M
theorem Ua(z:X.calm=true):dm X (.builtin "sorted") (fE X.K JA):=by
 intro n s W H U us N I L h;obtain⟨rs,M,Q,o,l,g,C⟩:=h;obtain⟨a,J,ns,rfl,E,f,c,g⟩:=g;simp only[aa,Rep]at o;obtain⟨v,r,rfl,rfl,rfl⟩:=o;obtain⟨u,rfl,ru⟩:=vals1 L;cases ru;obtain⟨ho,w,t,rfl,A⟩:=l a _ E;obtain⟨R,y,vs,r,m⟩:t.length<=sizeLine/\(a==sysModules)=false/\∃vs,KV t vs/\s.heap.DictOf (dv X.prog X.w) a vs:=I.av a _ w;refine Qi (I.ok.hd z) m y (by rw[<-ID r,<-AA A];exact f) c λB O tk e i b F j d x k ho=>?_
 have hn:=none_of I j;have D:b.length<=sizeLine:=by rw[k.length_eq];exact cq (oK c) (by decide)
 refine frozen ⟨.ref B,upd H B (.lst (b.map V.int)),ZF I F j ⟨by rw[bo];exact D,i,e,bW x,d⟩,rfl,H,B,_,rfl,hn,rfl,λo=>?_⟩
 exact C _ M _ _ (g b k ho) (Ext.new hn) (l.new hn) (j4 hn (Aw b))
def Kp:LR->RM->ak->Prop:=λrs M Q=>match rs with
 | [.int i,.int j]=>Q (.int (if j > i then j else i)) M
 |_=>False
theorem Oz(e:X.calm=true):dm X (.builtin "max") (fE X.K Kp):=by
 intro a s l H o us d I k h;obtain⟨rs,M,Q,c,g,b,f⟩:=h
 match rs,b with
 | [.int i,.int j],b=>
  simp only[aa,Rep]at c;obtain⟨v,r,rfl,rfl,n,m,rfl,rfl,rfl⟩:=c;exact Sw e a s l H _ us d I k ⟨i,j,rfl,f _ M _ H b (.refl H) g (by simp only[Rep])⟩
end
open PySem.W
section
variable {X:Cx}{pins:aJ}{σ:L2.St}{H:Hp}{s:Shared}
def fP(M:RM):RV->RV
 | .ref a=>(match M a with|some (.lst xs)=>.ls xs|_=>.ref a)
 |x=>x
theorem Jl(I:Inv X pins σ H s){n:Nat}:∀{rs:LR} {vs:LV} {us:az},rs.all (aF n)=true->aa X.K H rs vs->Vals vs us->aC s.heap rs us
 | [],vs,us,_,r,w=>by
  have e:vs= []:=by simpa only[aa]using r
  subst e;cases w;simp only[aC]
 |x::rs,vs,us,o,r,w=>by
  rw[fS,bg]at o;simp only[aa]at r;obtain⟨v,c,rfl,r1,b⟩:=r;obtain⟨u,a,rfl,d,f⟩:=Vals.cons_inv w;simp only[aC];exact⟨u,a,rfl,jI I n x v u o.1 r1 d,Jl I o.2 b f⟩
theorem yl(I:Inv X pins σ H s)(d:View X.K H M){a:RV}{x:V}{v:Value}(o:aF 16 (fP M a)=true)(ra:Rep X.K H a x)(b:RelV x v):Den s.heap (fP M a) v:=by
 cases a with
 |ref p=>
  cases q:M p with
  |none=>rw[show fP M (.ref p)= .ref p by simp only[fP,q]]at o;cases o
  |some ob=>
   cases ob with
   |lst xs=>
    have e:fP M (.ref p)= .ls xs:=by simp only[fP,q]
    rw[e]at o ⊢;simp only[Rep]at ra;subst ra;cases b;obtain⟨ho,e0,vs,rfl,c⟩:=d p _ q;obtain⟨ab,rv,pl,f⟩:=I.list (dE.of e0);simp only[Den];exact⟨p,ab,rfl,pl.isList,Jl I (n:=15) o c rv⟩
   |_=>rw[show fP M (.ref p)= .ref p by simp only[fP,q]]at o;cases o
 |_=>exact jI I 16 _ x v o ra b
def Er:cM:=λx y M Q=>aF 16 (fP M x)=true/\aF 16 (fP M y)=true/\Q (.bl (bh (fP M x) (fP M y))) M
def Eg:cM:=λx y M Q=>aF 16 (fP M x)=true/\aF 16 (fP M y)=true/\Q (.bl (!bh (fP M x) (fP M y))) M
theorem Oi(k:X.A.units+64<cLine):dz X (compareOp .Eq) Er:=by
 intro pins s σ H x y v u j I g i h;obtain⟨a,b,M,Q,ra,rb,c,⟨o1,d,f⟩,e⟩:=h;exact Sr 15 _ _ X.A s v u o1 d (yl I c o1 ra g) (yl I c d rb i) (by omega) _ _ _ _ ⟨.bl _,H,I,rfl,e _ M _ H f (.refl H) c (by simp only[Rep])⟩
theorem OX(k:X.A.units+64<cLine):dz X (compareOp .NotEq) Eg:=by
 intro pins s σ H x y v u j I g i h;obtain⟨a,b,M,Q,ra,rb,c,⟨o1,d,f⟩,e⟩:=h;exact Rh 15 _ _ X.A s v u o1 d (yl I c o1 ra g) (yl I c d rb i) (by omega) _ _ _ _ ⟨.bl _,H,I,rfl,e _ M _ H f (.refl H) c (by simp only[Rep])⟩
end
section
variable {X:Cx}
noncomputable def yL:List (Str×ar)->bD->RM->(bP->RM->Prop)->Prop
 | [],_,M,Q=>Q [] M
 |(k,tv)::r,σ,M,Q=>tv σ M λy M2=>yL r σ M2 λps M3=>Q ((Sum.inr k,y)::ps) M3
def v9(X:Cx)(pos:Pos)(ks:List (Option Expr))(vs:aV)(kvs:List (Str×ar)):Prop:=
 ∃trs,nj X pos ks vs trs/\∀σ0 H (Q0:List (V×V)->Hp->Prop) σ M Q,aR X.K H σ σ0->View X.K H M->yL kvs σ M Q->
  (∀ps M' ws H',Q ps M'->Ext H H'->View X.K H' M'->aH X.K H' ps ws->ps.map (·.1)=kvs.map (λp=>(Sum.inr p.1:Key))->Q0 (ws.map λkv=>(kV kv.1,kv.2)) H')->vb trs σ0 H Q0
theorem Nh:v9 X pos [] [] []:=⟨[],Il,λσ0 H b c M Q hs a h k=>k [] M [] H h (.refl H) a rfl rfl⟩
theorem XY{pos p:Pos}{x:Str}{v:Expr}{ks:List (Option Expr)}{vs:aV}(hv:aj X v tv)(hr:v9 X pos ks vs kvs):
 v9 X pos (some (.Constant (.str x) j p)::ks) (v::vs) ((x,tv)::kvs):=by
 obtain⟨trs,h1,h2⟩:=hr;refine⟨_,HU Bk hv h1,λσ0 H Q0 σ M Q hs hw h k=>?_⟩
 refine⟨σ,M,_,hs,hw,h,λry M1 y H1 q e1 v1 r1=>?_⟩
 refine h2 σ0 H1 _ σ M1 _ (hs.ext e1) v1 q λps M' ws H' q' e' v' r' ek=>?_
 exact k _ M' ((Sum.inr x,y)::ws) H' q' (e1.trans e') v' ⟨y,ws,rfl,Rep.ext e' _ _ r1,r'⟩ (by rw[bF,bF,ek])
noncomputable def Kf (kvs:List (Str×ar)):ar:=λσ M Q=>∀p,M p=none->yL kvs σ (put M p (.dk [])) λps M2=>M2 p=some (.dk [])/\Q (.ref p) (put M2 p (.dk ps))
theorem Y7(h:v9 X pos keys values kvs)(jd:(kvs.map (·.1)).Nodup)(hlen:kvs.length<=15)(hall:keys.all (·.isSome)=true:=by rfl)(hl:keys.length=values.length:=by rfl)(h0:keys≠[])
 (h15:keys.length<=15):aj X (.Dict keys values pos) (Kf kvs):=by
 obtain⟨trs,h1,h2⟩:=h;refine PE.imp (IP h1 hall hl h0 h15) λσ0 H Q0 h=>?_
 obtain⟨σ,M,Q,hs,hv,ht,hk⟩:=h;intro p hp;refine h2 σ0 (upd H p (.dK [])) _ σ (put M p (.dk [])) _ (hs.ext (Ext.new hp)) (hv.cj hp ⟨[],rfl,rfl⟩) (ht p (hv.free hp)) λps M' ws H' q' e' v' r' ek=>?_
 obtain⟨hm,q'⟩:=q';obtain⟨ho,e0,ws2,rfl,g2⟩:=v' p _ hm;have hz:ws2= []:=g2;subst hz;have kk:ws.map (·.1)=kvs.map (λp=>(Sum.inr p.1:Key)):=by rw[<-AA r'];exact ek
 have kn:(ws.map Prod.fst).Nodup:=by
  have e:ws.map Prod.fst=(kvs.map (·.1)).map (Sum.inr:Str->Key):=by rw[bG];exact kk
  rw[e];exact xS jd
 have kl:ws.length=kvs.length:=by have:=congrArg List.length kk;simpa using this
 refine⟨e0,ws,rfl,by omega,?_⟩
 have em:j5 [] ws=ws:=Aq ws [] (by simpa using kn)
 rw[em];have ex:Ext H' (upd H' p (.dK ws)):=Ext.write e0 rfl;exact hk _ _ _ _ q' (((Ext.new hp).trans e').trans ex) (v'.write hm ⟨ws,rfl,r'.ext ex⟩) (by simp only[Rep])
noncomputable def tP (Q:ak):LR->RM->Prop:=λrs M=>match rs with
 | [.int i,.int j]=>(-1000000<=i/\i<=1000000/\-1000000<=j/\j<=1000000)/\(j-i).toNat<=1000/\Q (.ls (yg i (j-i).toNat)) M
 |_=>False
def JB(ta tb:ar):ar:=λσ M Q=>sh ta (sh tb mV) σ M (tP Q)
theorem GV(a:Int):∀(vs:az) (k:Nat),(∀(j:Nat) v,vs[j]? =some v->∃t,v= .int (a+((k+j:Nat):Int)) t)->Vals ((List.range' k vs.length).map λ(j:Nat)=>V.int (a+(j:Int))) vs
 | [],_,_=>.nil
 |v::vs,k,h=>by
  obtain⟨t,e⟩:=h 0 v rfl;rw[cY,List.range'_succ,bF];refine .cons ⟨t,e⟩ (GV a vs (k+1) λj u c=>?_)
  obtain⟨d,b⟩:=h (j+1) u (by simpa using c)
  refine⟨d,?_⟩;rw[b,show k+(j+1)=k+1+j by omega]
theorem GY{K:ag}(a:Int):∀(l:List Nat),aa K H (l.map λ(j:Nat)=>RV.int (a+(j:Int))) (l.map λ(j:Nat)=>V.int (a+(j:Int)))
 | []=>aa.nil
 |j::r=>aa.cons (by simp only[Rep]) (GY a r)
theorem boot_list:bootBuiltins "list" =some (.type "list"):=by decide+kernel
theorem VQ{a b:Expr}{p1 z c pos:Pos}(J:X.mg "list" =none)(L:X.mg "range" =none)(hc:X.calm=true)(ha:aj X a t1)(hb:aj X b t2)(E:Gl X "list")(F:Gl X "range")
 (N:starEach [a,b] X.env= [(false,eval a X.env),(false,eval b X.env)]:=by rfl) (n:starEach [b] X.env= [(false,eval b X.env)]:=by rfl)
 (C:starEach [a,b] X.env=(false,eval a X.env)::starEach [b] X.env:=by rfl) (D:starEach [b] X.env=(false,eval b X.env)::starEach [] X.env:=by rfl)
 (g:starEach [Expr.Call (.Name "range" z) [a,b] [] c] X.env=(false,eval (Expr.Call (.Name "range" z) [a,b] [] c) X.env)::starEach [] X.env:=by rfl):
 aj X (.Call (.Name "list" p1) [.Call (.Name "range" z) [a,b] [] c] [] pos) (JB t1 t2):=by
 intro u s Y H Q0 I h;obtain⟨σ,M,Q,hs,hv,ht,hk⟩:=h;have f:fI X [a,b] (sh t1 (sh t2 mV)):=yQ ha (yQ hb B1 D) C;refine Call_ (nN I E J boot_list (wu ?_ g rfl));rw[g];show wpAny _ _ (spliced ((false,eval (Expr.Call (.Name "range" z) [a,b] [] c) X.env)::backTo pos (starEach [] X.env))) _ _ s;refine Calls.spliced_cons (Call_ (nN I F L boot_range (wu (aB (f c u s Y H (λvs H1=>∃i j M1,vs= [V.int i,V.int j]/\tP Q [.int i,.int j] M1/\Ext H H1/\View X.K H1 M1) I ⟨σ,M,_,hs,hv,ht,λrs M1 vs H1 q e1 W r1=>?_⟩) λus w U=>?_) (by rw[N,n]) (by rw[n];rfl))))
 . unfold tP at q
   split at q
   . simp only[aa,Rep]at r1
     obtain⟨v,r,rfl,rfl,v',r',rfl,rfl,rfl⟩:=r1;exact⟨_,_,M1,rfl,q,e1,W⟩
   . exact q.elim
 . obtain⟨vs,H1,Z,rv,i,j,M1,rfl,q,e1,W⟩:=U
   obtain⟨u1,us1,rfl,U,rv⟩:=Vals.cons_inv rv;obtain⟨u2,us2,rfl,q2,rv⟩:=Vals.cons_inv rv;cases rv;obtain⟨x,rfl⟩:=U;obtain⟨y,rfl⟩:=q2;obtain⟨⟨b1,b2,b3,b4⟩,hn,q⟩:=q;refine call_range_2 ?_;have A:=Z.kept (h':=w.heap.push { cls:=.type "range",data:=.fields #[.int i x,.int j y,.int 1 w.toks] }) (t':=w.toks+1) (λb o e=>bK _ e)
   refine Calls.spliced_nil ?_;have O:Builtin.Range.rangeSize i j 1=((j-i).toNat:Int):=by rw[rangeSize_one];split<;>omega
   refine call_list_range (A.ok.hd hc) (IsRange.new w.heap i j 1 x y w.toks) (small_one (by omega) (by omega) (by omega) (by omega)) O (by omega) λh' tk d c' kp l m=>?_
   have fu:=A.av.fresh (aU _);have R:Vals ((List.range (j-i).toNat).map λ(k:Nat)=>V.int (i+(k:Int))) d.toList:=by
    have:=GV i d.toList 0 λk v e=>by
     obtain⟨t,e'⟩:=m.2 k v (by rw[<-Array.getElem?_toList];exact e)
     exact⟨t,by rw[e'];simp⟩
    rw[Array.length_toList,m.1]at this;rw[List.range_eq_range'];exact this
   refine frozen ⟨.ref _,_,A.laid kp (aU _) (o:=.lst ((List.range (j-i).toNat).map λ(k:Nat)=>V.int (i+(k:Int)))) ⟨by rw[bo,zG];exact cq hn (by decide),d.toList,c',R,by rw[Array.toArray_toList];exact l⟩,rfl,H1,_,_,rfl,fu,rfl,λo=>?_⟩
   exact hk _ M1 _ _ q (e1.trans (Ext.new fu)) (W.new fu) (j4 fu (GY i _))
end
structure sZ(P:Program)(w:World)(K:ag)(mg:bC)(base:Heap)(C:Addr)(k:Nat)(m:Str)(ps:aE)(sp:cu):Prop where
 ex:∃(g:Addr) (fd:FuncData),Meth K C m g/\Binds K fd ps []/\eW P w K mg base fN k g fd ps (gd K sp)
structure zK(P:Program)(w:World)(K:ag)(mg:bC)(base:Heap)(C:Addr)(k:Nat)(ps:aE)(sp:cu):Prop where
 ex:∃(g:Addr) (fd:FuncData),Mk K C g/\Binds K fd ps []/\eW P w K mg base fN k g fd ps (gd K sp)
section
variable {X:Cx}{x m:Str}{p pos apos:Pos}{o e:Expr}{es:aV}{t:bX}{ta:ar}{k:Nat}{ps:aE}{sp:cu}{C:Addr}
theorem Wk{pl:Sem Bool}(F:sZ X.prog X.w X.K X.mg X.base C k m ps sp)(c:cZ X.K C)(n:aN k X.A)(j:aj X o ta)(h:fI X (e::es) t)
 (b:starEach (e::es) X.env=(false,eval e X.env)::starEach es X.env:=by rfl) (a:(backTo pos (starEach es X.env)).any (·.1)=false:=by rfl)
 (r:eval (.Call (.Attribute o m apos) (e::es) [] pos) X.env=(do
  let d<-eval o X.env
  standAt apos.atName
  let(f,first) <-holding [d] (getMethod d m pl)
  callWith pos f first (backTo pos (starEach (e::es) X.env)) (backToKw pos (keywordEach [] X.env))):=by rfl):
 aj X (.Call (.Attribute o m apos) (e::es) [] pos) (vk C m sp ta t):=by
 obtain⟨g,s,l,i,F⟩:=F.ex;exact Y3 j c l F n i h b a r
theorem UH{pl:Sem Bool}(F:sZ X.prog X.w X.K X.mg X.base C k m ps sp)(c:cZ X.K C)(i:aN k X.A)(d:aj X o ta)
 (j:eval (.Call (.Attribute o m apos) [] [] pos) X.env=(do
  let a<-eval o X.env
  standAt apos.atName
  let(f,first) <-holding [a] (getMethod a m pl)
  callWith pos f first (backTo pos (starEach [] X.env)) (backToKw pos (keywordEach [] X.env))):=by rfl):
 aj X (.Call (.Attribute o m apos) [] [] pos) (vk C m sp ta mV):=by
 obtain⟨g,l,h,b,F⟩:=F.ex;exact Wl d c h F i b j
theorem Wm(F:zK X.prog X.w X.K X.mg X.base C k ps sp)(l:aN (k+1) X.A)(j:X.mg x=some (.ref C))(d:fI X (e::es) t)(i:Gl X x:=by rfl)(a:(x==("__debug__":Str))=false:=by decide)
 (h:starEach (e::es) X.env=(false,eval e X.env)::starEach es X.env:=by rfl) (b:(backTo pos (starEach es X.env)).any (·.1)=false:=by rfl):aj X (.Call (.Name x p) (e::es) [] pos) (sg C sp t):=by
 obtain⟨g,n,c,f,F⟩:=F.ex;exact Y4 (h0:=0) c F l j f d i a h b
end
section
variable {X:Cx}
noncomputable def Kq:LR->RM->ak->Prop:=λrs M Q=>match rs with
 | [.ref a,.ty T']=>T'= "list"/\(match M a with|some (.lst _)=>Q (.bl true) M|_=>False)
 |_=>False
theorem RL:dm X (.builtin "isinstance") (fE X.K Kq):=by
 intro d s F H D us y I l h;obtain⟨rs,M,Q,m,c,b,k⟩:=h;unfold Kq at b;split at b
 . rename_i a A
   obtain⟨rfl,b⟩:=b;obtain⟨v,w,rfl,r1,f⟩:=m.two;obtain⟨u,n,rfl,t,x⟩:=vals2 l;simp only[Rep]at r1 f;subst r1;subst f;obtain rfl:n=Value.type "list":=x;cases(show u=Value.ref a from t)
   split at b
   . rename_i E g
     obtain⟨ho,e,r⟩:=c a _ g;obtain⟨vs,rfl,C⟩:=r;obtain⟨ab,_,pt,_⟩:=I.list (dE.of e);obtain⟨o,i,j,_⟩:=pt.isList;exact qS PySem.W.kitx_list I.eL ⟨o,i,j⟩ (Ga X.K) (λz=>nomatch z) λtk=>⟨.bl true,H,I.tok tk,rfl,k _ M _ H b (.refl H) c (by simp only[Rep])⟩
   . exact b.elim
 . exact b.elim
end
abbrev TK:=List (Option Key)
noncomputable def zj:RV->Option (Option Key)
 | .aq=>some none
 | .int i=>some (some (.inl i))
 | .str x=>some (some (.inr x))
 |_=>none
noncomputable def sE:LR->Option TK
 | []=>some []
 |r::rs=>match zj r,sE rs with
  |some k,some ks=>some (k::ks)
  |_,_=>none
def cI:RV->Option TK
 | .tup rs=>sE rs
 |_=>none
noncomputable def Fj:List (TK×Str)->List (TK×Addr×Value)->Prop
 | [],[]=>True
 |(k,y)::r,(k',_,v)::r'=>k=k'/\(∃t,v= .str y t)/\Fj r r'
 |_,_=>False
structure BI(P:Program)(w:World)(K:ag)(mg:bC)(x:Str)(kvs:List (TK×Str)):Prop where
 ex:∃a xs,mg x=some (.ref a)/\(a==sysModules)=false/\(∀h:Heap,K.In h->h.DictOfH (tupleKind (optKind P w)) a xs)/\Fj kvs xs
section
variable {κ:Type}[DecidableEq κ]{K:ag}{H:Hp}{k:κ}{v:RV}{u:V}
noncomputable def lk(kvs:List (κ×α))(k:κ):Option α:=(kvs.find? λp=>decide (p.1=k)).map (·.2)
theorem fB{x:α}:lk ((j,x)::r) k=if j=k then some x else lk r k:=by
 unfold lk;rw[i7]
 by_cases h:j=k
 . rw[ai h,d8 (show(j,x).1=k from h)];rfl
 . rw[ae h,iq (show ¬(j,x).1=k from h)]
noncomputable def pt(kvs:List (κ×α))(k:κ)(v:α):List (κ×α):=
 if(kvs.any λkv=>decide (kv.1=k))=true then kvs.map (λkv=>if kv.1=k then(kv.1,v)else kv)else kvs++ [(k,v)]
theorem jD:∀{a:List (κ×RV)} {ws:List (κ×V)},aH K H a ws->(∀r,lk a k=some r->∃v,fK ws k=some v/\Rep K H r v)/\(lk a k=none->fK ws k=none)
 | [],ws,h=>by
  have h:ws= []:=h;subst h;exact⟨λr e=>(by cases e),λ_=>rfl⟩
 |(j,x)::t,ws,h=>by
  obtain⟨v,u,rfl,d,f⟩:=h;have c:=jD f;rw[fB]
  by_cases b:j=k
  . rw[ai b]
    refine⟨λr e=>⟨v,uE (p:=(j,v)) b,?_⟩,λe=>(by cases e)⟩
    cases e;exact d
  . rw[ae b]
    exact⟨λr e=>by rw[qa (p:=(j,v)) b];exact c.1 r e,λe=>by rw[qa (p:=(j,v)) b];exact c.2 e⟩
theorem Ha:∀{kvs:List (κ×RV)} {ws:List (κ×V)},aH K H kvs ws->(kvs.any λkv=>decide (kv.1=k))=ws.any λkv=>decide (kv.1=k)
 | [],ws,h=>by have h':ws= []:=h;subst h';rfl
 |(j,x)::r,ws,h=>by
  obtain⟨w,t,rfl,h1,h2⟩:=h;rw[jX,jX,Ha h2]
theorem Az(hv:Rep K H v u):∀{kvs:List (κ×RV)} {ws:List (κ×V)},aH K H kvs ws->aH K H (kvs.map λkv=>if kv.1=k then(kv.1,v)else kv) (ws.map λkv=>if kv.1=k then(kv.1,u)else kv)
 | [],ws,h=>by have h':ws= []:=h;subst h';rfl
 |(j,x)::r,ws,h=>by
  obtain⟨w,t,rfl,h1,h2⟩:=h;rw[bF,bF]
  by_cases e:j=k
  . rw[ai (show(j,x).1=k from e),ai (show(j,w).1=k from e)];exact⟨u,_,rfl,hv,Az hv h2⟩
  . rw[ae (show ¬(j,x).1=k from e),ae (show ¬(j,w).1=k from e)];exact⟨w,_,rfl,h1,Az hv h2⟩
theorem Iu(a:Rep K H v u)(h:aH K H kvs ws):aH K H (pt kvs k v) (putK ws k u):=by
 unfold pt putK;rw[Ha h];split
 . exact Az a h
 . exact HQ h ⟨u,[],rfl,a,rfl⟩
end
theorem S5{K:ag}{x:V}(e:zj r=some k)(h:Rep K H r x):x=oV k:=by
 cases r<;>first|(cases e;simp only[Rep]at h;exact h)|cases e
theorem HX{K:ag}:∀{rs:LR} {vs:LV} {ks:TK},sE rs=some ks->aa K H rs vs->vs=ks.map oV
 | [],vs,ks,e,h=>by cases e;exact h
 |r::rs,vs,ks,e,h=>by
  simp only[aa]at h;obtain⟨v,t,rfl,d,f⟩:=h;unfold sE at e;split at e
  . rename_i a b e1 c
    cases e;rw[S5 e1 d,HX c f];rfl
  . cases e
theorem yj{K:ag}{x:V}(e:cI r=some k)(h:Rep K H r x):∃b,x= .ref b/\H b=some (.tup (k.map oV)):=by
 cases r with
 |tup rs=>
  simp only[Rep]at h;obtain⟨a,vs,rfl,c,d⟩:=h;exact⟨a,rfl,by rw[c,HX e d]⟩
 |_=>cases e
noncomputable def sI (o:RO)(y:RV):Option (Option RV):=match o with
 | .dk kvs=>(fR y).map (lk kvs)
 | .dt kvs=>(cI y).map (lk kvs)
 | .fk kvs=>(fR y).map (lk kvs)
 | .ft kvs=>(cI y).map (lk kvs)
 |_=>none
def qZ(M:RM)(x y:RV):Option (Option RV):=match x with
 | .ref a=>(M a).bind (sI . y)
 |_=>none
def tL(M:RM)(x:RV):Prop:=match x with
 | .ref a=>match M a with
  |some (.dk _)=>True
  |some (.dt _)=>True
  |some (.fk _)=>True
  |some (.ft _)=>True
  |_=>False
 |_=>False
def tH(M:RM)(x y v:RV)(N:RM->Prop):Prop:=match x with
 | .ref a=>match M a with
  |some (.dk kvs)=>match fR y with
   |some k=>kvs.length<sizeLine/\N (put M a (.dk (pt kvs k v)))
   |none=>False
  |some (.dt kvs)=>match cI y with
   |some k=>kvs.length<sizeLine/\N (put M a (.dt (pt kvs k v)))
   |none=>False
  |_=>False
 |_=>False
section
variable {X:Cx}{M:RM}{H:Hp}{x y:RV}{vx vy:V}
theorem A4{K:ag}(hv:View K H M)(e:qZ M x y=some r)(rx:Rep K H x vx)(ry:Rep K H y vy):
 ∃a r0,vx= .ref a/\bY H a vy r0/\(∀z,r=some z->∃v,r0=some v/\Rep K H z v)/\(r=none->r0=none):=by
 unfold qZ at e;split at e
 . rename_i a
   simp only[Rep]at rx;cases q:M a with
   |none=>rw[q]at e;cases e
   |some o=>
    rw[q]at e
    replace e:sI o y=some r:=e
    obtain⟨ho,eo,ro⟩:=hv a o q;unfold sI at e;split at e
    . rename_i kvs
      obtain⟨ws,rfl,hg⟩:=ro;cases ek:fR y with
      |none=>rw[ek]at e;cases e
      |some k=>
       rw[ek]at e;have e:lk kvs k=r:=d0 e;have:=qd ek ry;subst this;exact⟨a,_,rx,bY.k eo,λz hz=>(jD (k:=k) hg).1 z (e.trans hz),λhz=>(jD (k:=k) hg).2 (e.trans hz)⟩
    . rename_i kvs
      obtain⟨ws,rfl,hg⟩:=ro;cases ek:cI y with
      |none=>rw[ek]at e;cases e
      |some k=>
       rw[ek]at e;have e:lk kvs k=r:=d0 e;obtain⟨b,rfl,hb⟩:=yj ek ry;exact⟨a,_,rx,bY.t eo hb,λz hz=>(jD (k:=k) hg).1 z (e.trans hz),λhz=>(jD (k:=k) hg).2 (e.trans hz)⟩
    . rename_i kvs
      obtain⟨ob,ws,rfl,hg⟩:=ro;cases ek:fR y with
      |none=>rw[ek]at e;cases e
      |some k=>
       rw[ek]at e;have e:lk kvs k=r:=d0 e;have:=qd ek ry;subst this;exact⟨a,_,rx,.inl ⟨ws,k,.inr ⟨ob,eo⟩,rfl,rfl⟩,λz hz=>(jD (k:=k) hg).1 z (e.trans hz),λhz=>(jD (k:=k) hg).2 (e.trans hz)⟩
    . rename_i kvs
      obtain⟨ob,ws,rfl,hg⟩:=ro;cases ek:cI y with
      |none=>rw[ek]at e;cases e
      |some k=>
       rw[ek]at e;have e:lk kvs k=r:=d0 e;obtain⟨b,rfl,hb⟩:=yj ek ry;exact⟨a,_,rx,.inr ⟨ws,k,b,.inr ⟨ob,eo⟩,rfl,hb,rfl⟩,λz hz=>(jD (k:=k) hg).1 z (e.trans hz),λhz=>(jD (k:=k) hg).2 (e.trans hz)⟩
    . cases e
 . cases e
theorem UT{K:ag}(h:View K H M)(d:tL M x)(g:Rep K H x vx):∃a,vx= .ref a/\zI H a:=by
 unfold tL at d;split at d
 . rename_i a
   simp only[Rep]at g;split at d
   . rename_i c e;obtain⟨ho,b,f,rfl,i⟩:=h a _ e;exact⟨a,g,.inl ⟨f,.inl b⟩⟩
   . rename_i c e;obtain⟨ho,b,f,rfl,i⟩:=h a _ e;exact⟨a,g,.inr ⟨f,.inl b⟩⟩
   . rename_i c e;obtain⟨ho,b,ob,f,rfl,i⟩:=h a _ e;exact⟨a,g,.inl ⟨f,.inr ⟨ob,b⟩⟩⟩
   . rename_i c e;obtain⟨ho,b,ob,f,rfl,i⟩:=h a _ e;exact⟨a,g,.inr ⟨f,.inr ⟨ob,b⟩⟩⟩
   . exact d.elim
 . exact d.elim
theorem VD{K:ag}{v:RV}(g:View K H M)(d:tH M x y v N)(l:Rep K H x vx)(o:Rep K H y vy)(rv:Rep K H v vv):
 ∃a h n,vx= .ref a/\fY H a vy vv h/\N n/\Ext H h/\View K h n:=by
 unfold tH at d;split at d
 . rename_i a
   simp only[Rep]at l;split at d
   . rename_i j c
     obtain⟨ho,e,m,rfl,f⟩:=g a _ c;split at d
     . rename_i k i
       have:=qd i o;subst this;have ex:Ext H (upd H a (.dK (putK m k vv))):=Ext.write e rfl;exact⟨a,_,_,l,fY.k e (by rw[<-iR f];exact d.1),d.2,ex,g.write c ⟨_,rfl,Iu (Rep.ext ex _ _ rv) (f.ext ex)⟩⟩
     . exact d.elim
   . rename_i j c
     obtain⟨ho,e,m,rfl,f⟩:=g a _ c;split at d
     . rename_i k i
       obtain⟨b,rfl,r⟩:=yj i o;have ex:Ext H (upd H a (.dT (putK m k vv))):=Ext.write e rfl;exact⟨a,_,_,l,fY.t e r (by rw[<-iR f];exact d.1),d.2,ex,g.write c ⟨_,rfl,Iu (Rep.ext ex _ _ rv) (f.ext ex)⟩⟩
     . exact d.elim
   . exact d.elim
 . exact d.elim
end
section
variable {X:Cx}{o i value e f:Expr}{pos pos' apos cpos:Pos}{td ty tv tx:ar}
def vP(Q:ak)(x y:RV)(M:RM):Prop:=match qZ M x y with
 |some (some v)=>Q v M
 |_=>False
def J7(td ty:ar):ar:=λσ M Q=>td σ M λx M1=>ty σ M1 λy M2=>vP Q x y M2
theorem UN{x y:RV}(h:vP Q x y M):∃v,qZ M x y=some (some v)/\Q v M:=by
 unfold vP at h;split at h
 . rename_i v e;exact⟨v,e,h⟩
 . exact h.elim
theorem X1(t:X.A.units+1<cLine)(ho:aj X o td)(hi:aj X i ty)(hs:sL i):aj X (.Subscript o i pos) (J7 td ty):=PE.imp (IQ t ho hi hs) λσ0 H C h=>by
 obtain⟨k,M,Q,hs,u,s,r⟩:=h;refine⟨k,M,_,hs,u,s,λrx M1 x H1 q e1 A r1=>⟨k,M1,_,hs.ext e1,A,q,λry m y l b d j z=>?_⟩⟩
 obtain⟨v,ev,b⟩:=UN b;obtain⟨a,r0,rfl,g,n,_⟩:=A4 j ev (Rep.ext d _ _ r1) z;obtain⟨w,rfl,c⟩:=n v rfl;exact⟨a,w,rfl,g,r _ m _ l b (e1.trans d) j c⟩
def zA(neg:Bool)(Q:ak)(x y:RV)(M:RM):Prop:=match qZ M x y with
 |some r=>Q (.bl (if neg then !r.isSome else r.isSome)) M
 |none=>False
def sv(neg:Bool)(ty td:ar):ar:=λσ M Q=>ty σ M λy M1=>td σ M1 λx M2=>zA neg Q x y M2
theorem xH(h:up X.K (sv neg ty td) σ0 H Q0):up X.K ty σ0 H λy H1=>up X.K td σ0 H1 λx b=>∃a r,x= .ref a/\bY b a y r/\Q0 (.bl (if neg then !r.isSome else r.isSome)) b:=by
 obtain⟨k,M,Q,hs,w,u,t⟩:=h;refine⟨k,M,_,hs,w,u,λry M1 y H1 q e1 C r1=>⟨k,M1,_,hs.ext e1,C,q,λrx l x b c d j A=>?_⟩⟩
 unfold zA at c;split at c
 . rename_i r m
   obtain⟨a,r0,rfl,g,n,s⟩:=A4 j m A (Rep.ext d _ _ r1);refine⟨a,r0,rfl,g,t _ l _ b c (e1.trans d) j ?_⟩;have:r0.isSome=r.isSome:=by
    cases r with
    |none=>rw[s rfl];rfl
    |some z=>obtain⟨v,rfl,_⟩:=n z rfl;rfl
   rw[this];simp only[Rep]
 . exact c.elim
theorem NH(b:X.A.units+1<cLine)(hi:aj X i ty)(ho:aj X o td)(a:behindInMarks .In o=false):aj X (.Compare i [.In] [o] pos) (sv false ty td):=PE.imp (JI (JJ b hi ho) a) λσ0 H c h=>xH h
theorem UO(b:X.A.units+1<cLine)(hi:aj X i ty)(ho:aj X o td)(a:behindInMarks .NotIn o=false):aj X (.Compare i [.NotIn] [o] pos) (sv true ty td):=PE.imp (JI (GL b hi ho) a) λσ0 H c h=>xH h
theorem XZ(d:X.A.units+1<cLine)(hi:aj X i ty)(ho:aj X o td)(a:behindInMarks .In o=false):fb X (.Compare i [.In] [o] pos) (mK (sv false ty td)):=PT.imp (Ba (JJ d hi ho) a) λσ0 H k h=>by
 obtain⟨j,M,Q,hs,g,c,b⟩:=h;exact xH (neg:=false) ⟨j,M,_,hs,g,c,qi b⟩
theorem Sz(d:X.A.units+1<cLine)(hi:aj X i ty)(ho:aj X o td)(a:behindInMarks .NotIn o=false):fb X (.Compare i [.NotIn] [o] pos) (mK (sv true ty td)):=PT.imp (Ba (GL d hi ho) a) λσ0 H k h=>by
 obtain⟨j,M,Q,hs,g,c,b⟩:=h;exact xH (neg:=true) ⟨j,M,_,hs,g,c,qi b⟩
def vw(Q:ak)(x y z:RV)(M:RM):Prop:=match qZ M x y with
 |some r=>Q (r.getD z) M
 |none=>False
def JS(td ty:ar):ar:=λσ M Q=>td σ M λx M1=>tL M1 x/\ty σ M1 λy M2=>vw Q x y .aq M2
theorem SA{K:ag}{x y z:RV}{a:Addr}(h:vw Q x y z M)(l:View K H M)(m:Rep K H x (.ref a))(n:Rep K H y vy)(s:Rep K H z vz):
 ∃r r0,Q r M/\bY H a vy r0/\Rep K H r (r0.getD vz):=by
 unfold vw at h;split at h
 . rename_i r d
   obtain⟨t,r0,c,g,j,k⟩:=A4 l d m n;cases c;refine⟨_,r0,h,g,?_⟩;cases r with
   |none=>rw[k rfl];exact s
   |some q=>obtain⟨v,rfl,b⟩:=j q rfl;exact b
 . exact h.elim
theorem Vp(v:X.A.units+1<cLine)(ho:aj X o td)(s:aj X e ty)(m:M1 X o "get" apos e cpos):aj X (.Call (.Attribute o "get" apos) [e] [] cpos) (JS td ty):=PE.imp (TX v ho s m) λσ0 H E h=>by
 obtain⟨l,M,Q,hs,w,u,t⟩:=h;refine⟨l,M,_,hs,w,u,λrx M1 x H1 q e1 j r1=>?_⟩
 obtain⟨a,rfl,d⟩:=UT j q.1 r1;refine⟨a,rfl,d,l,M1,_,hs.ext e1,j,q.2,λry n y b z c k C=>?_⟩
 obtain⟨r,r0,A,g,D⟩:=SA z k (Rep.ext c _ _ r1) C (show Rep X.K b .aq .aq by simp only[Rep])
 exact⟨r0,g,t _ n _ b A (e1.trans c) k D⟩
def JQ(td ty tv:ar):d9:=λD a M=>tv a M λv M1=>td a M1 λx b=>ty a b λy c=>tH c x y v (D.nx a)
theorem Vu(z:X.A.units+1<cLine)(ho:aj X o td)(hi:aj X i ty)(k:aj X value tv)(hs:swapsWith value (some (.Subscript o i pos')) pos.line X.env=pure false):fy X (.Assign [.Subscript o i pos'] value pos) (JQ td ty tv):=PS.imp (Uq z ho hi k hs) λD0 l H h=>by
 obtain⟨c,M,D,hs,k,u,t⟩:=h;refine⟨c,M,_,hs,k,u,λrv M1 v H1 q e1 I r1=>⟨c,M1,_,hs.ext e1,I,q,λrx r x N A d J E=>⟨c,r,_,hs.ext (e1.trans d),J,A,λry Q y O C j L F=>?_⟩⟩⟩
 obtain⟨a,m,s,rfl,g,n,ex,w⟩:=VD L C (Rep.ext j _ _ E) F (Rep.ext (d.trans j) _ _ r1);have b:=((e1.trans d).trans j).trans ex;exact⟨a,m,rfl,g,t.nx c s l m n b w (hs.ext b)⟩
def JD:ar:=λ_ M Q=>∀p,M p=none->Q (.ref p) (put M p (.dt []))
theorem VS:aj X (.Dict [] [] pos) JD:=PE.imp TU λσ0 H g h=>by
 obtain⟨j,M,Q,hs,b,d,c⟩:=h;exactλp a=>c _ _ _ _ (d p (b.free a)) (Ext.new a) (b.cj a ⟨[],rfl,rfl⟩) (by simp only[Rep])
end
section
variable {prog:Program}{w:World}{K:Type}[DecidableEq K]{knd:HeapKind prog w K}{A:Around}{E:aX}{s:Shared}{d a:Addr}{k:K}{xs:List (K×Addr×Value)}
theorem SH{xs:List (K×Addr×Value)}(b:(xs.map (·.1)).Nodup):∀{j:Nat} {p:Addr×Value},xs[j]? =some (k,p)->xs.eraseIdx j=xs.filter λx=>decide (x.1≠k):=by
 induction xs with
 |nil=>intro j p h;simp at h
 |cons x r ih=>
  intro j p h;rw[bF,ip]at b;cases j with
  |zero=>
   simp at h;subst h;rw[List.eraseIdx_cons_zero,m8];simp only[ne_eq,not_true_eq_false,decide_false,jr,if_false];exact(qV.mpr λy e=>by
    have:y.1≠k:=λz=>b.1 (aP.mpr ⟨y,e,z⟩)
    simpa using this).symm
  |succ j=>
   rw[List.eraseIdx_cons_succ,m8];have c:r[j]? =some (k,p):=by simpa using h
   have:x.1≠k:=λz=>b.1 (z ▸ aP.mpr ⟨_,kf c,rfl⟩)
   rw[ai (d8 this),ih b.2 c]
theorem Qb{Q:Option DictEntry->Shared->Prop}(hu:knd.room A)(hkey:knd.is s.heap k a)(hm:s.heap.DictOfH knd d xs)(ht:(PySem.atKey xs k).isSome=true)
 (hQ:∀e h',h'.DictOfH knd d (xs.filter λx=>decide (x.1≠k))->Heap.SameBut d s.heap h'->Q (some e) { s with heap:=h',toks:=s.toks+knd.draws k }) (hsz:xs.length<=sizeLine):wpAny (model prog w) A (Builtin.Dict.takeOut d (.ref a)) Q E s:=by
 obtain⟨o,es,ep,ho,hc,hd,he,his,hn⟩:=hm;unfold Builtin.Dict.takeOut
 try with_reducible refine kq ?_
 refine ah (knd.pyHash hu hkey ?_);refine ah (wpAny_dictFind_heap (s:={ s with toks:=s.toks+knd.draws k }) hu hkey ho hd he his hn (λhno=>?_) λj p hj=>?_)
 . rw[atKey_none_of_get hno]at ht;cases ht
 . refine ah (oQ (s:={ s with toks:=s.toks+knd.draws k }) ho hd ?_)
   rw[entry_at he j,hj];refine ah (wpAny_updateDictKeys (hz:=by have e:=size_of_entries he;omega) (s:={ s with toks:=s.toks+knd.draws k }) ho hd (aD (hQ _ _ ⟨_,_,ep+1,Heap.get?_update_self _ ho (Obj.isFreed_of_dict (Obj.data_mapDictKeys hd _)),hc.mapDictKeys _,Obj.data_mapDictKeys hd _,?_,λx hx=>?_,?_⟩ (Heap.SameBut.update ..))))
   . rw[<-SH hn hj]
     have:(xs.eraseIdx j).map (entryOfKey knd)=es.toList.eraseIdx j:=by rw[he,List.eraseIdx_eq_take_drop_succ,List.eraseIdx_eq_take_drop_succ,fF,List.map_take,List.map_drop]
     rw[this];obtain⟨l⟩:=es;simp
   . exact knd.keeps (his x ((bB.mp hx).1)) ho hd (Heap.SameBut.update ..)
   . exact hn.sublist (List.filter_sublist.map _)
end
theorem U0(r:KT H kvs xs)(k:List bV):KT H (jN kvs k) (xs.filter λx=>decide (x.1≠k)):=by
 unfold jN
 induction r with
 |nil=>exact .nil
 | @cons p q ps qs h t ih=>
  rw[m8,m8,h.1];split
  . exact .cons h ih
  . exact ih
section
variable {X:Cx}{pins:aJ}{σ:L2.St}{H:Hp}{s:Shared}{a b:Addr}{kvs:List (List bV×V)}{k:List bV}{A:Around}{E:aX}
theorem XH(v:A.units+1<cLine)(I:Inv X pins σ H s)(e:H a=some (.dT kvs))(i:H b=some (.tup (k.map oV)))(l:(fK kvs k).isSome=true)(h:∀g,Inv X pins σ (upd H a (.dT (jN kvs k))) g->Q () g):
 wpAny (model X.prog X.w) A (delItem (.ref a) (.ref b)) Q E s:=by
 obtain⟨z,u,x,c,dd⟩:=BL I.av e;have w:x.length<=sizeLine:=by rw[<-Paired.length c];exact z
 refine wpAny_delItem_slot dd.typeIs (by decide) PySem.F.slot_dict_delitem (ja PySem.F.slot_dict_delitem dd.typeIs PySem.F.entry_dict_delitem ?_ (PySem.F.args_dict_delitem_2 _ _))
 unfold Builtin.«dict.__delitem__»;refine ah ?_;unfold Builtin.Dict.dictSlotArgs;refine ah (wpAny_notOrdered_dict dd.typeIs ?_);show wpAny _ _ (pure (Value.ref a,Value.ref b)) _ _ s;refine aD ?_;show wpAny _ _ (Builtin.Dict.takeOut a (.ref b) >>= _) _ _ s;refine ah (Qb (tupleKind_room_in1 v) (qm I.av i) dd (by rw[<-oP,<-(c.val k).bp];exact l) (λen y d hs=>?_) w)
 refine ah (wpAny_letGo (aD ⟨.none,rfl,h _ ?_⟩));obtain⟨q,m,j,f,n,o,r,_,t⟩:=d;refine uX I (by rw[e];exact True.intro) hs ⟨q,f⟩ ⟨cq (fX _ _) z,u,_,(U0 c k).keeps λc C ec=>?_,q,m,j,f,n,o,r,t⟩
 rw[au (jL ec e (λz=>nomatch z))]
 exact ec
end
noncomputable def dr[DecidableEq κ](kvs:List (κ×β))(k:κ):List (κ×β):=kvs.filter λp=>decide (p.1≠k)
theorem A3[DecidableEq κ]{K:ag}:∀{b:List (κ×RV)} {ws:List (κ×V)},aH K H b ws->aH K H (dr b k) (jN ws k)
 | [],_,h=>by cases h;exact rfl
 |(j,x)::r,_,h=>by
  obtain⟨v,t,rfl,c,d⟩:=h;have a:=A3 (k:=k) d;unfold dr jN at a ⊢;rw[m8,m8];split
  . exact⟨v,_,rfl,c,a⟩
  . exact a
def q8(M:RM)(x y:RV)(N:RM->Prop):Prop:=match x with
 | .ref a=>match M a with
  |some (.dk kvs)=>match fR y with
   |some k=>(lk kvs k).isSome=true/\N (put M a (.dk (dr kvs k)))
   |none=>False
  |some (.dt kvs)=>match cI y with
   |some k=>(lk kvs k).isSome=true/\N (put M a (.dt (dr kvs k)))
   |none=>False
  |_=>False
 |_=>False
section
variable {X:Cx}{o i:Expr}{td ty:ar}{pos tpos:Pos}
def JR(td ty:ar):d9:=λD a M=>td a M λx M1=>ty a M1 λy b=>q8 b x y (D.nx a)
theorem Vv(hu:X.A.units+1<cLine)(ho:aj X o td)(hi:aj X i ty):fy X (.Delete [.Subscript o i tpos] pos) (JR td ty):=by
 intro pins s σ0 H D0 I h;obtain⟨σ,M,D,hs,hv,ht,hd⟩:=h;refine wpAny_Delete (wpAny_deleteEach_cons (wpAny_delete_Subscript (aB (ho pins s σ0 H (λx H1=>∃rx M1,(ty σ M1 λy M2=>q8 M2 rx y (D.nx σ))/\Ext H H1/\View X.K H1 M1/\Rep X.K H1 rx x) I ⟨σ,M,_,hs,hv,ht,λrx M1 x H1 q e1 v1 r1=>⟨rx,M1,q,e1,v1,r1⟩⟩) λu s1 ⟨x,H1,I1,ru,rx,M1,q1,e1,v1,r1⟩=>
  aB (hi pins s1 σ0 H1 (λy H2=>∃ry M2,q8 M2 rx ry (D.nx σ)/\Ext H1 H2/\View X.K H2 M2/\Rep X.K H2 ry y) I1 ⟨σ,M1,_,hs.ext e1,v1,q1,λry M2 y H2 q e2 v2 r2=>⟨ry,M2,q,e2,v2,r2⟩⟩) λiv s2 ⟨y,H2,I2,riv,ry,M2,q2,e2,v2,r2⟩=>?_)))
 have r1:=Rep.ext e2 _ _ r1;have e12:=e1.trans e2;unfold q8 at q2;split at q2
 . rename_i a _ _
   simp only[Rep]at r1;subst r1;obtain rfl:u=Value.ref a:=ru;split at q2
   . rename_i kvs em
     obtain⟨ho',eo,ws,rfl,hg⟩:=v2 a _ em;split at q2
     . rename_i k ek
       have:=qd ek r2;subst this;have ex:Ext H2 (upd H2 a (.dK (jN ws k))):=Ext.write eo rfl;obtain⟨z,hz⟩:=zB.mp q2.1;obtain⟨z',hz',_⟩:=(jD (k:=k) hg).1 z hz;exact SN I2 eo riv (by rw[hz'];rfl) λs3 I3=>wpAny_deleteEach_nil ⟨σ0,_,I3,hd.nx σ _ _ _ q2.2 (e12.trans ex) (v2.write em ⟨_,rfl,A3 (hg.ext ex)⟩) (hs.ext (e12.trans ex))⟩
     . exact q2.elim
   . rename_i kvs em
     obtain⟨ho',eo,ws,rfl,hg⟩:=v2 a _ em;split at q2
     . rename_i k ek
       obtain⟨b,rfl,hb⟩:=yj ek r2;obtain rfl:iv=Value.ref b:=riv;have ex:Ext H2 (upd H2 a (.dT (jN ws k))):=Ext.write eo rfl;obtain⟨z,hz⟩:=zB.mp q2.1;obtain⟨z',hz',_⟩:=(jD (k:=k) hg).1 z hz;exact XH hu I2 eo hb (by rw[hz'];rfl) λs3 I3=>wpAny_deleteEach_nil ⟨σ0,_,I3,hd.nx σ _ _ _ q2.2 (e12.trans ex) (v2.write em ⟨_,rfl,A3 (hg.ext ex)⟩) (hs.ext (e12.trans ex))⟩
     . exact q2.elim
   . exact q2.elim
 . exact q2.elim
end
section
variable {X:Cx}{pins:aJ}{σ:L2.St}{H:Hp}{s:Shared}{a:Addr}{A:Around}{E:aX}
theorem XF(I:Inv X pins σ H s)(e:H a=some (.dT kvs))(h:∀t d,Inv X pins σ H d->Q (.int kvs.length t) d):wpAny (model X.prog X.w) A (call (.builtin "len") [.ref a]) Q E s:=by
 obtain⟨z,g,n,c,dd⟩:=BL I.av e;have ty:=dd.typeIs;obtain⟨o,f,k,ho,l,b,i,_,_⟩:=dd;have j:f.size=kvs.length:=by rw[size_of_entries i,Paired.length c]
 refine Calls.call_function_entry kind_len plain_len entry_len (args_len1 _) ?_;unfold Builtin.«len»;refine ah (m:=oneArg "len" _) (aD ?_);refine ah (m:=callSpecial? (.ref a) (Str.ofString "__len__")) (wpAny_callSpecial?_slot (name:=Str.ofString "__len__") ty F.slot_dict_len (ja F.slot_dict_len ty F.entry_dict_len ?_ (F.args_dict_len_1 _)));show wpAny _ _ (dictSize a >>= _) _ _ s;unfold dictSize;refine ah (ah (oQ ho b (aD ?_)));show wpAny _ _ (Builtin.Dict.pendingCount a >>= _) _ _ s;refine ah (wpAny_pendingCount_other g ?_);refine wpAny_ret_mkInt ?_;rw[j];show wpAny _ _ _ _ _ { s with toks:=s.toks+1 }
 refine ah (kq (aD ?_));refine ah (wpAny_letGo ?_);rw[sizeLine_eq]at z;show wpAny _ _ (if((kvs.length:Nat):Int)<0 then _ else _) _ _ _
 rw[ae (by omega)]
 show wpAny _ _ (if((kvs.length:Nat):Int) ≥ 2 ^ 63 then _ else _) _ _ _
 rw[ae (by omega)]
 exact ah (wpAny_mkInt (aD ⟨_,rfl,h _ _ (I.tok _)⟩))
theorem Zq:dm X (.builtin "len") (fE X.K λrs M Q=>∃a b,rs= [.ref a]/\M a=some (.dt b)/\Q (.int b.length) M):=by
 intro pins s σ H r us n I k h;obtain⟨rs,M,Q,l,c,⟨a,b,rfl,i,j⟩,g⟩:=h;obtain⟨v,rfl,r1⟩:=l.one;simp only[Rep]at r1;subst r1;obtain⟨ho,e,m,rfl,f⟩:=c a _ i;obtain⟨u,rfl,ru⟩:=vals1 k;cases ru;exact XF I e λt o d=>⟨.int m.length,H,d,⟨t,rfl⟩,g _ M _ H j (.refl H) c (by simp only[Rep];rw[iR f])⟩
end
section
variable {X:Cx}
def E8(i j:Nat)(ta:bX):d9:=λD a M=>ta a M λrs M1=>match rs with
 | [v,w]=>D.nx ((a.set i (some v)).set j (some w)) M1
 |_=>False
theorem N6{i j:Nat}{x y:Str}{a b:Expr}{ta:bX}{e f pt:Pos}{kt d:Nat}(n:X.calm=true)(l:X.N.Nodup)(hi:X.N[i]? =some x)(r:X.N[j]? =some y)(c:i≠j)
 (hx:X.env.scope.names.lookup x=some .local) (z:X.env.scope.names.lookup y=some .local) (m:fI X [a,b] ta)
 (u:swappedStores [.Tuple [.Name x e,.Name y f] kt pt] (.Tuple [a,b] d pt2) X.env=pure (some [x,y])):
 fy X (.Assign [.Tuple [.Name x e,.Name y f] kt pt] (.Tuple [a,b] d pt2) pos) (E8 i j ta):=PS.imp (VO n l hi r c hx z m u) λD0 I H h=>by
 obtain⟨F,M,D,hs,t,s,o⟩:=h;refine⟨F,M,_,hs,t,s,λrs M1 vs H1 q e1 C r1=>?_⟩
 split at q
 . rename_i v w
   obtain⟨A,E,rfl,g,k⟩:=r1.two;exact⟨A,E,rfl,o.nx _ M1 _ H1 q e1 C (((hs.ext e1).set g i).set k j)⟩
 . exact q.elim
noncomputable def tN (C:Addr)(f:Str)(c:ar)(σ:bD)(N:RM->Prop):ak:=λx M=>match x with
 | .ref a=>match M a with
  |some (.ins C' fs)=>C'=C/\match fs.lookup f with
   |some (.int i)=>c σ M λy b=>match y with
    | .int j=>match b a with
     |some (.ins C2 fs2)=>C2=C/\fs2.length<1000/\N (put b a (.ins C (j7 f (.int (i+j)) fs2)))
     |_=>False
    |_=>False
   |_=>False
  |_=>False
 |_=>False
def Mg(C:Addr)(f:Str)(ta b:ar):d9:=λD a M=>ta a M (tN C f b a (D.nx a))
theorem ZX{ta w:ar}(Y:cZ X.K C)(hn:aZ X.K C f)(W:aj X o ta)(m:aj X value w):fy X (.AugAssign (.Attribute o f tpos) .Add value pos) (Mg C f ta w):=PS.imp (Rq W m Xs) λD0 s H h=>by
 obtain⟨r,M,D,hs,m,ht,Z⟩:=h;refine⟨r,M,_,hs,m,ht,λrx M1 x H1 q e1 z r1=>?_⟩
 cases rx with
 |ref a=>
  simp only[Rep]at r1;subst r1;unfold tN at q;simp only at q;split at q
  . rename_i E fs N
    obtain⟨rfl,q⟩:=q;split at q
    . rename_i i L
      obtain⟨ho,O,I,U,rfl,hg⟩:=z a _ N;obtain⟨u,Q,ru⟩:=xn hg L;refine⟨a,E,I,U,u,rfl,O,Y,hn,Q,r,M1,_,hs.ext e1,z,q,λry M2 y t l J A v=>?_⟩
      cases ry with
      |int j=>
       simp only[Rep]at v ru;subst v ru;simp only at l;split at l
       . rename_i F R d
         obtain⟨rfl,hl,n⟩:=l;obtain⟨ho2,e,b,g,rfl,k⟩:=A a _ d;have ex:Ext t (upd t a (.ins F b (fQ f (.int (i+j)) g))):=Ext.write e rfl;have c:=(e1.trans J).trans ex;exact⟨i,j,rfl,rfl,b,g,e,by rw[<-iR k];exact hl,Z.nx r _ s _ n c (A.write d ⟨b,_,rfl,Ax (by simp only[Rep]) (k.ext ex)⟩) (hs.ext c)⟩
       . exact l.elim
      |_=>exact(show False from l).elim
    . exact q.elim
  . exact q.elim
 |_=>exact(show False from q).elim
end
def bR(h:Heap)(d:Addr)(es:Array DictEntry)(ep:Nat):Prop:=∃o,h.get? d=some o/\o.ExactDict/\o.data= .dict es ep
section
variable {prog:Program}{w:World}{A:Around}{E:aX}{s:Shared}{d it:Addr}{es:Array DictEntry}{ep i:Nat}
theorem bR.ty(x:bR s.heap d es ep):s.TypeIs (.ref d) "dict":=by
 obtain⟨o,a,b,c⟩:=x;exact⟨o,a,b.1⟩
theorem Ss(f:(d==sysModules)=false)(c:bR s.heap d es ep)
 (e:Q (.ref s.heap.objs.size) { s with heap:=s.heap.push { cls:=.type "dict_keyiterator",data:=.fields #[.ref d,.int 0 0,.int es.size 0,.int ep 0] } }):wpAny (model prog w) A (pyIter (.ref d)) Q E s:=by
 have b:=c.ty;obtain⟨o,ho,g,a⟩:=id c;refine wpAny_pyIter_slot b F.slot_dict_iter (ja F.slot_dict_iter b F.entry_dict_iter ?_ (F.args_dict_iter_1 _));unfold Builtin.«dict.__iter__» Builtin.Dict.dictSlotNone;refine ah (ah (wpAny_notOrdered_dict b ?_));refine(aD ?_:wpAny _ _ (pure (Value.ref d)) _ _ s);have e0:Builtin.Dict.showsAll d=pure ():=by unfold Builtin.Dict.showsAll;rw[ae (by rw[f];exact gX)]
 refine(?_:wpAny _ _ (Builtin.Dict.showsAll d >>= _) _ _ s);rw[e0];refine ah (aD (ah (oQ ho a (ah (wpAny_dictEpoch ho a (ah (i9 (aD ⟨_,rfl,"dict_keyiterator",_,⟨_,dJ _ rfl,rfl⟩,F.slot_dict_keyiterator_next.lookup,?_⟩))))))));simpa[rawInt]using e
theorem Pn(b:s.heap.IsKeyIter it d i es.size ep)(m:bR s.heap d es ep)(hi:i<es.size)
 (j:∀h,h.IsKeyIter it d (i+1) es.size ep->Heap.SameBut it s.heap h->Q (some es[i].key) { s with heap:=h }):wpAny (model prog w) A (pyNext (.ref it)) Q E s:=by
 obtain⟨o,ho,k,e⟩:=id b;obtain⟨r,g,l,f⟩:=id m;have n:Builtin.Dict_items.ownsTuple "dict_keyiterator" =false:=by decide
 unfold pyNext;refine ah (wpAny_attempt (wpAny_callSpecial?_slot (name:=Str.ofString "__next__") b.typeIs F.slot_dict_keyiterator_next (ja F.slot_dict_keyiterator_next b.typeIs F.entry_dict_keyiterator_next ?_ (F.args_dict_keyiterator_next_1 _))));refine ah (aD (ah (ah ?_)))
 first|refine ah (wpAny_typeNameOfWhole_keyiter b.typeIs (aD (ah (oI ho e ?_))))|refine ah (wpAny_typeNameOf_keyiter b.typeIs (aD (ah (oI ho e ?_))))
 simp only[n,jr,if_false];refine(?_:wpAny _ _ (if(Value.ref d==Value.none)=true then _ else _) _ _ s)
 rw[ae (show ¬(Value.ref d==Value.none)=true fromλz=>gX z)]
 refine ah (aD (ah (oQ g f ?_)));rw[ae (by simp)];refine ah (aD (ah (wpAny_dictEpoch g f ?_)))
 rw[ae (by simp)];refine aD ?_
 simp only[show ¬((i:Int)<0) by omega,if_false,wq,Array.getElem?_eq_getElem hi]
 first|refine ah (ah (wpAny_typeNameOfWhole_keyiter b.typeIs (aD (ah (wpAny_isOneOf_keyiter b.typeIs ?_)))))|refine ah (ah (wpAny_typeNameOf_keyiter b.typeIs (aD (ah (wpAny_isOneOf_keyiter b.typeIs ?_)))))
 refine(?_:wpAny _ _ (setField (.ref it) 1 (rawInt ((i:Int)+1)) >>= _) _ _ s);refine ah (wpAny_setField ho e (by simp) ?_)
 have c:(s.heap.update it (Obj.mapFields λa=>a.setIfInBounds 1 (rawInt ((i:Int)+1)))).IsKeyIter it d (i+1) es.size ep:=⟨_,Heap.get?_update_self _ ho (Obj.isFreed_of_fields (Obj.data_mapFields e _)),(Obj.cls_mapFields ..).trans k,by rw[Obj.data_mapFields e];simp[rawInt]⟩
 refine ah (kq (ah (wpAny_isOneOf_keyiter (s:={ s with heap:=s.heap.update it (Obj.mapFields λa=>a.setIfInBounds 1 (rawInt ((i:Int)+1))) }) c.typeIs ?_)))
 refine(?_:wpAny _ _ (pure es[i].key) _ _ _);exact aD (aD ⟨_,rfl,aD (j _ c (Heap.SameBut.update ..))⟩)
theorem Pl(l:A.handled=none)(c:s.heap.IsKeyIter it d i es.size ep)(n:bR s.heap d es ep)(hi:es.size<=i)(j:∀h,Heap.ExtBut it s.heap h->Q none { s with heap:=h }):
 wpAny (model prog w) A (pyNext (.ref it)) Q E s:=by
 obtain⟨o,ho,t,g⟩:=id c;obtain⟨u,f,k,e⟩:=id n;have r:Builtin.Dict_items.ownsTuple "dict_keyiterator" =false:=by decide
 unfold pyNext;refine ah (wpAny_attempt (wpAny_callSpecial?_slot (name:=Str.ofString "__next__") c.typeIs F.slot_dict_keyiterator_next (ja F.slot_dict_keyiterator_next c.typeIs F.entry_dict_keyiterator_next ?_ (F.args_dict_keyiterator_next_1 _))));refine ah (aD (ah (ah ?_)))
 first|refine ah (wpAny_typeNameOfWhole_keyiter c.typeIs (aD (ah (oI ho g ?_))))|refine ah (wpAny_typeNameOf_keyiter c.typeIs (aD (ah (oI ho g ?_))))
 simp only[r,jr,if_false];refine(?_:wpAny _ _ (if(Value.ref d==Value.none)=true then _ else _) _ _ s)
 rw[ae (show ¬(Value.ref d==Value.none)=true fromλz=>gX z)]
 refine ah (aD (ah (oQ f e ?_)));rw[ae (by simp)];refine ah (aD (ah (wpAny_dictEpoch f e ?_)))
 rw[ae (by simp)];refine aD ?_
 simp only[show ¬((i:Int)<0) by omega,if_false,wq,Array.getElem?_eq_none hi]
 first|refine ah (ah (wpAny_typeNameOfWhole_keyiter c.typeIs (aD ?_)))|refine ah (ah (wpAny_typeNameOf_keyiter c.typeIs (aD ?_)))
 refine(?_:wpAny _ _ (setField (.ref it) 0 .none >>= _) _ _ s);refine ah (wpAny_setField ho g (by simp) ?_)
 refine(?_:wpAny _ _ (newExc (.type "StopIteration") [] >>= _) _ _ _);simp only[newExc,newTuple];refine ah (ah (i9 ?_ (by size_fits)))
 refine ah (m:=firstArgMember _ _) (wpAny_of_eq (a:=Value.none) (by first|rfl|(simp only[firstArgMember];rfl)) (i9 ?_ (by size_fits)))
 simp only[raiseNew];refine ah (wpAny_handled ?_);rw[show A.in1.handled=none from l];refine ah (aD (wpAny_throw ?_));refine ah (wpAny_isInstance (T:="StopIteration") (b:=true) ⟨_,dJ _ rfl,rfl⟩ isSubtype_stop ?_)
 exact aD (j _ (((Heap.SameBut.update ..).extBut.push _).push _))
theorem FK(b:s.heap.IsValIter it d i es.size ep)(m:bR s.heap d es ep)(hi:i<es.size)
 (j:∀h,h.IsValIter it d (i+1) es.size ep->Heap.SameBut it s.heap h->Q (some es[i].val) { s with heap:=h }):wpAny (model prog w) A (pyNext (.ref it)) Q E s:=by
 obtain⟨o,ho,k,e⟩:=id b;obtain⟨r,g,l,f⟩:=id m;have n:Builtin.Dict_items.ownsTuple "dict_valueiterator" =false:=by decide
 unfold pyNext;refine ah (wpAny_attempt (wpAny_callSpecial?_slot (name:=Str.ofString "__next__") b.typeIs F.slot_dict_valueiterator_next (ja F.slot_dict_valueiterator_next b.typeIs F.entry_dict_valueiterator_next ?_ (F.args_dict_valueiterator_next_1 _))));refine ah (aD (ah (ah ?_)))
 first|refine ah (wpAny_typeNameOfWhole_valiter b.typeIs (aD (ah (oI ho e ?_))))|refine ah (wpAny_typeNameOf_valiter b.typeIs (aD (ah (oI ho e ?_))))
 simp only[n,jr,if_false];refine(?_:wpAny _ _ (if(Value.ref d==Value.none)=true then _ else _) _ _ s)
 rw[ae (show ¬(Value.ref d==Value.none)=true fromλz=>gX z)]
 refine ah (aD (ah (oQ g f ?_)));rw[ae (by simp)];refine ah (aD (ah (wpAny_dictEpoch g f ?_)))
 rw[ae (by simp)];refine aD ?_
 simp only[show ¬((i:Int)<0) by omega,if_false,wq,Array.getElem?_eq_getElem hi]
 first|refine ah (ah (wpAny_typeNameOfWhole_valiter b.typeIs (aD (ah (wpAny_isOneOf_valiter b.typeIs ?_)))))|refine ah (ah (wpAny_typeNameOf_valiter b.typeIs (aD (ah (wpAny_isOneOf_valiter b.typeIs ?_)))))
 refine(?_:wpAny _ _ (setField (.ref it) 1 (rawInt ((i:Int)+1)) >>= _) _ _ s);refine ah (wpAny_setField ho e (by simp) ?_)
 have c:(s.heap.update it (Obj.mapFields λa=>a.setIfInBounds 1 (rawInt ((i:Int)+1)))).IsValIter it d (i+1) es.size ep:=⟨_,Heap.get?_update_self _ ho (Obj.isFreed_of_fields (Obj.data_mapFields e _)),(Obj.cls_mapFields ..).trans k,by rw[Obj.data_mapFields e];simp[rawInt]⟩
 refine ah (kq (ah (wpAny_isOneOf_valiter (s:={ s with heap:=s.heap.update it (Obj.mapFields λa=>a.setIfInBounds 1 (rawInt ((i:Int)+1))) }) c.typeIs ?_)))
 refine ah (wpAny_isOneOf_valiter (s:={ s with heap:=s.heap.update it (Obj.mapFields (·.setIfInBounds 1 (rawInt ((i:Int)+1)))) }) c.typeIs (?_:_))
 refine(?_:wpAny _ _ (pure es[i].val) _ _ _);exact aD (aD ⟨_,rfl,aD (j _ c (Heap.SameBut.update ..))⟩)
theorem FL(l:A.handled=none)(c:s.heap.IsValIter it d i es.size ep)(n:bR s.heap d es ep)(hi:es.size<=i)(j:∀h,Heap.ExtBut it s.heap h->Q none { s with heap:=h }):
 wpAny (model prog w) A (pyNext (.ref it)) Q E s:=by
 obtain⟨o,ho,t,g⟩:=id c;obtain⟨u,f,k,e⟩:=id n;have r:Builtin.Dict_items.ownsTuple "dict_valueiterator" =false:=by decide
 unfold pyNext;refine ah (wpAny_attempt (wpAny_callSpecial?_slot (name:=Str.ofString "__next__") c.typeIs F.slot_dict_valueiterator_next (ja F.slot_dict_valueiterator_next c.typeIs F.entry_dict_valueiterator_next ?_ (F.args_dict_valueiterator_next_1 _))));refine ah (aD (ah (ah ?_)))
 first|refine ah (wpAny_typeNameOfWhole_valiter c.typeIs (aD (ah (oI ho g ?_))))|refine ah (wpAny_typeNameOf_valiter c.typeIs (aD (ah (oI ho g ?_))))
 simp only[r,jr,if_false];refine(?_:wpAny _ _ (if(Value.ref d==Value.none)=true then _ else _) _ _ s)
 rw[ae (show ¬(Value.ref d==Value.none)=true fromλz=>gX z)]
 refine ah (aD (ah (oQ f e ?_)));rw[ae (by simp)];refine ah (aD (ah (wpAny_dictEpoch f e ?_)))
 rw[ae (by simp)];refine aD ?_
 simp only[show ¬((i:Int)<0) by omega,if_false,wq,Array.getElem?_eq_none hi]
 first|refine ah (ah (wpAny_typeNameOfWhole_valiter c.typeIs (aD ?_)))|refine ah (ah (wpAny_typeNameOf_valiter c.typeIs (aD ?_)))
 refine(?_:wpAny _ _ (setField (.ref it) 0 .none >>= _) _ _ s);refine ah (wpAny_setField ho g (by simp) ?_)
 refine(?_:wpAny _ _ (newExc (.type "StopIteration") [] >>= _) _ _ _);simp only[newExc,newTuple];refine ah (ah (i9 ?_ (by size_fits)))
 refine ah (m:=firstArgMember _ _) (wpAny_of_eq (a:=Value.none) (by first|rfl|(simp only[firstArgMember];rfl)) (i9 ?_ (by size_fits)))
 simp only[raiseNew];refine ah (wpAny_handled ?_);rw[show A.in1.handled=none from l];refine ah (aD (wpAny_throw ?_));refine ah (wpAny_isInstance (T:="StopIteration") (b:=true) ⟨_,dJ _ rfl,rfl⟩ isSubtype_stop ?_)
 exact aD (j _ (((Heap.SameBut.update ..).extBut.push _).push _))
theorem Gi{v:Addr}(e:s.heap.IsValuesView v d)(h:bR s.heap d es ep)
 (f:Q (.ref s.heap.objs.size) { s with heap:=s.heap.push { cls:=.type "dict_valueiterator",data:=.fields #[.ref d,.int 0 0,.int es.size 0,.int ep 0] } }):wpAny (model prog w) A (pyIter (.ref v)) Q E s:=by
 obtain⟨l,c,g,b⟩:=id e;obtain⟨o,ho,k,a⟩:=id h;have j:Builtin.Dict_items.ownsTuple "dict_valueiterator" =false:=by decide
 refine wpAny_pyIter_slot e.typeIs F.slot_dict_values_iter (ja F.slot_dict_values_iter e.typeIs F.entry_dict_values_iter ?_ (F.args_dict_values_iter_1 _));unfold Builtin.«dict_values.__iter__» Builtin.Dict_items.dictOf Builtin.Dict_items.newIterator;refine ah (aD (ah (ah (wpAny_field c b (x:=.ref d) rfl (aD (ah (ah (oQ ho a (ah (wpAny_dictEpoch ho a ?_))))))))));simp only[j,jr,if_false];refine i9 (aD ⟨_,rfl,"dict_valueiterator",_,⟨_,dJ _ rfl,rfl⟩,F.slot_dict_valueiterator_next.lookup,?_⟩);simpa[rawInt]using f
theorem Gb(a:(d==sysModules)=false):MeetsIn prog w (Builtin.«dict.values» ⟨[.ref d],[]⟩) (λ_ R s=>(∃es ep,bR s.heap d es ep)/\R (.ok (.ret (.ref s.heap.objs.size))) { s with heap:=s.heap.push { cls:=.type "dict_values",data:=.fields #[.ref d] } }):=
 .of_wp λA R s ⟨⟨es,ep,hm⟩,h⟩=>by
  have e0:Builtin.Dict.showsAll d=pure ():=by unfold Builtin.Dict.showsAll;rw[ae (by rw[a];exact gX)]
  refine ah ?_;unfold Builtin.Dict.noArgs;refine ah (wpAny_notOrdered_dict hm.ty ?_);refine(aD ?_:wpAny _ _ (pure d) _ _ s);refine(?_:wpAny _ _ (Builtin.Dict.showsAll d >>= _) _ _ s);rw[e0];exact ah (aD (ah (i9 (aD ⟨_,rfl,h⟩))))
end
def mR:HO->Nat
 | .dK kvs=>kvs.length
 | .dT kvs=>kvs.length
 |_=>0
def KH(u:HO)(i:Nat)(H:Hp)(x:V):Prop:=match u with
 | .dK kvs=>∃a,kvs[i]? =some a/\x=kV a.1
 | .dT kvs=>∃a b,kvs[i]? =some a/\x= .ref b/\H b=some (.tup (a.1.map oV))
 |_=>False
def valAt(u:HO)(i:Nat)(x:V):Prop:=match u with
 | .dK kvs=>∃a,kvs[i]? =some a/\x=a.2
 | .dT kvs=>∃a,kvs[i]? =some a/\x=a.2
 |_=>False
theorem xQ:∀{l:List α} {m:List β} {i:Nat} {b:β},Paired F l m->m[i]? =some b->∃a,l[i]? =some a/\F a b
 |_,_,_,_,.nil,e=>by simp at e
 |_,_,0,_,.cons r _,e=>by simp at e;subst e;exact⟨_,rfl,r⟩
 |_,_,i+1,b,.cons _ t,e=>by
  obtain⟨a,c,d⟩:=xQ (i:=i) t (by simpa using e)
  exact⟨a,by simpa using c,d⟩
theorem Hh(h:j8 k u=true):RelV (kV k) u:=by
 rcases jf h with⟨i,t,rfl,rfl⟩|⟨x,t,rfl,rfl⟩
 . exact⟨t,rfl⟩
 . exact⟨t,rfl⟩
section
variable {X:Cx}{pins:aJ}{σ:L2.St}{H:Hp}{s:Shared}{a:Addr}{o:Obj}{u:HO}
theorem nG(I:Inv X pins σ H s)(h:H a=some (.bj o u))(J:jO u=true):∃b j,o.data= .dict b j/\bR s.heap a b j/\(a==sysModules)=false/\b.size=mR u/\mR u<=sizeLine/\
 ∀i (hi:i<b.size),(∃x,KH u i H x/\RelV x b[i].key)/\∃x,valAt u i x/\RelV x b[i].val:=by
 obtain⟨g,E⟩:=I.av a _ h;cases u<;>first|(cases J;done)|skip
 . rename_i f
   obtain⟨z,y,vs,r,O,b,j,e,c,dd,ks,C,N⟩:=E;rw[g]at e;cases e;have w:b.size=f.length:=by have:=C.length;have L:=Paired.length r;simp at this;omega
   refine⟨b,j,dd,⟨o,g,c,dd⟩,y,w,z,λi hi=>?_⟩
   have D:i<vs.length:=by have:=C.length;simp at this;omega
   obtain⟨p1,Q⟩:=C.get? (e:=b[i]) (i:=i) (k:=vs[i].1) (v:=vs[i].2) (by simp[hi]) (by simp[D])
   obtain⟨d,m,F,A⟩:=xQ (i:=i) r (by simp[D]:vs[i]? =some vs[i])
   refine⟨⟨kV d.1,⟨d,m,rfl⟩,?_⟩,d.2,⟨d,m,rfl⟩,by rw[Q];exact A⟩
   rw[F];exact Hh p1
 . rename_i f
   obtain⟨z,y,l,r,O,b,j,e,c,dd,n,N⟩:=E;rw[g]at e;cases e;have w:b.size=f.length:=by have L:=Paired.length r;have:=congrArg List.length n;simp at this;omega
   refine⟨b,j,dd,⟨o,g,c,dd⟩,y,w,z,λi hi=>?_⟩
   have hx:i<l.length:=by have:=congrArg List.length n;simp at this;omega
   have t:b[i]=entryOfKey (tupleKind (optKind X.prog X.w)) l[i]:=by
    have:=entry_at (knd:=tupleKind (optKind X.prog X.w)) n i;simpa[hi,hx]using this
   obtain⟨d,m,F,A,M⟩:=xQ (i:=i) r (by simp[hx]:l[i]? =some l[i])
   rw[t];exact⟨⟨.ref l[i].2.1,⟨d,l[i].2.1,m,rfl,A⟩,rfl⟩,d.2,⟨d,m,rfl⟩,M⟩
end
noncomputable def sW (o:Obj)(a:Addr)(k:Bool):It:=
 ⟨λi H=>∃u,H a=some (.bj o u)/\jO u=true/\i<mR u,λi H x b=>b=H/\∃u,H a=some (.bj o u)/\(if k=true then KH u i H x else valAt u i x),λi H=>∃u,H a=some (.bj o u)/\jO u=true/\mR u<=i⟩
section
variable {P:Program}{w:World}{K:ag}{tg:Expr}{o:Obj}{a it:Addr}{es:Array DictEntry}{ep:Nat}
theorem RU(hd:o.data= .dict es ep):Turn P w K tg (sW o a true) [it] it (λi h=>h.IsKeyIter it a i es.size ep) where
 mem:=by simp
 obj:=λi h st b hb=>by
  have e:b=it:=by simpa using hb
  subst e;obtain⟨o,e,c,d⟩:=st;exact⟨o,e,λv z=>by rw[d]at z;cases z⟩
 keep:=λi h h' st k=>by obtain⟨o,e,c,d⟩:=st;exact⟨o,k it (by simp) o e,c,d⟩
 item:=by
  intro X hP hw hK hc i pins s σ H E I hf st ⟨u,hg,du,hi⟩;subst hP hw hK;obtain⟨es',ep',d',rd,hS,hl,_,hall⟩:=nG I hg du;rw[hd]at d';cases d';have hi':i<es.size:=by rw[hl];exact hi
  obtain⟨f0,f1,f2,f3,f4,f5⟩:=hf it (by simp)
  refine Pn st rd hi' λh' st' sb=>?_
  have I1:Inv X pins σ H { s with heap:=h' }:=I.turned (t':=s.toks) (λb o hb e=>(sb.2 b hb).trans e) f0 f1 f3 f4 f5
  obtain⟨⟨x,k1,k2⟩,_⟩:=hall i hi';obtain⟨oi,e,c,d⟩:=id st';exact⟨_,rfl,rZ (s:={ s with heap:=h' }) e c d (by decide) ⟨x,H,I1,k2,⟨rfl,u,hg,by rw[ai rfl];exact k1⟩,st',λb hb=>(hf b hb).1⟩⟩
 done:=by
  intro X hP hw hK hc i pins s σ H E I hf st ⟨u,hg,du,hi⟩;subst hP hw hK;obtain⟨es',ep',d',rd,hS,hl,_,hall⟩:=nG I hg du;rw[hd]at d';cases d';obtain⟨f0,f1,f2,f3,f4,f5⟩:=hf it (by simp)
  exact Pl (I.ok.hd hc) st rd (by rw[hl];exact hi) λh' eb=>⟨rfl,I.turned (t':=s.toks) (λb o hb e=>eb b o hb e) f0 f1 f3 f4 f5⟩
 self:=λ_ _ _ _ _ st h=>wpAny_pyIter_keyiter st h
theorem RS(hd:o.data= .dict es ep):Turn P w K tg (sW o a false) [it] it (λi h=>h.IsValIter it a i es.size ep) where
 mem:=by simp
 obj:=λi h st b hb=>by
  have e:b=it:=by simpa using hb
  subst e;obtain⟨o,e,c,d⟩:=st;exact⟨o,e,λv z=>by rw[d]at z;cases z⟩
 keep:=λi h h' st k=>by obtain⟨o,e,c,d⟩:=st;exact⟨o,k it (by simp) o e,c,d⟩
 item:=by
  intro X hP hw hK hc i pins s σ H E I hf st ⟨u,hg,du,hi⟩;subst hP hw hK;obtain⟨es',ep',d',rd,hS,hl,_,hall⟩:=nG I hg du;rw[hd]at d';cases d';have hi':i<es.size:=by rw[hl];exact hi
  obtain⟨f0,f1,f2,f3,f4,f5⟩:=hf it (by simp)
  refine FK st rd hi' λh' st' sb=>?_
  have I1:Inv X pins σ H { s with heap:=h' }:=I.turned (t':=s.toks) (λb o hb e=>(sb.2 b hb).trans e) f0 f1 f3 f4 f5
  obtain⟨_,x,k1,k2⟩:=hall i hi';obtain⟨oi,e,c,d⟩:=id st';exact⟨_,rfl,rZ (s:={ s with heap:=h' }) e c d (by decide) ⟨x,H,I1,k2,⟨rfl,u,hg,by rw[ae (by decide)];exact k1⟩,st',λb hb=>(hf b hb).1⟩⟩
 done:=by
  intro X hP hw hK hc i pins s σ H E I hf st ⟨u,hg,du,hi⟩;subst hP hw hK;obtain⟨es',ep',d',rd,hS,hl,_,hall⟩:=nG I hg du;rw[hd]at d';cases d';obtain⟨f0,f1,f2,f3,f4,f5⟩:=hf it (by simp)
  exact FL (I.ok.hd hc) st rd (by rw[hl];exact hi) λh' eb=>⟨rfl,I.turned (t':=s.toks) (λb o hb e=>eb b o hb e) f0 f1 f3 f4 f5⟩
 self:=λ_ _ _ _ _ st h=>wpAny_pyIter_valiter st h
end
def kR:Key->RV
 | .inl i=>.int i
 | .inr x=>.str x
def oR:bV->RV
 |none=>.aq
 |some k=>kR k
def mN(k:Bool)(kvs:bP):LR:=if k=true then kvs.map (λkv=>kR kv.1)else kvs.map (·.2)
def iY(k:Bool)(kvs:List (TK×RV)):LR:=if k=true then kvs.map (λkv=>.tup (kv.1.map oR))else kvs.map (·.2)
theorem Bc{K:ag}(k):Rep K H (kR k) (kV k):=by cases k<;>simp only[kR,kV,Rep]
theorem VR{K:ag}(k):Rep K H (oR k) (oV k):=by
 cases k with
 |none=>simp only[oR,oV,Rep]
 |some k=>exact Bc k
theorem Ir{K:ag}:∀ks:TK,aa K H (ks.map oR) (ks.map oV)
 | []=>aa.nil
 |k::ks=>aa.cons (VR k) (Ir ks)
theorem rM{K:ag}:∀{c:List (κ×RV)} {ws:List (κ×V)} {i:Nat} {w:κ×V},aH K H c ws->ws[i]? =some w->∃r,c[i]? =some (w.1,r)/\Rep K H r w.2
 | [],ws,i,w,h,e=>by have h:ws= []:=h;subst h;simp at e
 |(k,x)::r,ws,i,w,h,e=>by
  obtain⟨v,t,rfl,d,f⟩:=h;cases i with
  |zero=>simp at e;subst e;exact⟨x,by simp,d⟩
  |succ i=>
   obtain⟨q,a,b⟩:=rM (i:=i) f (by simpa using e)
   exact⟨q,by simpa using a,b⟩
section
variable {H0 Hs:Hp}{K:ag}{H1:Hp}{a:Addr}{o:Obj}{k:Bool}
theorem Jq{un:RM->RM}(h:H1 a=some (.bj o (.dK ws)))(r:aH K H1 kvs ws)
 (s:∀H M,Ext H1 H->View K H M->M a=some (.fk kvs)->∃b,fz H0 H b/\bu H b/\Ext Hs b/\View K b (un M)):iZ H0 Hs K (sW o a k) (mN k kvs) (λM=>M a=some (.fk kvs)) un H1 where
 turn:=λi H M e m l x hx=>by
  have f:=e.aK _ _ _ h;have d:(mN k kvs).length=ws.length:=by rw[<-iR r];unfold mN;split<;>simp
  have hi:i<ws.length:=by rw[<-d];exact(ke.mp hx).1
  refine⟨⟨_,f,rfl,hi⟩,λv b y=>?_⟩
  obtain⟨rfl,u,g,y⟩:=y;rw[f]at g;cases g;refine⟨.refl _,λ_ w=>w,?_⟩
  cases k with
  |true=>
   rw[ai rfl]at y;obtain⟨j,e1,rfl⟩:=y;obtain⟨q,c,_⟩:=rM r e1;have:x=kR j.1:=by simpa[mN,c]using hx.symm
   rw[this];exact Bc _
  |false=>
   rw[ae (by decide)]at y
   obtain⟨j,e1,rfl⟩:=y;obtain⟨q,c,n⟩:=rM r e1;have:x=q:=by simpa[mN,c]using hx.symm
   rw[this];exact Rep.ext e _ _ n
 stop:=λi H M e m l hi=>by
  have d:(mN k kvs).length=ws.length:=by rw[<-iR r];unfold mN;split<;>simp
  exact⟨_,e.aK _ _ _ h,rfl,by rw[d]at hi;exact hi⟩
 cB:=s
theorem Jp{un:RM->RM}(h:H1 a=some (.bj o (.dT ws)))(r:aH K H1 kvs ws)
 (v:∀H M,Ext H1 H->View K H M->M a=some (.ft kvs)->∃c,fz H0 H c/\bu H c/\Ext Hs c/\View K c (un M)):iZ H0 Hs K (sW o a k) (iY k kvs) (λM=>M a=some (.ft kvs)) un H1 where
 turn:=λi H M e s n x hx=>by
  have g:=e.aK _ _ _ h;have f:(iY k kvs).length=ws.length:=by rw[<-iR r];unfold iY;split<;>simp
  have hi:i<ws.length:=by rw[<-f];exact(ke.mp hx).1
  refine⟨⟨_,g,rfl,hi⟩,λv c y=>?_⟩
  obtain⟨rfl,u,j,y⟩:=y;rw[g]at j;cases j;refine⟨.refl _,λ_ w=>w,?_⟩
  cases k with
  |true=>
   rw[ai rfl]at y;obtain⟨l,b,e1,rfl,m⟩:=y;obtain⟨q,d,_⟩:=rM r e1;have:x= .tup (l.1.map oR):=by simpa[iY,d]using hx.symm
   rw[this];simp only[Rep];exact⟨b,_,rfl,m,Ir _⟩
  |false=>
   rw[ae (by decide)]at y
   obtain⟨l,e1,rfl⟩:=y;obtain⟨q,d,t⟩:=rM r e1;have:x=q:=by simpa[iY,d]using hx.symm
   rw[this];exact Rep.ext e _ _ t
 stop:=λi H M e s n hi=>by
  have f:(iY k kvs).length=ws.length:=by rw[<-iR r];unfold iY;split<;>simp
  exact⟨_,e.aK _ _ _ h,rfl,by rw[f]at hi;exact hi⟩
 cB:=v
end
noncomputable def mS (k:Bool)(Q:LR->(RM->Prop)->(RM->RM)->RM->Prop):ak:=λv M1=>match v with
 | .ref a=>match M1 a with
  |some (.dk kvs)=>Q (mN k kvs) (λM=>M a=some (.fk kvs)) (λM=>put M a (.dk kvs)) (put M1 a (.fk kvs))
  |some (.dt kvs)=>Q (iY k kvs) (λM=>M a=some (.ft kvs)) (λM=>put M a (.dt kvs)) (put M1 a (.ft kvs))
  |some (.fk kvs)=>Q (mN k kvs) (λM=>M a=some (.fk kvs)) id M1
  |some (.ft kvs)=>Q (iY k kvs) (λM=>M a=some (.ft kvs)) id M1
  |_=>False
 |_=>False
def za(k:Bool)(te:ar):g8:=λσ M Q=>te σ M (mS k Q)
section
variable {X:Cx}{tg:Expr}
theorem hold{H H1:Hp}{s:Shared}{rv:RV}{v:V}{M1:RM}(I:Inv X pins σ0 H1 s)(e1:Ext H H1)(v1:View X.K H1 M1)(r1:Rep X.K H1 rv v)(q:mS k Q rv M1):
 ∃a o u H2 xs ok un M2,v= .ref a/\Inv X pins σ0 H2 s/\H2 a=some (.bj o u)/\jO u=true/\iZ X.H₀ H X.K (sW o a k) xs ok un H2/\Q xs ok un M2/\Ext H H2/\View X.K H2 M2:=by
 cases rv<;>first|(exact(show False from q).elim)|skip
 rename_i a;simp only[Rep]at r1;unfold mS at q;simp only at q;split at q
 . rename_i kvs em
   obtain⟨ho,eh,ws,rfl,r⟩:=v1 a _ em;obtain⟨ob,g,I2,n0⟩:=uV I eh rfl;have ex:Ext H1 (upd H1 a (.bj ob (.dK ws))):=Ext.write eh rfl;refine⟨a,ob,.dK ws,_,_,_,_,_,r1,I2,bO,rfl,Jq bO (r.ext ex) λH2 M e hv hm=>?_,q,e1.trans ex,v1.write em ⟨ob,ws,rfl,r.ext ex⟩⟩
   have hH:=e.aK _ _ _ (bO (H:=H1) (a:=a) (o:=.bj ob (.dK ws)));have xw:bu H2 (upd H2 a (.dK ws)):=bu.cB hH rfl;refine⟨upd H2 a (.dK ws),.inr ⟨a,ob,_,hH,rfl,n0,rfl⟩,xw,⟨λb xs z=>?_,λb o' u' z=>?_⟩,hv.write hm ⟨ws,rfl,aH.ba xw (r.ext (ex.trans e))⟩⟩
   . have z1:=e.bq _ _ (ex.bq _ _ (e1.bq _ _ z))
     rw[au (by rintro rfl;rw[hH]at z1;cases z1)];exact z1
   . have z0:=e1.aK _ _ _ z
     rw[au (by rintro rfl;rw[eh]at z0;cases z0)];exact e.aK _ _ _ (ex.aK _ _ _ z0)
 . rename_i kvs em
   obtain⟨ho,eh,ws,rfl,r⟩:=v1 a _ em;obtain⟨ob,g,I2,n0⟩:=uV I eh rfl;have ex:Ext H1 (upd H1 a (.bj ob (.dT ws))):=Ext.write eh rfl;refine⟨a,ob,.dT ws,_,_,_,_,_,r1,I2,bO,rfl,Jp bO (r.ext ex) λH2 M e hv hm=>?_,q,e1.trans ex,v1.write em ⟨ob,ws,rfl,r.ext ex⟩⟩
   have hH:=e.aK _ _ _ (bO (H:=H1) (a:=a) (o:=.bj ob (.dT ws)));have xw:bu H2 (upd H2 a (.dT ws)):=bu.cB hH rfl;refine⟨upd H2 a (.dT ws),.inr ⟨a,ob,_,hH,rfl,n0,rfl⟩,xw,⟨λb xs z=>?_,λb o' u' z=>?_⟩,hv.write hm ⟨ws,rfl,aH.ba xw (r.ext (ex.trans e))⟩⟩
   . have z1:=e.bq _ _ (ex.bq _ _ (e1.bq _ _ z))
     rw[au (by rintro rfl;rw[hH]at z1;cases z1)];exact z1
   . have z0:=e1.aK _ _ _ z
     rw[au (by rintro rfl;rw[eh]at z0;cases z0)];exact e.aK _ _ _ (ex.aK _ _ _ z0)
 . rename_i kvs em
   obtain⟨ho,eh,ob,ws,rfl,r⟩:=v1 a _ em;exact⟨a,ob,.dK ws,H1,_,_,_,_,r1,I,eh,rfl,Jq eh r (nJ e1),q,e1,v1⟩
 . rename_i kvs em
   obtain⟨ho,eh,ob,ws,rfl,r⟩:=v1 a _ em;exact⟨a,ob,.dT ws,H1,_,_,_,_,r1,I,eh,rfl,Jp eh r (nJ e1),q,e1,v1⟩
 . exact q.elim
theorem ZH{l:Expr}(C:aj X l te):iJ X tg l (za true te):=by
 intro c s i H R I h;obtain⟨W,M,Q,hs,E,D,A⟩:=h;refine aB (C c s i H (λx H1=>∃rv M1,Rep X.K H1 rv x/\mS true Q rv M1/\Ext H H1/\View X.K H1 M1) I ⟨W,M,_,hs,E,D,λrv M1 v H1 q e1 g r1=>⟨rv,M1,r1,q,e1,g⟩⟩) λuv f U=>?_;obtain⟨v,H1,k,L,rv,M1,r1,q,e1,g⟩:=U
 obtain⟨a,o,u,j,O,J,un,m,rfl,d,t,n,F,q,r,N⟩:=hold k e1 g r1 q;cases(show uv=Value.ref a from L)
 obtain⟨Z,Y,z,rd,w,_⟩:=nG d t n;refine Ss w rd ?_;refine⟨f.heap.objs.size,[f.heap.objs.size],_,_,j,rfl,d.kept (t':=f.toks) λb o e=>bK _ e,RU z,⟨_,dJ _ rfl,rfl,rfl⟩,λb y=>?_,A O J un m _ j q r N F⟩
 have e:b=f.heap.objs.size:=by simpa using y
 subst e;exact d.fZ (aU _) (d.av.fresh (aU _))
theorem Jk{s:Shared}{a:Addr}(I:Inv X pins σ0 H s)(h:H a=some (.bj o u))(c:jO u=true):s.TypeIs (.ref a) "dict"/\∀b,Value.ref a= .ref b->∃ob,s.heap.get? b=some ob/\ob.dict=none:=by
 obtain⟨i,g,k,rd,_⟩:=nG I h c;refine⟨rd.ty,λb e=>?_⟩
 cases e;obtain⟨o1,d,f,j⟩:=rd;exact⟨o1,d,f.2.1⟩
theorem ZG{l:Expr}{ap p:Pos}(W:aj X l te)(c:attributeBase l "values" X.env (eval l X.env)=eval l X.env)(d:(ap.endLine==p.line)=true):iJ X tg (.Call (.Attribute l "values" ap) [] [] p) (za false te):=by
 intro b s g H R I h;obtain⟨σ,M,Q,hs,Z,Y,U⟩:=h;refine wpAny_Call_method (T:="dict") (id:="dict.values") c rfl d F.plainAttrs_dict F.slot_dict_values F.type_dict_values (aB (W b s g H (λx H1=>∃rv M1,Rep X.K H1 rv x/\mS false Q rv M1/\Ext H H1/\View X.K H1 M1) I ⟨σ,M,_,hs,Z,Y,λrv M1 v H1 q e1 n r1=>⟨rv,M1,r1,q,e1,n⟩⟩) λuv f zz=>?_);obtain⟨v,H1,A,rl,rv,M1,r1,q,e1,n⟩:=zz
 obtain⟨a,o,u,i,xs,ok,un,C,rfl,j,y,r,it,q,D,v2⟩:=hold A e1 n r1 q;cases(show uv=Value.ref a from rl)
 obtain⟨w,t,O,rd,L,_⟩:=nG j y r;obtain⟨z,t2⟩:=Jk j y r;refine⟨z,t2,method_meetsIn F.slot_dict_values F.entry_dict_values rfl (PySem.evalArgs_none ⟨rfl,z,F.args_dict_values_1 _,_,Gb L,⟨w,t,rd⟩,?_⟩)⟩;have k:Inv X b g i { f with heap:=f.heap.push { cls:=.type "dict_values",data:=.fields #[.ref a] } }:=j.kept (t':=f.toks) λb o e=>bK _ e
 have m:bR (f.heap.push { cls:=.type "dict_values",data:=.fields #[.ref a] }) a w t:=by obtain⟨o1,E,J⟩:=rd;exact⟨o1,bK _ E,J⟩
 refine Gi (s:={ f with heap:=f.heap.push { cls:=.type "dict_values",data:=.fields #[.ref a] } }) ⟨_,dJ _ rfl,rfl,rfl⟩ m ?_
 refine⟨_,[_],_,_,i,rfl,k.kept (t':=f.toks) λb o e=>bK _ e,RS O,⟨_,dJ _ rfl,rfl,rfl⟩,λb N=>?_,U xs ok un C _ i q D v2 it⟩
 have e:=fG.mp N;subst e;exact k.fZ (aU _) (k.av.fresh (aU _))
end
noncomputable def Itm (o:Obj)(a:Addr):It:=
 ⟨λi H=>∃b:List (Key×V),H a=some (.bj o (.dK b))/\i<b.length,λi H x c=>∃(b:List (Key×V)) (kv:Key×V) (p:Addr),H a=some (.bj o (.dK b))/\b[i]? =some kv/\x= .ref p/\H p=none/\c=upd H p (.tup [kV kv.1,kv.2]),λi H=>∃b:List (Key×V),H a=some (.bj o (.dK b))/\b.length<=i⟩
section
variable {X:Cx}
theorem AR{s:Shared}{a:Addr}(I:Inv X pins σ H s)(h:H a=some (.bj o (.dK ws))):∃vs b d,o.data= .dict b d/\KV ws vs/\s.heap.DictAt (dv X.prog X.w) a vs d/\(a==sysModules)=false/\vs.length=b.size:=by
 obtain⟨g,z,y,vs,r,j,b,d,e,c,dd,ks,f,i⟩:=I.av a _ h;rw[g]at e;cases e;exact⟨vs,b,d,dd,r,⟨o,b,g,c,dd,ks,f,i⟩,y,by have:=f.length;simp at this;omega⟩
theorem Po:entryFor table "dict_itemiterator.__iter__" =some Builtin.«dict_keyiterator.__iter__»:=entryFor_alias (id':="dict_keyiterator.__iter__") (by kernel_rfl) rfl (by decide+kernel) (by kernel_rfl)
theorem Ra{P:Program}{K:ag}{o:Obj}{a it:Addr}{tk:Nat}(hd:o.data= .dict es ep):Turn P w K (.Tuple ts tk tp) (Itm o a) [it] it (λi h=>∃ok ov,IsItemIter h it a i es.size ep ok ov) where
 mem:=by simp
 obj:=λi h st b hb=>by
  have e:b=it:=by simpa using hb
  subst e;obtain⟨_,_,st⟩:=st;exact⟨_,st,λv z=>by cases z⟩
 keep:=λi h h' st k=>by obtain⟨x,y,st⟩:=st;exact⟨x,y,k it (by simp) _ st⟩
 item:=by
  intro X hP hw hK hc i pins s σ H E I hf ⟨x0,y0,st⟩ ⟨ws,hg,hi⟩;subst hP hw hK;obtain⟨vs,es',ep',d',r,da,hS,hl⟩:=AR I hg;rw[hd]at d';cases d';have hv:i<vs.length:=by have:=Paired.length r;omega
  obtain⟨kv,k1,k2,k3⟩:=xQ (i:=i) r (by simp[hv]:vs[i]? =some vs[i])
  obtain⟨f0,f1,f2,f3,f4,f5⟩:=hf it (by simp)
  refine wpAny_pyNext_items_item (knd:=dv X.prog X.w) (k:=vs[i].1) (v:=vs[i].2) (by rw[hl];exact st) da (by simp[hv]) λkey h' hk st' tp' sz kp=>⟨_,rfl,?_⟩
  refine wpAny_letOwnedTupleGo_items (s:={ s with heap:=h' }) st' λh2 st2 sb=>?_
  have fu:=I.av.fresh (aU s.heap.objs.size);have hpi:s.heap.objs.size≠it:=Nat.ne_of_gt (bJ st);have t2:h2.get? s.heap.objs.size=some { cls:=.type "tuple",data:=.seq #[key,vs[i].2] }:=sb.extBut _ _ hpi tp';have rk:Vals [kV kv.1,kv.2] [key,vs[i].2]:=.cons (by rw[k2];exact Hh hk) (.cons k3 .nil)
  have I1:Inv X pins σ (upd H s.heap.objs.size (.tup [kV kv.1,kv.2])) { s with heap:=s.heap.push { cls:=.type "tuple",data:=.seq #[key,vs[i].2] },toks:=s.toks }:=
   I.laid (λb o e=>bK _ e) (aU _) ⟨by show 2<=sizeLine;decide,[key,vs[i].2],rk,IsTup.new s.heap _⟩
  have I2:Inv X pins σ (upd H s.heap.objs.size (.tup [kV kv.1,kv.2])) { s with heap:=h2 }:=Inv.turned (s:={ s with heap:=s.heap.push { cls:=.type "tuple",data:=.seq #[key,vs[i].2] },toks:=s.toks }) (h':=h2) (t':=s.toks) (it:=it) I1 (λb o hb e=>?_) (by rw[au hpi.symm];exact f0) f1 f3 f4 f5
  . exact⟨.ref s.heap.objs.size,_,I2,rfl,⟨ws,kv,_,hg,k1,rfl,fu,rfl⟩,⟨_,_,by rw[<-hl];exact st2⟩,λb hb=>by
     have e:b=it:=by simpa using hb
     subst e;rw[au hpi.symm];exact f0⟩
  . rcases Heap.get?_push_cases e with⟨rfl,rfl⟩|e'
    . exact t2
    . exact sb.extBut b o hb (kp b o hb e')
 done:=by
  intro X hP hw hK hc i pins s σ H E I hf ⟨x0,y0,st⟩ ⟨ws,hg,hi⟩;subst hP hw hK;obtain⟨vs,es',ep',d',r,da,hS,hl⟩:=AR I hg;rw[hd]at d';cases d';have hv:vs.length<=i:=by have:=Paired.length r;omega
  obtain⟨f0,f1,f2,f3,f4,f5⟩:=hf it (by simp)
  exact wpAny_pyNext_items_end (knd:=dv X.prog X.w) (I.ok.hd hc) (by rw[hl];exact st) da (by simp[hv]) λh' eb=>⟨rfl,I.turned (t':=s.toks) (λb o hb e=>eb b o hb e) f0 f1 f3 f4 f5⟩
 self:=λA i s Q E st h=>by
  obtain⟨x,y,st⟩:=st;have hT:s.TypeIs (.ref it) "dict_itemiterator":=⟨_,st,rfl⟩;refine wpAny_pyIter_slot hT F.slot_dict_itemiterator_iter (ja F.slot_dict_itemiterator_iter hT Po ?_ (F.args_dict_itemiterator_iter_1 _));refine(?_:wpAny _ _ (ret (.ref it)) _ _ s);exact aD ⟨_,rfl,"dict_itemiterator",_,hT,F.slot_dict_itemiterator_next.lookup,h⟩
def jj(kvs:bP):LR:=kvs.map λkv=>.tup [kR kv.1,kv.2]
theorem Jr{K:ag}{H1:Hp}{a:Addr}{un:RM->RM}(h:H1 a=some (.bj o (.dK ws)))(r:aH K H1 kvs ws)
 (s:∀H M,Ext H1 H->View K H M->M a=some (.fk kvs)->∃b,fz H0 H b/\bu H b/\Ext Hs b/\View K b (un M)):iZ H0 Hs K (Itm o a) (jj kvs) (λM=>M a=some (.fk kvs)) un H1 where
 turn:=λi H M e l k x hx=>by
  have f:=e.aK _ _ _ h;have c:(jj kvs).length=ws.length:=by rw[<-iR r];simp[jj]
  have hi:i<ws.length:=by rw[<-c];exact(ke.mp hx).1
  refine⟨⟨_,f,hi⟩,λv b y=>?_⟩
  obtain⟨t,m,p,g,e1,rfl,d,rfl⟩:=y;rw[f]at g;cases g;obtain⟨q,j,n⟩:=rM r e1;have:x= .tup [kR m.1,q]:=by simpa[jj,j]using hx.symm
  rw[this];exact⟨Ext.new d,λ_ w=>w.new d,rL d (aa.cons (Bc _) (aa.cons (Rep.ext e _ _ n) aa.nil))⟩
 stop:=λi H M e l k hi=>by
  have c:(jj kvs).length=ws.length:=by rw[<-iR r];simp[jj]
  exact⟨_,e.aK _ _ _ h,by rw[c]at hi;exact hi⟩
 cB:=s
noncomputable def sF (Q:LR->(RM->Prop)->(RM->RM)->RM->Prop):ak:=λv M1=>match v with
 | .ref a=>match M1 a with
  |some (.dk kvs)=>Q (jj kvs) (λM=>M a=some (.fk kvs)) (λM=>put M a (.dk kvs)) (put M1 a (.fk kvs))
  |some (.fk kvs)=>Q (jj kvs) (λM=>M a=some (.fk kvs)) id M1
  |_=>False
 |_=>False
def Ep(te:ar):g8:=λσ M Q=>te σ M (sF Q)
theorem ZJ{H H1:Hp}{s:Shared}{rv:RV}{v:V}{M1:RM}(I:Inv X pins σ0 H1 s)(e1:Ext H H1)(v1:View X.K H1 M1)(r1:Rep X.K H1 rv v)(q:sF Q rv M1):
 ∃a o ws H2 xs ok un M2,v= .ref a/\Inv X pins σ0 H2 s/\H2 a=some (.bj o (.dK ws))/\iZ X.H₀ H X.K (Itm o a) xs ok un H2/\Q xs ok un M2/\Ext H H2/\View X.K H2 M2:=by
 cases rv<;>first|(exact(show False from q).elim)|skip
 rename_i a;simp only[Rep]at r1;unfold sF at q;simp only at q;split at q
 . rename_i kvs em
   obtain⟨ho,eh,ws,rfl,r⟩:=v1 a _ em;obtain⟨ob,g,I2,n0⟩:=uV I eh rfl;have ex:Ext H1 (upd H1 a (.bj ob (.dK ws))):=Ext.write eh rfl;refine⟨a,ob,ws,_,_,_,_,_,r1,I2,bO,Jr bO (r.ext ex) λH2 M e hv hm=>?_,q,e1.trans ex,v1.write em ⟨ob,ws,rfl,r.ext ex⟩⟩
   have hH:=e.aK _ _ _ (bO (H:=H1) (a:=a) (o:=.bj ob (.dK ws)));have xw:bu H2 (upd H2 a (.dK ws)):=bu.cB hH rfl;refine⟨upd H2 a (.dK ws),.inr ⟨a,ob,_,hH,rfl,n0,rfl⟩,xw,⟨λb xs z=>?_,λb o' u' z=>?_⟩,hv.write hm ⟨ws,rfl,aH.ba xw (r.ext (ex.trans e))⟩⟩
   . have z1:=e.bq _ _ (ex.bq _ _ (e1.bq _ _ z))
     rw[au (by rintro rfl;rw[hH]at z1;cases z1)];exact z1
   . have z0:=e1.aK _ _ _ z
     rw[au (by rintro rfl;rw[eh]at z0;cases z0)];exact e.aK _ _ _ (ex.aK _ _ _ z0)
 . rename_i kvs em
   obtain⟨ho,eh,ob,ws,rfl,r⟩:=v1 a _ em;exact⟨a,ob,ws,H1,_,_,_,_,r1,I,eh,Jr eh r (nJ e1),q,e1,v1⟩
 . exact q.elim
theorem Xu{l:Expr}{ap p:Pos}{tk:Nat}(n:aj X l te)(c:attributeBase l "items" X.env (eval l X.env)=eval l X.env)(d:(ap.endLine==p.line)=true):iJ X (.Tuple ts tk tp) (.Call (.Attribute l "items" ap) [] [] p) (Ep te):=by
 intro b s g H R I h;obtain⟨σ,M,Q,hs,O,N,J⟩:=h;refine wpAny_Call_method (T:="dict") (id:="dict.items") c rfl d F.plainAttrs_dict F.slot_dict_items F.type_dict_items (aB (n b s g H (λx H1=>∃rv M1,Rep X.K H1 rv x/\sF Q rv M1/\Ext H H1/\View X.K H1 M1) I ⟨σ,M,_,hs,O,N,λrv M1 v H1 q e1 t r1=>⟨rv,M1,r1,q,e1,t⟩⟩) λuv f zz=>?_);obtain⟨v,H1,y,Y,rv,M1,r1,q,e1,t⟩:=zz
 obtain⟨a,o,ws,i,xs,W,un,z,rfl,j,u,U,q,A,v2⟩:=ZJ y e1 t r1 q;cases(show uv=Value.ref a from Y)
 obtain⟨vs,es,ep,E,r,m,C,n⟩:=AR j u;obtain⟨w,Z⟩:=Jk j u rfl;refine⟨w,Z,method_meetsIn F.slot_dict_items F.entry_dict_items rfl (PySem.evalArgs_none ⟨rfl,w,F.args_dict_items_1 _,_,meets_dict_items (dv X.prog X.w) a C,⟨vs,m.dictOf⟩,?_⟩)⟩;have k:Inv X b g i { f with heap:=f.heap.push { cls:=.type "dict_items",data:=.fields #[.ref a] } }:=j.kept (t':=f.toks) λb o e=>bK _ e
 refine wpAny_pyIter_items (s:={ f with heap:=f.heap.push { cls:=.type "dict_items",data:=.fields #[.ref a] } }) ⟨_,dJ _ rfl,rfl,rfl⟩ (m.push _) ?_
 have L:a<f.heap.objs.size:=m.lt_size;refine⟨_,[_],_,_,i,rfl,k.kept (t':=f.toks) λb o e=>bK _ e,Ra E,⟨_,_,by rw[<-n];exact dJ _ rfl⟩,λb D=>?_,J xs W un z _ i q A v2 U⟩
 have e:=fG.mp D;subst e;exact k.fZ (aU _) (k.av.fresh (aU _))
end
section
variable {prog:Program}{w:World}{A:Around}{d r:Addr}{es:Array DictEntry}{ep:Nat}
theorem bR.keep{h h':Heap}(x:bR h d es ep)(k:∀o,h.get? d=some o->h'.get? d=some o):bR h' d es ep:=by obtain⟨o,a,b⟩:=x;exact⟨o,k o a,b⟩
theorem bR.lt(x:bR h d es ep):d<h.objs.size:=by obtain⟨o,a,b⟩:=x;exact bJ a
theorem RQ(hh:A.handled=none)(I:Addr)(hne:d≠I):Walks prog w A I [I,d] [I] es.size (λi v=>∃hi:i<es.size,v=es[i].val) (λi h=>h.IsValIter I d i es.size ep/\bR h d es ep) where
 sub:=λb hb=>by simp at hb;simp[hb]
 frame:=λ_ _ _ st hk=>⟨st.1.at λo e=>hk I (by simp) o e,st.2.keep λo e=>hk d (by simp) o e⟩
 item:=λi s Q E hi st hQ=>FK st.1 st.2 hi λh' hit' hs'=>hQ _ h' s.toks ⟨hi,rfl⟩ ⟨hit',st.2.keep λo e=>hs'.extBut d o hne e⟩ λb o hb e=>hs'.extBut b o (λh=>hb (by simp[h])) e
 done:=λs Q E st hQ=>FL hh st.1 st.2 (aU _) λh' he'=>hQ h' s.toks λb o hb e=>he' b o (λh=>hb (by simp[h])) e
 self:=λ_ _ _ _ st hQ=>wpAny_pyIter_valiter st.1 hQ
theorem SD:PySem.W.KdlSrc prog w "dict_values" r d es.size (λi v=>∃hi:i<es.size,v=es[i].val) (λh=>h.IsValuesView r d/\bR h d es ep) where
 type:=λ_ a=>a.1.typeIs
 there:=λ_ a=>⟨let⟨_,ho,_⟩:=a.1;bJ ho,a.2.lt⟩
 keep:=λ_ _ a c=>⟨let⟨o,ho,x⟩:=a.1;⟨o,c r (.inl rfl) o ho,x⟩,a.2.keep λo e=>c d (.inr rfl) o e⟩
 notList:=by decide
 notTuple:=by decide
 hint:=λ_ _ _ _ a b=>PySem.W.kdl_hint_values a.1.typeIs b
 iter:=λ_ _ f a=>⟨_,_,(λ_ _ b=>Gi a.1 a.2 b),RQ f _ (cX a.2.lt),⟨⟨_,dJ _ rfl,rfl,rfl⟩,a.2.keep λo e=>bK _ e⟩⟩
end
noncomputable def vJ:RO->Option (LR)
 | .dk kvs=>some (kvs.map (·.2))
 | .fk kvs=>some (kvs.map (·.2))
 | .dt kvs=>some (kvs.map (·.2))
 | .ft kvs=>some (kvs.map (·.2))
 |_=>none
def tQ(md:Bool)(Q:ak):ak:=λv M=>match v with
 | .ref a=>match(M a).bind vJ with
  |some xs=>mQ md xs M Q
  |none=>False
 |_=>False
def Ma(md:Bool)(te:ar):ar:=λσ M Q=>te σ M (tQ md Q)
section
variable {X:Cx}
theorem uG{K:ag}:∀{a:List (κ×RV)} {ws:List (κ×V)},aH K H a ws->aa K H (a.map (·.2)) (ws.map (·.2))
 | [],ws,h=>by have h:ws= []:=h;subst h;exact aa.nil
 |(k,x)::r,ws,h=>by obtain⟨v,t,rfl,b,c⟩:=h;exact aa.cons b (uG c)
theorem XE{s:Shared}{a:Addr}(I:Inv X pins σ0 H s)(L:View X.K H M)(F:M a=some o)(h:vJ o=some xs):
 ∃vs c k,bR s.heap a c k/\(a==sysModules)=false/\c.size=vs.length/\vs.length<=sizeLine/\aa X.K H xs vs/\∀i (hi:i<c.size),∃x,vs[i]? =some x/\RelV x c[i].val:=by
 obtain⟨ho,m,r⟩:=L a o F;have d:∀u n ob vs,Inv X pins σ0 n s->n a=some (.bj ob u)->jO u=true->(∀i x,valAt u i x->vs[i]? =some x)->mR u=vs.length->aa X.K H xs vs->∃vs c k,bR s.heap a c k/\(a==sysModules)=false/\c.size=vs.length/\vs.length<=sizeLine/\aa X.K H xs vs/\∀i (hi:i<c.size),∃x,vs[i]? =some x/\RelV x c[i].val:=λu n ob vs j D A t v J=>by
  obtain⟨c,k,h,rd,E,e1,C,l⟩:=nG j D A;exact⟨vs,c,k,rd,E,by rw[e1,v],by rw[<-v];exact C,J,λi hi=>by obtain⟨_,x,N,O⟩:=l i hi;exact⟨x,t i x N,O⟩⟩
 have w:∀(b:List (Key×V)) i x,valAt (.dK b) i x->(b.map (·.2))[i]? =some x:=λws i x ⟨Q,e,z⟩=>by rw[gm,e,z];rfl
 have y:∀(b:List (TK×V)) i x,valAt (.dT b) i x->(b.map (·.2))[i]? =some x:=λws i x ⟨Q,e,z⟩=>by rw[gm,e,z];rfl
 cases o<;>first|(cases h;done)|skip
 . obtain⟨b,rfl,f⟩:=r
   cases h;obtain⟨ob,g,j,R⟩:=uV I m rfl;exact d _ _ ob (b.map (·.2)) j bO rfl (w b) (by simp[mR]) (uG f)
 . obtain⟨b,rfl,f⟩:=r
   cases h;obtain⟨ob,g,j,R⟩:=uV I m rfl;exact d _ _ ob (b.map (·.2)) j bO rfl (y b) (by simp[mR]) (uG f)
 . obtain⟨ob,b,rfl,f⟩:=r
   cases h;exact d _ _ ob (b.map (·.2)) I m rfl (w b) (by simp[mR]) (uG f)
 . obtain⟨ob,b,rfl,f⟩:=r
   cases h;exact d _ _ ob (b.map (·.2)) I m rfl (y b) (by simp[mR]) (uG f)
theorem Gp:∀{vs:LV} {us:az},us.length=vs.length->(∀(i:Nat) u,us[i]? =some u->∃x,vs[i]? =some x/\RelV x u)->Vals vs us
 | [],[],_,_=>.nil
 | [],_::_,h,_=>by cases h
 |_::_,[],h,_=>by cases h
 |v::vs,u::us,h,f=>by
  obtain⟨x,e,r⟩:=f 0 u rfl;cases e;exact .cons r (Gp (by simpa using h) λi u e=>f (i+1) u (by simpa using e))
theorem ZU{l:Expr}{p1 ap r pos:Pos}(A:X.mg "list" =none)(hc:X.calm=true)(hl:aj X l te)(z:Gl X "list")(c:attributeBase l "values" X.env (eval l X.env)=eval l X.env)(d:(ap.endLine==r.line)=true):
 aj X (.Call (.Name "list" p1) [.Call (.Attribute l "values" ap) [] [] r] [] pos) (Ma md te):=by
 intro b s w H Q0 I h;obtain⟨σ,M,Q,hs,hv,ht,N⟩:=h;have k:starEach [Expr.Call (.Attribute l "values" ap) [] [] r] X.env=(false,eval (Expr.Call (.Attribute l "values" ap) [] [] r) X.env)::starEach [] X.env:=rfl;refine Call_ (nN I z A boot_list (wu ?_ k rfl));rw[k];show wpAny _ _ (spliced ((false,eval (Expr.Call (.Attribute l "values" ap) [] [] r) X.env)::backTo pos (starEach [] X.env))) _ _ s;refine Calls.spliced_cons (wpAny_Call_method (T:="dict") (id:="dict.values") c rfl d F.plainAttrs_dict F.slot_dict_values F.type_dict_values (aB (hl b s w H (λx H1=>∃rv M1,Rep X.K H1 rv x/\tQ md Q rv M1/\Ext H H1/\View X.K H1 M1) I ⟨σ,M,_,hs,hv,ht,λrv M1 v H1 q e1 f r1=>⟨rv,M1,r1,q,e1,f⟩⟩) λuv t zz=>?_));obtain⟨v,H1,D,rl,rv,M1,r1,q,e1,f⟩:=zz
 cases rv<;>first|(exact(show False from q).elim)|skip
 rename_i a;simp only[Rep]at r1;subst r1;cases(show uv=Value.ref a from rl)
 unfold tQ at q;simp only at q;split at q
 . rename_i xs ex
   obtain⟨o,hm,hd⟩:=Option.bind_eq_some_iff.mp ex;obtain⟨vs,W,U,rd,hS,J,L,O,j⟩:=XE D f hm hd;refine⟨rd.ty,λb e=>by cases e;obtain⟨o1,Y,Z,h3⟩:=rd;exact⟨o1,Y,Z.2.1⟩,method_meetsIn F.slot_dict_values F.entry_dict_values rfl (PySem.evalArgs_none ⟨rfl,rd.ty,F.args_dict_values_1 _,_,Gb hS,⟨W,U,rd⟩,Calls.spliced_nil ?_⟩)⟩
   have y:Inv X b w H1 { t with heap:=t.heap.push { cls:=.type "dict_values",data:=.fields #[.ref a] } }:=D.kept (t':=t.toks) λb o e=>bK _ e
   refine PySem.W.kdl_call (s:={ t with heap:=t.heap.push { cls:=.type "dict_values",data:=.fields #[.ref a] } }) SD (y.ok.hd hc) ⟨⟨_,dJ _ rfl,rfl,rfl⟩,rd.keep λo e=>bK _ e⟩ (by rw[J];exact L) λh' tk g R kp m n=>?_
   have C:Vals vs g.toList:=Gp (by simp[n.1,J]) λi u e=>by
    obtain⟨hi,rfl⟩:=n.2 i u (by rw[<-Array.getElem?_toList];exact e)
    exact j i hi
   have fu:=y.av.fresh (aU _);have E:=y.laid (t':=tk) (o:=.lst vs) (h':=h') kp (aU _) ⟨L,g.toList,R,C,by simpa using m⟩
   cases md with
   |true=>exact⟨.ref _,_,E,rfl,N (.ref _) _ _ _ (q _ (f.free fu)) (e1.trans (Ext.new fu)) (f.cj fu ⟨vs,rfl,aa.ext (Ext.new fu) _ _ O⟩) (by simp only[Rep])⟩
   |false=>exact frozen ⟨.ref _,_,E,rfl,H1,_,vs,rfl,fu,rfl,λo=>N _ M1 _ _ q (e1.trans (Ext.new fu)) (f.new fu) (j4 fu O)⟩
 . exact q.elim
end
def cz(r:TK):RV:=.tup (r.map oR)
section
variable {X:Cx}
def Et:LR->RM->ak->Prop:=λrs M Q=>∃a:List Bool,rs= [.ls (a.map RV.bl)]/\Q (.bl (a.any id)) M
theorem range_any(bs:List Bool):(List.range bs.length).any (λi=>bs.getD i true)=bs.any id:=by
 induction bs with
 |nil=>rfl
 |cons b bs ih=>
  rw[cY,List.range_succ_eq_map,jX,List.any_map,jX];have:((λi=>(b::bs).getD i true) ∘ Nat.succ)=λi=>bs.getD i true:=by funext i;rfl
  rw[this,ih];rfl
theorem Ug(N:X.calm=true):dm X (.builtin "any") (fE X.K Et):=by
 intro d s r H xs us Q0 I W h;obtain⟨rs,M,Q,Y,U,⟨f,rfl,R⟩,O⟩:=h;obtain⟨v,rfl,r1⟩:=Y.one;simp only[Rep]at r1;obtain⟨a,vs,rfl,F,J⟩:=r1;have:=A2 J;subst this;obtain⟨u,rfl,ru⟩:=W.one;cases ru;obtain⟨ab,rv,p,hz⟩:=I.list F.sq;have:=AZ rv;subst this;have m:a<s.heap.objs.size:=by obtain⟨o,n,e,_⟩:=p;exact bJ e
 refine call_any_walk (wpAny_pyIter_list p.isList ?_);have hd:X.A.in1.handled=none:=I.ok.hd N;refine⟨s.heap.objs.size,_,_,_,_,_,λi=>f.getD i true,rfl,Walks.list hd s.heap.objs.size a (cX m) (f.map Value.bool).toArray,⟨⟨_,dJ _ rfl,rfl,rfl⟩,p.isList.push _⟩,?_,?_⟩
 . intro i v Z x E' L j
   have c:(f.map Value.bool)[i]? =some v:=by simpa using L
   rw[gm]at c;cases e:f[i]? with
   |none=>rw[e]at c;cases c
   |some b=>
    rw[e]at c;have k:f.getD i true=b:=by rw[List.getD_eq_getElem?_getD,e];rfl
    cases c;have g:x (f.getD i true) Z:=j;rw[k]at g;exact jS g
 . intro h' tk l
   have t:Inv X d r H { s with heap:=s.heap.push { cls:=.type "list_iterator",data:=.fields #[.ref a,.int 0 0] } }:=I.kept (t':=s.toks) λb o e=>bK _ e
   obtain⟨y,A,f2,C,D,E⟩:=I.fZ (aU _) (I.av.fresh (aU _));have w:Inv X d r H { s with heap:=h',toks:=tk }:=by
    have z:=t.turned (h':=h') (t':=tk) (it:=s.heap.objs.size) (λb o k e=>l b o (by simpa using k) e) y A C D E
    exact z
   refine⟨.bl (f.any id),H,w,?_,O _ M _ H R (.refl H) U (by simp only[Rep])⟩
   show _=_;rw[<-range_any];simp
theorem Xo:bootBuiltins "any" =some (.builtin "any"):=by decide+kernel
def BR:LR->RM->ak->Prop:=λrs M Q=>match rs with
 | [.bl b]=>Q (.int (if b then 1 else 0)) M
 |_=>False
theorem OA:dm X (.type "int") (fE X.K BR):=by
 intro c s l H k us j I g h;obtain⟨rs,M,Q,i,f,a,d⟩:=h;unfold BR at a;split at a
 . rename_i b
   obtain⟨v,rfl,r1⟩:=i.one;simp only[Rep]at r1;subst r1;obtain⟨u,rfl,ru⟩:=g.one;cases ru;exact call_int_bool ⟨.int _,H,I.kept λb o e=>e,⟨_,rfl⟩,d _ M _ H a (.refl H) f (by simp only[Rep])⟩
 . exact a.elim
variable {tg:Expr}{pos:Pos}
end
section
variable {prog:Program}{w:World}{A:Around}{s:Shared}{E:aX}
structure yT(v:Str)(params:Arguments)(scope:Scope):Prop where
 bd:∀name qual body pm cd ct u,bindArgs (kla_fn name qual params body scope [] pm cd ct) ⟨[u],[]⟩=pure [(v,u)]
 loc:scope.names.lookup v=some .local
 cell:∀y∈scope.names,y.2≠.cell
 co:scope.isCoroutine=false
 gen:scope.isGenerator=false
 kind:scope.kind= .function
 jw:(v==("__debug__":Str))=false
theorem eG.kp{h h':Heap}{x a C:Addr}(O:eG h x a C mA)(k:∀b o,h.get? b=some o->h'.get? b=some o):eG h' x a C mA:=
 let⟨o,es,ep,ho,r⟩:=O.ns;⟨k _ _ O.obj,⟨o,es,ep,k _ _ ho,r⟩,O.ne⟩
theorem UZ{K:Frag}{f c' x C dx:Addr}{name qual v fld:Str}{p1 p2:Pos}{Q:aX}
 (hroom:A.depth<recursionLimit) (mz:K.In s.heap) (lim:s.heap.NoLimit) (L:yT v params scope)
 (ho:s.heap.get? f=some (kla_obj name qual params (.Attribute (.Name v p1) fld p2) scope [] pm c' ctv)) (hcd:s.heap.CodeRec (.ref c') qual)
 (O:eG s.heap x dx C mA) (c:cZ K C) (n:aZ K C fld) (hu:mA fld=some u) (hh:handedIn u=true)
 (h:∀h' tk,(∀b o,s.heap.get? b=some o->h'.get? b=some o)->Q u { s with heap:=h',toks:=tk }):
 wpAny (model prog w) A (call (.ref f) [.ref x]) Q E s:=by
 refine wpAny_call (kla_callFunE hroom ho rfl L.co L.gen rfl hcd ?_);rw[L.bd];refine aD (wpAny_newFunctionEnv L.cell (λy hy=>by cases fG.mp hy;exact L.loc) (λh₁ hns hsb=>⟨lim.fresh _ hsb,kla_codeExpr ?_⟩) L.kind)
 have kp:∀b o,s.heap.get? b=some o->h₁.get? b=some o:=λb o e=>hsb.extBut b o (cX (bJ e)) (bK _ e)
 refine Jc rfl (wpAny_Name (wpAny_loadName_local (v:=Value.ref x) L.kind (show _=_ from L.loc) hns (by simp) ?_) L.jw)
 refine get_map (K:=K) (mz.keeps kp) (eG.kp O kp) (c.get fld) c.hd n hu hh ?_;exact h _ _ kp
end
section
variable {X:Cx}{pins:aJ}{σ:L2.St}{H:Hp}{s:Shared}{h':Heap}
theorem XQ{l f c' C:Addr}{name M v w:Str}{p1 p2:Pos}{as:List Addr}{ks:List Int}(I:Inv X pins σ H s)
 (hl:s.heap.IsList l (as.map Value.ref).toArray) (Z:ks.length=as.length) (h64:as.length<64) (hi:∀(i:Nat) a k,as[i]? =some a->ks[i]? =some k->∃dx fs,H a=some (.ins C dx fs)/\fs.lookup w=some (.int k))
 (R:X.A.depth<recursionLimit) (L:yT v params scope) (ho:s.heap.get? f=some (kla_obj name M params (.Attribute (.Name v p1) w p2) scope [] pm c' ctv)) (hcd:s.heap.CodeRec (.ref c') M)
 (c:cZ X.K C) (n:aZ X.K C w)
 (h:∀D h' tk y j,(∀m,s.heap.Ns X.env.locals m->h'.Ns X.env.locals m)->(∀b o,b≠X.env.locals->s.heap.get? b=some o->h'.get? b=some o)->s.heap.get? D=none->D≠X.env.locals->h'.get? D=some (seqObj "list" y j)->KskOut false ks (as.map Value.ref) y.toList->Q (.ref D) { s with heap:=h',toks:=tk }):
 wpAny (model X.prog X.w) X.A (call (.builtin "sorted") [.ref l] [(Str.ofString "key",.ref f)]) Q E s:=by
 obtain⟨m,F⟩:=I.fr;have nL:∀b,(∃m',s.heap.Ns X.env.locals m')->b=X.env.locals->∀o,s.heap.get? b=some o->∃N j,o.data= .dict N j:=λb ⟨m',o',N,j,q,d,_⟩ e o z=>by
  rw[e,q]at z;cases z;exact⟨N,j,d⟩
 have fL:f≠X.env.locals:=λe=>by obtain⟨_,_,d⟩:=nL f ⟨m,F.ns⟩ e _ ho;cases d
 have ho':=ho;obtain⟨c1,oc,vc,tc,ec,gc,dc,qc⟩:=hcd;cases ec;have cL:c'≠X.env.locals:=λe=>by obtain⟨_,_,d⟩:=nL c' ⟨m,F.ns⟩ e _ gc;rw[dc]at d;cases d
 have aL:∀b u,H b=some u->b≠X.env.locals:=λb u e z=>by rw[z,I.free]at e;cases e
 refine ksk_sorted (h₀:=X.base) (news:=rest X.base s.heap X.env.locals s.heap.objs.size) (kz:=ks) (f:=.ref f) F (λp A=>S7 p (bB.mp A).1) hl (by rw[bo];exact Z) (by rw[bo];exact h64) (ksk_s1 _ _) (λx=>ksk_l1 _ _) (λx=>ksk_t1 f x) ?turn ?fin
 case turn=>
  intro i v' k hv hk W tk own J U;rw[gm]at hv;cases ea:as[i]? with
  |none=>rw[ea]at hv;cases hv
  |some a=>
   rw[ea]at hv;cases hv;obtain⟨dx,fs,e1,e2⟩:=hi i a k ea hk;have Y:∀b o,b≠X.env.locals->s.heap.get? b=some o->W.get? b=some o:=λb o hb e=>FP (d:=s.heap.objs.size) I.bk J (λp A=>U p (oM _ A)) b o hb (cX (bJ e)) e
   obtain⟨mA,O,r,_,_,hdx⟩:=yu I.av e1;obtain⟨u,hu,ru⟩:=bS.some_of (v:=V.int k) (o:=mA w) (by rw[<-e2];exact r w)
   obtain⟨t,rfl⟩:=(show ∃t,u=Value.int k t from ru)
   obtain⟨od,N,j,g1,g2⟩:=O.ns;have O1:eG W a dx C mA:=⟨Y _ _ (aL a _ e1) O.obj,⟨od,N,j,Y _ _ (aL dx _ hdx) g1,g2⟩,O.ne⟩;refine UZ (K:=X.K) (s:={ s with heap:=W,toks:=tk }) R (I.ok.mod.mz.keeps J.keep) (I.ok.mod.nolimit.keeps J.keep) L (Y _ _ fL ho') ⟨c',oc,vc,tc,rfl,Y _ _ cL gc,dc,qc⟩ O1 c n hu rfl λh2 tk2 k2=>?_
   exact KskEnd.intro ⟨(by obtain⟨o,N,j,g,r⟩:=J.ns;exact⟨o,N,j,k2 _ _ g,r⟩),λb o e=>k2 b o (J.keep b o e),J.above⟩ (λp A=>⟨k2 _ _ (U p A).1,(U p A).2⟩) λp A=>A
 case fin=>
  intro D W tk y j J U lt ko;have Y:∀b o,b≠X.env.locals->s.heap.get? b=some o->W.get? b=some o:=λb o hb e=>FP (d:=s.heap.objs.size) I.bk J (λp A=>U p (gJ _ A)) b o hb (cX (bJ e)) e
  have hD:=U (D,seqObj "list" y j) iH;refine h D W tk y j (λm' hm'=>by rw[hm'.eq_nsMap,<-F.ns.eq_nsMap];exact J.ns) Y ?_ hD.2.1 hD.1 ko
  cases q:s.heap.get? D with
  |none=>rfl
  |some o=>exact aW (lt _ (Hy hD.2.1 hD.2.2 q (cX (bJ q)))) (km _)
end
theorem Bg{P:Program}{a:Addr}{x:Option Addr}(e:gx a pos x h):aG P w H h a (.ext (gx a pos x)):=⟨e,⟨_,e⟩,λ_ _ e k=>k _ e⟩
section
variable {X:Cx}{pins:aJ}{σ:L2.St}{H:Hp}{s:Shared}{P c c':Addr}{pos:Pos}{h':Heap}{u:HO}{oc:Obj}
theorem Inv.qL(I:Inv X pins σ H s)(h:H P=some (.ext (gx P pos none)))(k:∀b o,b≠P->s.heap.get? b=some o->h'.get? b=some o)(j:s.heap.objs.size<=c')(f:h'.get? c'=some oc)(m:gx P pos (some c') h'):
 Inv X pins σ (upd (upd H P (.ext (gx P pos (some c')))) c' (.bj oc (.own c'))) { s with heap:=h',toks:=t' }:=by
 have l:H c'=none:=I.av.fresh j;have x:c'≠P:=aY (fh h l);have i:∀b,H b=none->b≠P:=λb n z=>by rw[z,h]at n;cases n
 have t:∀b o,s.heap.get? b=some o->b≠c':=λb o e=>cX (fT (bJ e) j)
 have g:∀b u,H b=some u->b≠P->upd (upd H P (.ext (gx P pos (some c')))) c' (.bj oc (.own c')) b=some u:=λb u e z=>by rw[au (fh e l),au z];exact e
 have a:∀b u,H b=some u->u≠.ext (gx P pos none)->b≠P:=λb u e z y=>by subst y;rw[h]at e;exact z (d0 e).symm
 refine I.un ⟨λb o e n _ _=>k b o (i b n) e,λb o e n _ _=>⟨o.slots,k b o (i b n) e⟩,λb o e n _=>(au (t b o e)).trans ((au (i b n)).trans n),λb o e _=>?_,λb w e=>g b _ e (a b _ e nofun),λb o u e=>g b _ e (a b _ e nofun),λb A e=>⟨#[],(g b _ e (a b _ e nofun)).trans (by simp)⟩⟩ λb u e=>?_
 . by_cases z:b=P
   . exact⟨_,z ▸ m⟩
   . exact⟨o,k b o z e⟩
 . by_cases z:b=c'
   . subst z;rw[bO]at e;cases e;exact⟨f,_,f⟩
   . rw[au z]at e
     by_cases y:b=P
     . subst y;rw[bO]at e;cases e;exact Bg m
     . rw[au y]at e
       refine(I.av b u e).fj (λd v r q=>k d v ?_ q) (λd q=>g d _ q (a d _ q nofun)) λd w q=>g d _ q (a d _ q nofun)
       rcases r with rfl|q
       . exact y
       . exact a d _ q nofun
theorem Ti{q:Str}{ho:HO}{body:Expr}{Q:aX}(I:Inv X pins σ H s)(hP:H P=some ho)(r:de X.K H (.tb P pos q) ho)
 (hcode:X.env.code= .ref c) (C:CodeHd X.base c P) (hb:X.base.BuiltinsAt X.mg P) (hgP:mainGlobals≠P) (hdef:defaultsOf params X.env=([],[])) (hcl:closureFor scope X.env=pure []) (hq:X.env.qual++("<lambda>":Str)=q)
 (h:∀f c' ctv h' tk H',Inv X pins σ H' { s with heap:=h',toks:=tk }->Ext H H'->(∀b u,H b=some u->b≠P->H' b=some u)->(∃ho',H' P=some ho'/\de X.K H' (.tb P pos q) ho')->
  h'.get? f=some (kla_obj "<lambda>" q params body scope [] ((X.mg "__name__").getD .none) c' ctv)->h'.CodeRec (.ref c') q->Q (.ref f) { s with heap:=h',toks:=tk }):
 wpAny M A (eval (.Lambda params body scope pos) X.env) Q E s:=by
 subst hq;have hg:s.heap.Ns mainGlobals X.mg:=by obtain⟨o,es,ep,e,z⟩:=I.ok.mod.glob;exact⟨o,es,ep,I.bk _ _ e,z⟩
 have hb':s.heap.BuiltinsAt X.mg P:=by obtain⟨bm,o,b1,b2,b3,b4,b5,b6⟩:=hb;exact⟨bm,o,b1,b2,b3,b4,I.bk _ _ b5,b6⟩
 refine kla_eval hdef ?_;rcases r with rfl|⟨c',oc,vs,t,rfl,hc',hd,hv⟩
 . have ht:gx P pos none s.heap:=(I.av P _ hP).1
   refine kla_makeFunction (mg:=X.mg) (clos:=[]) (ps:=#[]) hcl I.ok.glob hg hcode (C.keeps I.bk) ht (by first|trivial|decide|simp[TriplesOk]) rfl hgP hb' λc' ctv h1 tk hx hge hlt hrec htb=>?_
   obtain⟨c2,oc,vs,t,e2,hoc,hd,hv⟩:=hrec;cases e2;have I':=R.Inv.qL (t':=tk) (h':=h1.push (kla_obj "<lambda>" (X.env.qual++("<lambda>":Str)) params body scope [] ((X.mg "__name__").getD .none) c' ctv)) (c':=c') (oc:=oc) I hP (λb o hb e=>bK _ (hx b o hb e)) hge (bK _ hoc) (bK _ htb)
   have hn:H c'=none:=I.av.fresh hge;have cP:c'≠P:=aY (fh hP hn);have kp:∀b u,H b=some u->b≠P->upd (upd H P (.ext (gx P pos (some c')))) c' (.bj oc (.own c')) b=some u:=λb u e z=>by rw[au (fh e hn),au z];exact e
   have np:∀b u,H b=some u->u≠.ext (gx P pos none)->b≠P:=λb u e z y=>by subst y;rw[hP]at e;exact z (d0 e).symm
   refine h _ c' ctv _ tk _ I' ⟨λb xs e=>kp b _ e (np b _ e nofun),λb o u e=>kp b _ e (np b _ e nofun)⟩ kp ⟨_,by rw[au (aY cP)];exact bO,.inr ⟨c',oc,vs,t,rfl,bO,hd,hv⟩⟩ (dJ _ rfl) ⟨c',oc,vs,t,rfl,bK _ hoc,hd,hv⟩
 . have ht:gx P pos (some c') s.heap:=(I.av P _ hP).1
   have hoc:s.heap.get? c'=some oc:=(I.av c' _ hc').1;refine kla_makeFunctionHit (mg:=X.mg) (clos:=[]) (ps:=#[rawInt pos.line,rawInt pos.col,.ref c']) (cv:=.ref c') hcl I.ok.glob hg hcode (C.keeps I.bk) ht (by first|trivial|decide|simp[TriplesOk]) (by simp[codeAmong,rawInt]) hb' λctv h1 tk hk hsz=>?_
   exact h _ c' ctv _ tk H (I.kept (t':=tk) λb o e=>bK _ (hk b o e)) (.refl H) (λb u e _=>e) ⟨_,hP,.inr ⟨c',oc,vs,t,rfl,hc',hd,hv⟩⟩ (dJ _ rfl) ⟨c',oc,vs,t,rfl,bK _ (hk _ _ hoc),hd,hv⟩
end
theorem Iv{K:Frag}:∀{as:List Addr} {vs:LV},aa K H (as.map RV.ref) vs->vs=as.map V.ref
 | [],_,h=>by simpa only[oJ,aa]using h
 |a::as,vs,h=>by
  simp only[bF,aa,Rep]at h;obtain⟨v,r,rfl,rfl,b⟩:=h;rw[Iv b];rfl
theorem HI:∀{as:List Addr} {us:az},Vals (as.map V.ref) us->us=as.map Value.ref
 | [],_,h=>by rw[oJ]at h;cases h;rfl
 |a::as,_,h=>by
  rw[bF]at h;cases h with
  |cons r t=>rw[HI t];cases(show _=Value.ref a from r);rfl
theorem HR{K:Frag}:∀{as:List Addr},aa K H (as.map RV.ref) (as.map V.ref)
 | []=>aa.nil
 |a::as=>aa.cons (by simp only[Rep]) HR
theorem Hb:∀{as:List Addr},Vals (as.map V.ref) (as.map Value.ref)
 | []=>.nil
 |a::as=>.cons rfl Hb
def adr:Value->Addr
 | .ref a=>a
 |_=>0
theorem WY{c:List (Int×Addr)}(h:KskOut false (c.map Prod.fst) ((c.map Prod.snd).map Value.ref) out):∃g:List (Int×Addr),g.Perm c/\g.Pairwise (λa b=>a.1<=b.1)/\out=(g.map Prod.snd).map Value.ref:=by
 obtain⟨d,f,rfl,j⟩:=h;have e:(c.map Prod.fst).zip ((c.map Prod.snd).map Value.ref)=c.map λz=>(z.1,Value.ref z.2):=by rw[bG,List.zip_map'];rfl
 rw[e]at f;have i:∀p∈d,p=(p.1,Value.ref (adr p.2)):=λp h=>by
  obtain⟨z,_,rfl⟩:=aP.mp (f.mem_iff.mp h);rfl
 have k:d=(d.map λp=>(p.1,adr p.2)).map λz=>(z.1,Value.ref z.2):=by
  rw[bG];exact(List.map_id d).symm.trans (iG λp h=>i p h)
 refine⟨d.map λp=>(p.1,adr p.2),?_,?_,?_⟩
 . have:=f.map λp=>(p.1,adr p.2)
   rwa [bG,show((λp:Int×Value=>(p.1,adr p.2)) ∘ λz:Int×Addr=>(z.1,Value.ref z.2))=id from rfl,List.map_id]at this
 . rw[List.pairwise_map];exact j
 . conv=>lhs;rw[k]
   rw[bG,bG,bG,bG];rfl
section
variable {X:Cx}{pins:aJ}{σ:L2.St}{H:Hp}{s:Shared}{h':Heap}{D:Addr}{o:HO}
theorem Inv.tS(I:Inv X pins σ H s)(k:∀b o,b≠X.env.locals->s.heap.get? b=some o->h'.get? b=some o)(ns:∀m,s.heap.Ns X.env.locals m->h'.Ns X.env.locals m)(h:s.heap.get? D=none)(g:aG X.prog X.w (upd H D o) h' D o):Inv X pins σ (upd H D o) { s with heap:=h',toks:=t' }:=by
 have hn:=none_of I h;have i:∀b u,H b=some u->b≠X.env.locals:=λb u e z=>by rw[z,I.free]at e;cases e
 have d:∀b u,H b=some u->upd H D o b=some u:=λb u e=>(au (fh e hn)).trans e
 refine I.step (g':=s.gens) (d':=s.drawn) (ch:=[]) (λ_ z=>nomatch z) (λb o f _ _ e _=>k b o f e) (λb o f _ _ e _=>⟨o.slots,k b o f e⟩) (λb q _ e n=>(au λz=>by rw[z,h]at e;cases e).trans n) (λb o _ e=>?_) (λb _ e=>d b _ e) (λb _ _ e=>d b _ e) (λb r e=>⟨#[],(d b _ e).trans (by simp)⟩) ns (λb u e=>?_) I.bare
 . by_cases a:b=X.env.locals
   . obtain⟨m,hn,_⟩:=I.loc
     obtain⟨l,_,_,q,_⟩:=ns m hn;exact⟨l,a ▸ q⟩
   . exact⟨o,k b o a e⟩
 . by_cases a:b=D
   . subst a;rw[bO]at e;cases e;exact g
   . rw[au a]at e
     refine(I.av b u e).fj (λc v j q=>k c v ?_ q) (λc q=>d c _ q) λc t q=>d c _ q
     rcases j with z|z
     . rw[z];exact i b u e
     . exact i c _ z
end
noncomputable def z8 (C:Addr)(d:Str)(P:Addr)(g:Pos)(q:Str)(Q:ak):ak:=λx M=>∃c:List (Int×Addr),
 (x= .ls ((c.map Prod.snd).map RV.ref)∨∃a,x= .ref a/\M a=some (.lst ((c.map Prod.snd).map RV.ref)))/\(∀z∈c,∃f,M z.2=some (.ins C f)/\f.lookup d=some (.int z.1))/\c.length<64/\M P=some (.tb P g q)/\
 ∀e:List (Int×Addr),e.Perm c->e.Pairwise (λa b=>a.1<=b.1)->Q (.ls ((e.map Prod.snd).map RV.ref)) M
def Mb(C:Addr)(fld:Str)(P:Addr)(lp:Pos)(q:Str)(te:ar):ar:=λσ M Q=>te σ M (z8 C fld P lp q Q)
section
variable {X:Cx}{e:Expr}{te:ar}{p p1 p2 kp lp pos:Pos}{v fld q:Str}{params:Arguments}{scope:Scope}{C P cc:Addr}
theorem Wi(he:aj X e te)(hm:X.mg "sorted" =none)(hg:Gl X "sorted")(c:cZ X.K C)(n:aZ X.K C fld)(L:yT v params scope)(m:X.A.depth<recursionLimit)
 (g:X.env.code= .ref cc) (CH:CodeHd X.base cc P) (hb:X.base.BuiltinsAt X.mg P) (hgP:mainGlobals≠P) (E:defaultsOf params X.env=([],[])) (hcl:closureFor scope X.env=pure []) (hq:X.env.qual++("<lambda>":Str)=q)
 (s1:starEach [e] X.env=(false,eval e X.env)::starEach [] X.env):aj X (.Call (.Name "sorted" p) [e] [⟨some "key",.Lambda params (.Attribute (.Name v p1) fld p2) scope lp,kp⟩] pos) (Mb C fld P lp q te):=by
 intro N s σ0 H Q0 I h;obtain⟨σ,M,Q,hs,hv,ht,hk⟩:=h;have bt:bootBuiltins "sorted" =some (.builtin "sorted"):=by decide+kernel
 refine wpAny_Call_Name_kw (nN I hg hm bt ?_);have W:backTo pos (starEach [e] X.env)=(false,eval e X.env)::backTo pos (starEach [] X.env):=by rw[s1];rfl
 refine PyProof.Rows.callWith_kw ?_ W (by rw[W];rfl)
 rw[W];refine Calls.spliced_cons (aB (he N s σ0 H (λv H1=>∃x M1,z8 C fld P lp q Q x M1/\Ext H H1/\View X.K H1 M1/\Rep X.K H1 x v) I ⟨σ,M,_,hs,hv,ht,λrv M' v H' q e w r=>⟨rv,M',q,e,w,r⟩⟩) λu s1 ⟨v1,H1,I1,r1,x,M1,⟨kx,hx,hi,h64,hP,hQ⟩,ex1,w1,rep⟩=>Calls.spliced_nil ?_)
 show wpAny _ _ (evalAll [do let v<-eval (.Lambda params (.Attribute (.Name v p1) fld p2) scope lp) X.env;standAt pos;pure v]) _ _ _
 obtain⟨ho,eP,rP⟩:=w1 P _ hP;refine wpAny_evalAll_cons (ah (Ti I1 eP rP g CH hb hgP E hcl hq λf c' ctv h2 tk A O d t ⟨ho2,eP2,rP2⟩ hof hcd=>ah (wpAny_standAt (aD (wpAny_evalAll_nil ?_)))))
 have nP:∀b u,H1 b=some u->(∀φ,u≠.ext φ)->b≠P:=λb u e z y=>by
  subst y;rw[eP]at e;cases e;rcases rP with rfl|⟨_,_,_,_,rfl,_⟩<;>exact z _ rfl
 have w2:View X.K A M1:=λa o e=>by
  by_cases ha:a=P
  . subst ha;rw[hP]at e;cases e;exact⟨ho2,eP2,rP2⟩
  . obtain⟨j,e1,r'⟩:=w1 a o e
    exact⟨j,t a _ e1 ha,r'.ext d⟩
 have lst:∃l,u= .ref l/\h2.IsList l ((kx.map Prod.snd).map Value.ref).toArray:=by
  have fin:∀l vs,dE X.K A l vs->aa X.K A ((kx.map Prod.snd).map RV.ref) vs->v1= .ref l->∃l,u= .ref l/\h2.IsList l ((kx.map Prod.snd).map Value.ref).toArray:=λl vs hs J ev=>by
   subst ev;cases r1;obtain⟨ab,U,⟨o,n,R,g2,g3,g4⟩,hz⟩:=O.list hs;rw[Iv J]at U;rw[HI U]at g4;exact⟨l,rfl,o,R,g2,n,g4⟩
  rcases hx with rfl|⟨a,rfl,ea⟩
  . simp only[Rep]at rep
    obtain⟨a,vs,ev,hf,J⟩:=rep;exact fin a vs (hf.ext d).sq (aa.ext d _ _ J) ev
  . simp only[Rep]at rep
    obtain⟨j,e1,vs,rfl,J⟩:=w1 a _ ea;exact fin a vs (.inl (.inl (t a _ e1 (nP a _ e1 nofun)))) (aa.ext d _ _ J) rep
 obtain⟨l,rfl,hl⟩:=lst;show wpAny _ _ (call (.builtin "sorted") [.ref l] [(Str.ofString "key",.ref f)]) _ _ _;refine XQ (as:=kx.map Prod.snd) (ks:=kx.map Prod.fst) O hl (by rw[bo,bo]) (by rw[bo];exact h64) (λi a k e1 Y=>?_) m L hof hcd c n λD h3 tk3 out ep ns kp3 hD nD F ko=>?_
 . rw[gm]at e1 Y
   cases ez:kx[i]? with
   |none=>rw[ez]at e1;cases e1
   |some z=>
    rw[ez]at e1 Y;cases e1;cases Y;obtain⟨fs,m1,m2⟩:=hi z (kf ez);obtain⟨j,R,dx,gs,rfl,g2⟩:=w1 _ _ m1;obtain⟨u',l1,l2⟩:=xn g2 m2;simp only[Rep]at l2;exact⟨dx,gs,t _ _ R (nP _ _ R nofun),l2 ▸ l1⟩
 . obtain⟨ys,hp,U,eo⟩:=WY ko
   have hn:=none_of O hD;have Z:out=((ys.map Prod.snd).map Value.ref).toArray:=by rw[<-eo]
   subst Z;refine frozen ⟨.ref D,upd A D (.lst ((ys.map Prod.snd).map V.ref)),Inv.tS (t':=tk3) O kp3 ns hD ⟨?_,_,ep,Hb,F⟩,rfl,A,D,_,rfl,hn,rfl,λo=>?_⟩
   . rw[bo,bo,hp.length_eq];exact cq (oK h64) (by decide)
   . exact hk _ M1 _ _ (hQ ys hp U) (ex1.trans (d.trans (Ext.new hn))) (w2.new hn) (j4 hn HR)
end
inductive T where
 |v (i:Nat)|i (n:Int)|s (x:Str)|b (x:Bool)|n
 |g (x:Str)|ty (x:String)
 |op (o:Operator) (a b:T)|cm (o:CmpOp) (a b:T)|ch (o p:CmpOp) (a b c:T)
 |an (a b:T)|or (a b:T)|no (a:T)|ie (t a b:T)
 |tu (a:T)|ll (a:T)|lm (a:T)|e0|ec (a r:T)
 |ix (a b:T)|sl (a l h:T)|p0|p1 (a:T)
 |fl (c:Nat) (f:Str) (a:T)
 |ca (f:Nat) (a:T)|me (f:Nat) (o a:T)|mk (c:Nat) (a:T)
 |bf (f:Str) (a:T)|bt (f:Str) (a:T)
 |ap (o a:T)
 |dg (d k:T)|dn (neg:Bool) (k d:T)|d1 (d k:T)|dk|dt
 |ic (neg:Bool) (a:T) (x:Str)
 |tx (x:Str) (a:T)|tn (x:Str) (a:T)
 |cv (i:Nat) (a:T)
 |di (l:List (Str×Int)) (a:T)
 |cp (md tup:Bool) (nm:aE) (cap:List (Nat×Str)) (it t e:T)
 |sc (i:Nat) (md tup:Bool) (nm:aE) (cap:List (Nat×Str)) (it t e:T)
 |lr (a b:T)
 |ik (a:T)|iv (a:T)|im (a:T)|lv (md:Bool) (a:T)
 |pr (i j:Nat) (a:T)|af (c:Nat) (f:Str) (o a:T)|dd (d k:T)
 |is (a:T)|r1 (a:T)|st (a:T)
 |set (i:Nat) (a:T)|un (is:List Nat) (a:T)|sf (c:Nat) (f:Str) (o a:T)|dp (d k a:T)|sp (l i a:T)
 |re (a:T)|r0|bc (t a b:T)|fo (tup:Bool) (is:List Nat) (it b:T)|ex (a:T)|ra
 |se (a b:T)|en
 |dy (ks:aE) (a:T)
 |sk (c:Nat) (f:Str) (a:T)
structure FD where
 kind:Nat
 cls:Nat
 name:Str
 ps:aE
 N:aE
 body:T
structure SI where
 gi:List (Str×Int)
 gt:List (Str×aE)
 tb:aE
 tt:List (Str×List (TK×Str))
 cl:aE
 fs:List (Nat×Str)
 bl:aE
 fd:List FD
 ln:aE:=[""]
 lp:Pos:=⟨0,0,0,0⟩
 lq:Str:=""
structure G where
 S:SI
 tb:Str->bP
 C:Nat->Addr
 fn:Nat->cu
 nE:Nat->cu
 iK:List (Addr×cu)
 lP:Addr
def iy:Operator->cM
 | .Add=>zg| .Sub=>E4| .Mult=>Eh| .Mod=>Ei| .FloorDiv=>Es| .Pow=>E7
 |_=>λ_ _ _ _=>False
noncomputable def cU:CmpOp->cM
 | .Lt=>L9| .LtE=>L8| .Gt=>L6| .GtE=>L5| .Eq=>Er| .NotEq=>Eg| .Is=>L7| .IsNot=>JC| .In=>zc false| .NotIn=>zc true
noncomputable def CF:String->RV->Option Bool:=λx=>if x= "int" then Jt else if x= "bool" then is_bool else if x= "str" then Js else if x= "tuple" then HA else if x= "list" then II elseλ_=>none
noncomputable def BQ:LR->RM->ak->Prop:=λrs M Q=>match rs with
 | [.ref a,.ty "list"]=>match M a with|some (.lst _)=>Q (.bl true) M|_=>False
 | [x,.ty t]=>match CF t x with|some c=>Q (.bl c) M|none=>False
 |_=>False
noncomputable def Bx:LR->RM->ak->Prop:=λrs M Q=>match rs with
 | [.ref a]=>match M a with
  |some (.lst xs)=>Q (.int xs.length) M
  |some (.dk kvs)=>Q (.int kvs.length) M
  |some (.dt kvs)=>Q (.int kvs.length) M
  |_=>False
 |rs=>y9 rs M Q
noncomputable def gF (f:Str):LR->RM->ak->Prop:=
 if f= "len" then Bx else if f= "isinstance" then BQ else if f= "all" then Eu else if f= "max" then Kp else if f= "sorted" then JA else if f= "ord" then E9 else if f= "any" then Et elseλ_ _ _=>False
def tm(f:Str):LR->RM->ak->Prop:=
 if f= "tuple" then A9 else if f= "list" then Bw else if f= "int" then BR elseλ_ _ _=>False
noncomputable def q9 (C:Addr)(f:Str)(Q:ak):ak:=λx M=>match x with
 | .ref a=>match M a with
  |some (.ins C' fs)=>C'=C/\match fs.lookup f with
   |some v=>Q v M
   |none=>False
  |_=>False
 |_=>False
def Ce(C:Addr)(f:Str)(ta:ar):ar:=λσ M Q=>ta σ M (q9 C f Q)
noncomputable def rf (C:Addr)(f:Str)(y:RV)(N:RM->Prop):ak:=λx M=>match x with
 | .ref a=>match M a with
  |some (.ins C' fs)=>C'=C/\fs.length<1000/\N (put M a (.ins C (j7 f y fs)))
  |_=>False
 |_=>False
def Cf(C:Addr)(f:Str)(ta b:ar):d9:=λD a M=>b a M λy M1=>ta a M1 (rf C f y (D.nx a))
noncomputable def pT (C:Addr)(m:Str)(sp:cu)(t:bX)(σ:bD)(Q:ak):ak:=λx M=>match x with
 | .ref a=>match M a with
  |some (.ins C' fs)=>C'=C/\fs.lookup m=none/\t σ M λrs b=>sp (.ref a::rs) b Q
  |_=>False
 |_=>False
def qM(C:Addr)(m:Str)(sp:cu)(ta:ar)(t:bX):ar:=λσ M Q=>ta σ M (pT C m sp t σ Q)
def ji:ar:=λ_ _ _=>False
structure Sm where
 E:ar:=λ_ _ _=>False
 T:ee:=λ_ _ _=>False
 A:bX:=λ_ _ _=>False
 I:g8:=λ_ _ _=>False
 P:oX:=λ_ _ _=>False
 S:d9:=λ_ _ _=>False
 L:List ar:=[]
def ex(e:ar):Sm:={ E:=e,T:=mK e }
noncomputable def tr (g:G):T->Sm
 | .v i=>ex (qC i)
 | .i n=>ex (rC (.int n))
 | .s x=>ex (rC (.str x))
 | .b x=>ex (rC (.bl x))
 | .n=>ex (rC .aq)
 | .g x=>ex (match g.S.gi.lookup x with|some i=>rC (.int i)|none=>ji)
 | .ty x=>ex (rC (.ty x))
 | .op o a b=>ex (ou (iy o) (tr g a).E (tr g b).E)
 | .cm o a b=>ex (ou (cU o) (tr g a).E (tr g b).E)
 | .ch o p a b c=>ex (rS (cU o) (cU p) (tr g a).E (tr g b).E (tr g c).E)
 | .an a b=>{ E:=yM (tr g a).E (tr g b).E,T:=zf (tr g a).T (tr g b).T }
 | .or a b=>{ E:=y8 (tr g a).E (tr g b).E,T:=zv (tr g a).T (tr g b).T }
 | .no a=>{ E:=Kn (tr g a).E,T:=Fb (tr g a).T }
 | .ie t a b=>ex (zu (tr g t).T (tr g a).E (tr g b).E)
 | .tu a=>ex (E3 (tr g a).A)
 | .ll a=>ex (Ek (tr g a).A)
 | .lm a=>ex (Ej (tr g a).A)
 | .e0=>{ A:=mV }
 | .ec a r=>{ A:=sh (tr g a).E (tr g r).A,L:=(tr g a).E::(tr g r).L }
 | .ix a b=>ex (ou bI (tr g a).E (tr g b).E)
 | .sl a l h=>ex (Mc (tr g a).E (tr g l).P (tr g h).P)
 | .p0=>{ P:=Fc }
 | .p1 a=>{ P:=Km (tr g a).E }
 | .fl c f a=>ex (Ce (g.C c) f (tr g a).E)
 | .ca f a=>ex (j6 (g.fn f) (tr g a).A)
 | .me f o a=>ex (match g.S.fd[f]? with|some d=>qM (g.C d.cls) d.name (g.fn f) (tr g o).E (tr g a).A|none=>ji)
 | .mk f a=>ex (match g.S.fd[f]? with|some d=>sg (g.C d.cls) (g.nE f) (tr g a).A|none=>ji)
 | .bf f a=>ex (j6 (gF f) (tr g a).A)
 | .bt f a=>ex (j6 (tm f) (tr g a).A)
 | .ap o a=>ex (ze (tr g o).E (tr g a).A)
 | .dg d k=>ex (J7 (tr g d).E (tr g k).E)
 | .dn neg k d=>ex (sv neg (tr g k).E (tr g d).E)
 | .d1 d k=>ex (JS (tr g d).E (tr g k).E)
 | .dk=>ex Kg
 | .dt=>ex JD
 | .ic neg a x=>ex (match g.S.gt.lookup x with|some m=>sD neg m (tr g a).E|none=>ji)
 | .tx x a=>ex (y7 (g.tb x) (tr g a).E)
 | .tn x a=>ex (AM (g.tb x) (tr g a).E)
 | .cv i a=>ex (JE g.iK (qC i) (tr g a).A)
 | .di l a=>ex (AO (gQ l) (tr g a).E)
 | .cp md tup nm cap it t e=>ex (rR (fW tup nm.length) md (tr g it).I (cap.map Prod.fst) (tr g t).T (tr g e).E)
 | .sc i md tup nm cap it t e=>{ S:=vU i (rR (fW tup nm.length) md (tr g it).I (cap.map Prod.fst) (tr g t).T (tr g e).E) }
 | .lr a b=>ex (JB (tr g a).E (tr g b).E)
 | .ik a=>{ I:=za true (tr g a).E }
 | .iv a=>{ I:=za false (tr g a).E }
 | .im a=>{ I:=Ep (tr g a).E }
 | .lv md a=>ex (Ma md (tr g a).E)
 | .pr i j a=>{ S:=E8 i j (tr g a).A }
 | .af c f o a=>{ S:=Mg (g.C c) f (tr g o).E (tr g a).E }
 | .dd d k=>{ S:=JR (tr g d).E (tr g k).E }
 | .is a=>{ I:=Em (tr g a).E }
 | .r1 a=>{ I:=Eo (tr g a).E }
 | .st a=>{ I:=El (tr g a).E }
 | .set i a=>{ S:=vU i (tr g a).E }
 | .un is a=>{ S:=BS (tr g a).E (wg is) }
 | .sf c f o a=>{ S:=Cf (g.C c) f (tr g o).E (tr g a).E }
 | .dp d k a=>{ S:=JQ (tr g d).E (tr g k).E (tr g a).E }
 | .sp l i a=>{ S:=BS (tr g a).E (Ki (tr g l).E (tr g i).E qx) }
 | .re a=>{ S:=E6 (tr g a).E }
 | .r0=>{ S:=Kl }
 | .bc t a b=>{ S:=zd (tr g t).T (tr g a).S (tr g b).S }
 | .fo tup is it b=>{ S:=Kr (tr g it).I (match tup,is with|true,is=>wg is|false,[i]=>kc i|_,_=>λ_ _ _ _=>False) (tr g b).S }
 | .ex a=>{ S:=Ks (tr g a).E }
 | .ra=>{ S:=λ_ _ _=>False }
 | .se a b=>{ S:=E5 (tr g a).S (tr g b).S }
 | .en=>{ S:=Ko }
 | .dy ks a=>ex (Kf (ks.zip (tr g a).L))
 | .sk c f a=>ex (Mb (g.C c) f g.lP g.S.lp g.S.lq (tr g a).E)
inductive Nd where
 |e (x:Expr)|t (x:Expr)|a (xs:aV)|i (tg x:Expr)|p (x:Option Expr)|s (x:Stmt)|b (xs:List Stmt)|l (xs:aV)
noncomputable def gP(sc:Scope)(x:Str):Bool:=sc.names.lookup x==some .globalImplicit&& !(x==("__debug__":Str))
noncomputable def yF(tup:Bool)(a:Expr)(nm:aE):Bool:=match tup,a with
 |false,.Name x _=>nm==[x]
 |true,.Tuple es _ _=>nV es==some nm
 |_,_=>false
noncomputable def mH(N:aE):List Nat->aV->Bool
 | [],[]=>true
 |i::is,.Name x _::es=>(N[i]? ==some x)&&mH N is es
 |_,_=>false
def cf(sc:Scope)(x:Str):Bool:=sc.names.lookup x==some .cell||sc.names.lookup x==some .free
def jw(x:Str):Bool:=!(x==("__debug__":Str))&& !(x==("__classdict__":Str))
noncomputable def sC (N:aE)(sc scope:Scope)(nm:aE)(a:List (Nat×Str)):Bool:=
 a.all (λp=>(N[p.1]? ==some p.2)&&(scope.names.lookup p.2==some .free)&&cf sc p.2)&&scope.names.all (λy=>y.2 != .free||cf sc y.1)&&scope.names.all (λy=>y.2 != .cell)&&scope.kind== .function&&
 scope.names.all (λy=>y.2 != .local||scope.names.lookup y.1==some .local)&&nm.all (λx=>scope.names.lookup x==some .local)&&decide (nm++a.map Prod.snd).Nodup&&(nm++a.map Prod.snd).all jw
noncomputable def vW:List (Str×Int)->List (Option Expr)->aV->Bool
 | [],[],[]=>true
 |(x,n)::l,some (.Constant (.str y) _ _)::ks,.Constant (.int m) _ _::vs=>(x==y)&&(n==m)&&vW l ks vs
 |_,_,_=>false
noncomputable def zQ:aE:=["len","isinstance","all","max","sorted","ord","any"]
noncomputable def zS:aE:=["tuple","list","int"]
def jy(ap p:Pos):Bool:=ap.endLine==p.line
def BB(t:T):Bool:=if h:t.ctorIdx=3 then T.b.elim t h id else false
@[elab_as_elim] theorem qy {α:Type} [BEq α] [LawfulBEq α] {z c:α} {b:Bool} {C:α->Prop} (h:((z==c)&&b)=true) (k:b=true->C c):C z:=by
 rw[bg,fM]at h;rw[h.1];exact k h.2
theorem mG{a b:Bool}(h:(a&&b)=true):a=true/\b=true:=by rwa [bg]at h
theorem di[Decidable c]{t:c->Bool}{C:Prop}(h:(if h:c then t h else false)=true)(k:c->(if h:c then t h else false)=true->C):C:=
 if i:c then k i h else by rw[dif_neg i]at h;cases h
def dN(e:Expr)(f:Str->Pos->Bool):Bool:=if h:e.ctorIdx=23 then Expr.Name.elim e h f else false
@[elab_as_elim] theorem ig {e f} {C:Expr->Prop} (h:dN e f=true) (k:∀a b,f a b=true->C (.Name a b)):C e:=di h λi=>Expr.Name.elim e i k
def dK(e:Expr)(f:Const->Nat->Pos->Bool):Bool:=if h:e.ctorIdx=19 then Expr.Constant.elim e h f else false
@[elab_as_elim] theorem vM {e f} {C:Expr->Prop} (h:dK e f=true) (k:∀a b c,f a b c=true->C (.Constant a b c)):C e:=di h λi=>Expr.Constant.elim e i k
def dB(e:Expr)(f:Expr->Operator->Expr->Pos->Bool):Bool:=if h:e.ctorIdx=2 then Expr.BinOp.elim e h f else false
@[elab_as_elim] theorem Zn {e f} {C:Expr->Prop} (h:dB e f=true) (k:∀a b c d,f a b c d=true->C (.BinOp a b c d)):C e:=di h λi=>Expr.BinOp.elim e i k
def dC(e:Expr)(f:Expr->List CmpOp->aV->Pos->Bool):Bool:=if h:e.ctorIdx=15 then Expr.Compare.elim e h f else false
@[elab_as_elim] theorem K2 {e f} {C:Expr->Prop} (h:dC e f=true) (k:∀a b c d,f a b c d=true->C (.Compare a b c d)):C e:=di h λi=>Expr.Compare.elim e i k
def dQ(e:Expr)(f:BoolOp->aV->Pos->Bool):Bool:=if h:e.ctorIdx=0 then Expr.BoolOp.elim e h f else false
@[elab_as_elim] theorem yN {e f} {C:Expr->Prop} (h:dQ e f=true) (k:∀a b c,f a b c=true->C (.BoolOp a b c)):C e:=di h λi=>Expr.BoolOp.elim e i k
def dU(e:Expr)(f:UnaryOp->Expr->Pos->Bool):Bool:=if h:e.ctorIdx=3 then Expr.UnaryOp.elim e h f else false
@[elab_as_elim] theorem KY {e f} {C:Expr->Prop} (h:dU e f=true) (k:∀a b c,f a b c=true->C (.UnaryOp a b c)):C e:=di h λi=>Expr.UnaryOp.elim e i k
def dI(e:Expr)(f:Expr->Expr->Expr->Pos->Bool):Bool:=if h:e.ctorIdx=5 then Expr.IfExp.elim e h f else false
@[elab_as_elim] theorem Zm {e f} {C:Expr->Prop} (h:dI e f=true) (k:∀a b c d,f a b c d=true->C (.IfExp a b c d)):C e:=di h λi=>Expr.IfExp.elim e i k
def dT(e:Expr)(f:aV->Nat->Pos->Bool):Bool:=if h:e.ctorIdx=25 then Expr.Tuple.elim e h f else false
@[elab_as_elim] theorem vL {e f} {C:Expr->Prop} (h:dT e f=true) (k:∀a b c,f a b c=true->C (.Tuple a b c)):C e:=di h λi=>Expr.Tuple.elim e i k
def dL(e:Expr)(f:aV->Pos->Bool):Bool:=if h:e.ctorIdx=24 then Expr.List.elim e h f else false
@[elab_as_elim] theorem KZ {e f} {C:Expr->Prop} (h:dL e f=true) (k:∀a b,f a b=true->C (.List a b)):C e:=di h λi=>Expr.List.elim e i k
def dS(e:Expr)(f:Expr->Expr->Pos->Bool):Bool:=if h:e.ctorIdx=21 then Expr.Subscript.elim e h f else false
@[elab_as_elim] theorem nX {e f} {C:Expr->Prop} (h:dS e f=true) (k:∀a b c,f a b c=true->C (.Subscript a b c)):C e:=di h λi=>Expr.Subscript.elim e i k
def dX(e:Expr)(f:Option Expr->Option Expr->Option Expr->Pos->Bool):Bool:=if h:e.ctorIdx=26 then Expr.Slice.elim e h f else false
@[elab_as_elim] theorem Zl {e f} {C:Expr->Prop} (h:dX e f=true) (k:∀a b c d,f a b c d=true->C (.Slice a b c d)):C e:=di h λi=>Expr.Slice.elim e i k
def dA(e:Expr)(f:Expr->Str->Pos->Bool):Bool:=if h:e.ctorIdx=20 then Expr.Attribute.elim e h f else false
@[elab_as_elim] theorem vN {e f} {C:Expr->Prop} (h:dA e f=true) (k:∀a b c,f a b c=true->C (.Attribute a b c)):C e:=di h λi=>Expr.Attribute.elim e i k
def dF(e:Expr)(f:Expr->aV->List Keyword->Pos->Bool):Bool:=if h:e.ctorIdx=16 then Expr.Call.elim e h f else false
@[elab_as_elim] theorem BO {e f} {C:Expr->Prop} (h:dF e f=true) (k:∀a b c d,f a b c d=true->C (.Call a b c d)):C e:=di h λi=>Expr.Call.elim e i k
def dD(e:Expr)(f:List (Option Expr)->aV->Pos->Bool):Bool:=if h:e.ctorIdx=6 then Expr.Dict.elim e h f else false
@[elab_as_elim] theorem yO {e f} {C:Expr->Prop} (h:dD e f=true) (k:∀a b c,f a b c=true->C (.Dict a b c)):C e:=di h λi=>Expr.Dict.elim e i k
def dG(e:Expr)(f:Expr->List Comprehension->Scope->Pos->Bool):Bool:=if h:e.ctorIdx=8 then Expr.ListComp.elim e h f else false
@[elab_as_elim] theorem K1 {e f} {C:Expr->Prop} (h:dG e f=true) (k:∀a b c d,f a b c d=true->C (.ListComp a b c d)):C e:=di h λi=>Expr.ListComp.elim e i k
def tA(e:Stmt)(f:aV->Expr->Pos->Bool):Bool:=if h:e.ctorIdx=5 then Stmt.Assign.elim e h f else false
@[elab_as_elim] theorem Ym {e f} {C:Stmt->Prop} (h:tA e f=true) (k:∀a b c,f a b c=true->C (.Assign a b c)):C e:=di h λi=>Stmt.Assign.elim e i k
def tU(e:Stmt)(f:Expr->Operator->Expr->Pos->Bool):Bool:=if h:e.ctorIdx=7 then Stmt.AugAssign.elim e h f else false
@[elab_as_elim] theorem X6 {e f} {C:Stmt->Prop} (h:tU e f=true) (k:∀a b c d,f a b c d=true->C (.AugAssign a b c d)):C e:=di h λi=>Stmt.AugAssign.elim e i k
def tD(e:Stmt)(f:aV->Pos->Bool):Bool:=if h:e.ctorIdx=4 then Stmt.Delete.elim e h f else false
@[elab_as_elim] theorem Yi {e f} {C:Stmt->Prop} (h:tD e f=true) (k:∀a b,f a b=true->C (.Delete a b)):C e:=di h λi=>Stmt.Delete.elim e i k
def tR(e:Stmt)(f:Option Expr->Pos->Bool):Bool:=if h:e.ctorIdx=3 then Stmt.Return.elim e h f else false
@[elab_as_elim] theorem Kv {e f} {C:Stmt->Prop} (h:tR e f=true) (k:∀a b,f a b=true->C (.Return a b)):C e:=di h λi=>Stmt.Return.elim e i k
def tI(e:Stmt)(f:Expr->List Stmt->List Stmt->Pos->Bool):Bool:=if h:e.ctorIdx=12 then Stmt.If.elim e h f else false
@[elab_as_elim] theorem Yc {e f} {C:Stmt->Prop} (h:tI e f=true) (k:∀a b c d,f a b c d=true->C (.If a b c d)):C e:=di h λi=>Stmt.If.elim e i k
def tF(e:Stmt)(f:Expr->Expr->List Stmt->List Stmt->Pos->Bool):Bool:=if h:e.ctorIdx=9 then Stmt.For.elim e h f else false
@[elab_as_elim] theorem Yd {e f} {C:Stmt->Prop} (h:tF e f=true) (k:∀a b c d g,f a b c d g=true->C (.For a b c d g)):C e:=di h λi=>Stmt.For.elim e i k
def tE(e:Stmt)(f:Expr->Pos->Bool):Bool:=if h:e.ctorIdx=24 then Stmt.Expr.elim e h f else false
@[elab_as_elim] theorem Ye {e f} {C:Stmt->Prop} (h:tE e f=true) (k:∀a b,f a b=true->C (.Expr a b)):C e:=di h λi=>Stmt.Expr.elim e i k
section
variable {α:Type}{xs:List α}{b:Bool}{x:Option α}{e:Expr}{s:Stmt}
def l0(xs:List α)(b:Bool):Bool:=match xs with| []=>b|_=>false
def lc(xs:List α)(f:α->List α->Bool):Bool:=match xs with|x::r=>f x r|_=>false
def l1(xs:List α)(f:α->Bool):Bool:=lc xs λx r=>l0 r (f x)
def l2(xs:List α)(f:α->α->Bool):Bool:=lc xs λx r=>l1 r (f x)
def o0(x:Option α)(b:Bool):Bool:=match x with|none=>b|_=>false
def o1(x:Option α)(f:α->Bool):Bool:=match x with|some y=>f y|_=>false
variable {C:List α->Prop}{D:Option α->Prop}{E:Expr->Prop}{F:Stmt->Prop}
@[elab_as_elim] theorem iE (h:l0 xs b=true) (k:b=true->C []):C xs:=by cases xs<;>first|exact k h|cases h
@[elab_as_elim] theorem iD {f} (h:lc xs f=true) (k:∀x r,f x r=true->C (x::r)):C xs:=by cases xs<;>first|exact k _ _ h|cases h
@[elab_as_elim] theorem gR {f} (h:l1 xs f=true) (k:∀y,f y=true->C [y]):C xs:=iD h λy _ h=>iE h (k y)
@[elab_as_elim] theorem vC {f} (h:l2 xs f=true) (k:∀y z,f y z=true->C [y,z]):C xs:=iD h λy _ h=>gR h (k y)
@[elab_as_elim] theorem BE (h:o0 x b=true) (k:b=true->D none):D x:=by cases x<;>first|exact k h|cases h
@[elab_as_elim] theorem BD {f} (h:o1 x f=true) (k:∀y,f y=true->D (some y)):D x:=by cases x<;>first|exact k _ h|cases h
noncomputable def jv(e:Expr)(f:Str->Pos->aV->Pos->Bool):Bool:=dF e λg a ks p=>dN g λx q=>l0 ks (f x q a p)
@[elab_as_elim] theorem mF {f} (h:jv e f=true) (k:∀x q es p,f x q es p=true->E (.Call (.Name x q) es [] p)):E e:=BO h λ_ es _ p h=>ig h λx q h=>iE h (k x q es p)
noncomputable def pP(e:Expr)(f:Expr->Str->Pos->aV->Pos->Bool):Bool:=dF e λg a ks p=>dA g λx m q=>l0 ks (f x m q a p)
@[elab_as_elim] theorem rW {f} (h:pP e f=true) (k:∀x m q es p,f x m q es p=true->E (.Call (.Attribute x m q) es [] p)):E e:=BO h λ_ es _ p h=>vN h λx m q h=>iE h (k x m q es p)
noncomputable def tG(e:Expr)(f:Expr->CmpOp->Expr->Pos->Bool):Bool:=dC e λx a c p=>l1 a λo=>l1 c λy=>f x o y p
@[elab_as_elim] theorem vg {f} (h:tG e f=true) (k:∀x o y p,f x o y p=true->E (.Compare x [o] [y] p)):E e:=K2 h λx _ _ p h=>gR h λo h=>gR h λy=>k x o y p
def oz(s:Stmt)(f:Expr->Expr->Pos->Bool):Bool:=tA s λz v p=>l1 z λt=>f t v p
@[elab_as_elim] theorem qk {f} (h:oz s f=true) (k:∀t v p,f t v p=true->F (.Assign [t] v p)):F s:=Ym h λ_ v p h=>gR h λt=>k t v p
end
noncomputable def dP(e:Expr):Bool:=!([22,7,26,9,10].contains e.ctorIdx)
def mw(e:Expr):Bool:=e.ctorIdx==8
noncomputable def BC(e:Expr):Bool:=[0,5,15].contains e.ctorIdx||dU e λo _ _=>o== .Not
def iW(e:Expr):Bool:=jv e λ_ _ a _=>a.isEmpty
def cG(a:Nd)(f:Expr->Bool):Bool:=match a with
 | .e x=>dP x&&f x
 | .t x=>!BC x&&f x
 |_=>false
def tY(a:Nd)(f:Expr->Bool):Bool:=match a with
 | .e x=>dP x&&f x
 | .t x=>f x
 |_=>false
def hE(a:Nd)(f:Stmt->Bool):Bool:=match a with
 | .s x=>f x
 |_=>false
noncomputable def Af(a:Nd)(f:(aV->Nd)->aV->Bool):Bool:=match a with
 | .a x=>f .a x
 | .l x=>f .l x
 |_=>false
def pY(a:Nd)(f:Expr->Expr->Bool):Bool:=match a with
 | .i tg x=>f tg x
 |_=>false
def Ah(a:Nd)(f:Option Expr->Bool):Bool:=match a with
 | .p x=>f x
 |_=>false
def Ag(a:Nd)(f:List Stmt->Bool):Bool:=match a with
 | .b x=>f x
 |_=>false
def tZ(a:Nd)(f g:Expr->Bool):Bool:=match a with
 | .e x=>dP x&&f x
 | .t x=>g x
 |_=>false
def dY(e:Expr)(f:Arguments->Expr->Scope->Pos->Bool):Bool:=if h:e.ctorIdx=4 then Expr.Lambda.elim e h f else false
@[elab_as_elim] theorem Zk {e f} {C:Expr->Prop} (h:dY e f=true) (k:∀a b c d,f a b c d=true->C (.Lambda a b c d)):C e:=di h λi=>Expr.Lambda.elim e i k
noncomputable def BW (ps:Arguments)(v:Str):Bool:=ps.posonlyargs.isEmpty&&ps.vararg.isNone&&ps.kwonlyargs.isEmpty&&ps.kw_defaults.isEmpty&&ps.kwarg.isNone&&ps.defaults.isEmpty&&(l1 ps.args λa=>a.arg==v)
noncomputable def BX (v:Str)(sc:Scope):Bool:=(sc.names.lookup v==some .local)&&sc.names.all (λy=>y.2 != .cell&&y.2 != .free)&& !sc.isCoroutine&& !sc.isGenerator&&sc.kind== .function&&jw v
noncomputable def zk:aE->List (Option Expr)->Bool
 | [],z=>z.isEmpty
 |k::ks,z=>lc z λx a=>o1 x (λe=>dK e λc _ _=>c== .str k)&&zk ks a
noncomputable def mt (S:SI)(fc:Bool)(N:aE)(sc:Scope):T->Nd->Bool
 | .v i,nd=>cG nd λy0=>dN y0 λx _=>N[i]? ==some x
 | .i n,nd=>cG nd λy0=>dK y0 λz _ _=>z== .int n
 | .s x,nd=>cG nd λy0=>dK y0 λz _ _=>z== .str x
 | .b x,nd=>cG nd λy0=>dK y0 λz _ _=>z== .bool x
 | .n,nd=>cG nd λy0=>dK y0 λz _ _=>z== .none
 | .g x,nd=>cG nd λy0=>dN y0 λy _=>(x==y)&&(S.gi.lookup x).isSome&&gP sc x
 | .ty x,nd=>cG nd λy0=>dN y0 λy _=>(Str.ofString x==y)&&["int","bool","str","tuple","list"].contains x&&S.bl.contains y&&gP sc y
 | .op o a b,nd=>cG nd λy0=>dB y0 λx o' y _=>(o==o')&&mt S fc N sc a (.e x)&&mt S fc N sc b (.e y)
 | .cm o a b,nd=>tY nd λy0=>tG y0 λx o' y _=>(o==o')&&mt S fc N sc a (.e x)&&mt S fc N sc b (.e y)
 | .ch o p a b c,nd=>tY nd λy0=>dC y0 λx z1 z2 _=>l2 z1 λo' p'=>l2 z2 λy z=>(o==o')&&(p==p')&&mt S fc N sc a (.e x)&&mt S fc N sc b (.e y)&&mt S fc N sc c (.e z)
 | .dn neg k d,nd=>tY nd λy0=>tG y0 λx o' y _=>(o'==if neg then .NotIn else .In)&&mt S fc N sc k (.e x)&&mt S fc N sc d (.e y)
 | .an a b,nd=>tZ nd (λy0=>dQ y0 λz1 z2 p=>(z1== .And)&&(lc z2 λx z3=>lc z3 λy r=>mt S fc N sc a (.e x)&&mt S fc N sc b (.e (if r.isEmpty then y else .BoolOp .And (y::r) p)))) (λy0=>dQ y0 λz1 z2 p=>(z1== .And)&&(lc z2 λx z3=>lc z3 λy r=>mt S fc N sc a (.t x)&&mt S fc N sc b (.t (if r.isEmpty then y else .BoolOp .And (y::r) p))))
 | .or a b,nd=>tZ nd (λy0=>dQ y0 λz1 z2 p=>(z1== .Or)&&(lc z2 λx z3=>lc z3 λy r=>mt S fc N sc a (.e x)&&mt S fc N sc b (.e (if r.isEmpty then y else .BoolOp .Or (y::r) p)))) (λy0=>dQ y0 λz1 z2 p=>(z1== .Or)&&(lc z2 λx z3=>lc z3 λy r=>mt S fc N sc a (.t x)&&mt S fc N sc b (.t (if r.isEmpty then y else .BoolOp .Or (y::r) p))))
 | .no a,nd=>tZ nd (λy0=>dU y0 λz1 x _=>(z1== .Not)&&(mt S fc N sc a (.e x))) (λy0=>dU y0 λz1 x _=>(z1== .Not)&&(mt S fc N sc a (.t x)))
 | .ie t a b,nd=>cG nd λy0=>dI y0 λx y z _=>mt S fc N sc t (.t x)&&mt S fc N sc a (.e y)&&mt S fc N sc b (.e z)
 | .tu a,nd=>cG nd λy0=>dT y0 λes _ _=>mt S fc N sc a (.a es)
 | .ll a,nd=>cG nd λy0=>dL y0 λes _=>mt S fc N sc a (.a es)
 | .lm a,nd=>cG nd λy0=>dL y0 λes _=>mt S fc N sc a (.a es)
 | .e0,nd=>Af nd λ_ y0=>l0 y0 <|true
 | .ec a r,nd=>Af nd λmk y0=>lc y0 λx xs=>mt S fc N sc a (.e x)&&mt S fc N sc r (mk xs)
 | .ix a b,nd=>cG nd λy0=>dS y0 λx y _=>mt S fc N sc a (.e x)&&mt S fc N sc b (.e y)
 | .sl a l h,nd=>cG nd λy0=>dS y0 λx z1 _=>dX z1 λlo hi z2 _=>o0 z2 <|mt S fc N sc a (.e x)&&mt S fc N sc l (.p lo)&&mt S fc N sc h (.p hi)
 | .p0,nd=>Ah nd λy0=>o0 y0 <|true
 | .p1 a,nd=>Ah nd λy0=>o1 y0 λx=>mt S fc N sc a (.e x)
 | .fl c f a,nd=>cG nd λy0=>dA y0 λx f' _=>(f==f')&&S.fs.contains (c,f)&& !iW x&&mt S fc N sc a (.e x)
 | .ca f a,nd=>cG nd λy0=>jv y0 λx _ es _=>(match S.fd[f]? with|some d=>d.kind==0&&d.name==x|none=>false)&&gP sc x&&mt S fc N sc a (.a es)
 | .me f o a,nd=>cG nd λy0=>pP y0 λx m ap es p=>(match S.fd[f]? with|some d=>d.kind==1&&d.name==m|none=>false)&& !iW x&&jy ap p&&decide (es.length<29)&&mt S fc N sc o (.e x)&&mt S fc N sc a (.a es)
 | .mk f a,nd=>cG nd λy0=>jv y0 λx _ es _=>(match S.fd[f]? with|some d=>d.kind==2&&S.cl[d.cls]? ==some x|none=>false)&&gP sc x&&mt S fc N sc a (.a es)
 | .bf f a,nd=>cG nd λy0=>jv y0 λx _ es _=>(f==x)&&zQ.contains x&&S.bl.contains x&&gP sc x&& !es.isEmpty&&mt S fc N sc a (.a es)
 | .bt f a,nd=>cG nd λy0=>jv y0 λx _ es _=>(f==x)&&zS.contains x&&S.bl.contains x&&gP sc x&& !es.isEmpty&&mt S fc N sc a (.a es)
 | .ap o a,nd=>cG nd λy0=>pP y0 λx m ap z1 p=>l1 z1 λy=>(m==("append":Str))&& !iW x&&jy ap p&&mt S fc N sc o (.e x)&&mt S fc N sc a (.a [y])
 | .dg d k,nd=>cG nd λy0=>dS y0 λx y _=>mt S fc N sc d (.e x)&&mt S fc N sc k (.e y)
 | .d1 d k,nd=>cG nd λy0=>pP y0 λx m ap z1 p=>l1 z1 λy=>(m==("get":Str))&& !iW x&&jy ap p&&mt S fc N sc d (.e x)&&mt S fc N sc k (.e y)
 | .dk,nd=>cG nd λy0=>dD y0 λz1 z2 _=>l0 z1 <|l0 z2 <|true
 | .dt,nd=>cG nd λy0=>dD y0 λz1 z2 _=>l0 z1 <|l0 z2 <|true
 | .ic neg a x,nd=>tY nd λy0=>tG y0 λy o z1 _=>dN z1 λx' _=>(o==if neg then .NotIn else .In)&&(x==x')&&(S.gt.lookup x).isSome&&gP sc x&&mt S fc N sc a (.e y)
 | .tx x a,nd=>cG nd λy0=>dS y0 λz1 y _=>dN z1 λx' _=>(x==x')&&S.tb.contains x&&gP sc x&&mt S fc N sc a (.e y)
 | .tn x a,nd=>tZ nd (λ_=>false) λy0=>tG y0 λy o z1 _=>dN z1 λx' _=>(o== .NotIn)&&(x==x')&&S.tb.contains x&&gP sc x&&mt S fc N sc a (.e y)
 | .cv i a,nd=>cG nd λy0=>jv y0 λx _ es _=>(N[i]? ==some x)&& !es.isEmpty&&mt S fc N sc a (.a es)
 | .di l a,nd=>cG nd λy0=>dS y0 λz1 y _=>dD z1 λks vs _=>vW l ks vs&& !l.isEmpty&&decide (l.length<=15)&&decide (l.map Prod.fst).Nodup&&mt S fc N sc a (.e y)
 | .lr a b,nd=>cG nd λy0=>jv y0 λx _ z1 _=>l1 z1 λz2=>jv z2 λy _ z3 _=>l2 z3 λz w=>(x==("list":Str))&&(y==("range":Str))&&S.bl.contains x&&S.bl.contains y&&gP sc x&&gP sc y&&mt S fc N sc a (.e z)&&mt S fc N sc b (.e w)
 | .cp _ tup nm cap it t e,nd=>cG nd λy0=>dG y0 λel z1 scope _=>l1 z1 λz2=>match z2 with|⟨tg,ite,ifs,as⟩=>fc&&(as==0)&&yF tup tg nm&&sC N sc scope nm cap&&dP ite&&mt S fc N sc it (.i tg ite)&&mt S false (nm++cap.map Prod.snd) scope e (.e el)&&(match ifs with| []=>BB t| [c]=>mt S false (nm++cap.map Prod.snd) scope t (.t c)|_=>false)
 | .ik a,nd=>pY nd λ_ x=>dP x&&mt S fc N sc a (.e x)
 | .iv a,nd=>pY nd λ_=>λy0=>pP y0 λx m ap z1 p=>l0 z1 <|(m==("values":Str))&& !iW x&&jy ap p&&mt S fc N sc a (.e x)
 | .im a,nd=>pY nd λtg=>λy0=>pP y0 λx m ap z1 p=>l0 z1 <|(tg.ctorIdx==25)&&(m==("items":Str))&& !iW x&&jy ap p&&mt S fc N sc a (.e x)
 | .lv _ a,nd=>cG nd λy0=>jv y0 λy _ z1 _=>l1 z1 λz2=>pP z2 λx m ap z3 p=>l0 z3 <|(y==("list":Str))&&(m==("values":Str))&&S.bl.contains y&&gP sc y&& !iW x&&jy ap p&&mt S fc N sc a (.e x)
 | .pr i j a,nd=>hE nd λy0=>oz y0 λz1 z2 _=>dT z1 λz3 _ _=>l2 z3 λz4 z5=>dN z4 λx px=>dN z5 λy py=>dT z2 λz6 _ _=>l2 z6 λu v=>fc&&(N[i]? ==some x)&&(N[j]? ==some y)&&(i != j)&&(sc.names.lookup x==some .local)&&(sc.names.lookup y==some .local)&&(py.line==px.line)&& !(y==x)&& !([u,v].all (foldedForSure 8))&& !([u,v].all (constantsAlone 8))&&mt S fc N sc a (.a [u,v])
 | .af c f o a,nd=>hE nd λy0=>tU y0 λz1 z2 e _=>dA z1 λx f' _=>(z2== .Add)&&((f==f')&&S.fs.contains (c,f)&&mt S fc N sc o (.e x)&&mt S fc N sc a (.e e))
 | .dd d k,nd=>hE nd λy0=>tD y0 λz1 _=>l1 z1 λz2=>dS z2 λx y _=>mt S fc N sc d (.e x)&&mt S fc N sc k (.e y)
 | .is a,nd=>pY nd λ_ x=>dP x&&mt S fc N sc a (.e x)
 | .st a,nd=>pY nd λ_ x=>dP x&&mt S fc N sc a (.e x)
 | .r1 a,nd=>pY nd λ_=>λy0=>jv y0 λx _ z1 _=>l1 z1 λy=>(x==("range":Str))&&S.bl.contains x&&gP sc x&&mt S fc N sc a (.e y)
 | .set i a,nd=>hE nd λy0=>oz y0 λz1 e _=>dN z1 λx p=>fc&&(N[i]? ==some x)&&(!mw e||sc.names.lookup x==some .cell)&&mt S fc N sc a (.e e)
 | .sc i _ tup nm cap it t e,nd=>hE nd λy0=>oz y0 λz1 z2 _=>dN z1 λx p=>dG z2 λel z3 scope p2=>l1 z3 λz4=>match z4 with|⟨tg,ite,ifs,as⟩=>fc&&(N[i]? ==some x)&&(sc.names.lookup x==some .local)&&(p.line==p2.line)&& !(scope.names.any λy=>y.1==x&&(y.2== .local||y.2== .cell))&&(as==0)&&yF tup tg nm&&sC N sc scope nm cap&&dP ite&&mt S fc N sc it (.i tg ite)&&mt S false (nm++cap.map Prod.snd) scope e (.e el)&&(match ifs with| []=>BB t| [c]=>mt S false (nm++cap.map Prod.snd) scope t (.t c)|_=>false)
 | .un is a,nd=>hE nd λy0=>oz y0 λz1 e _=>dT z1 λes _ _=>fc&&mH N is es&& !mw e&&(e.ctorIdx != 25)&&mt S fc N sc a (.e e)
 | .sf c f o a,nd=>hE nd λy0=>oz y0 λz1 e _=>dA z1 λx f' _=>(f==f')&&S.fs.contains (c,f)&& !mw e&&mt S fc N sc o (.e x)&&mt S fc N sc a (.e e)
 | .dp d k a,nd=>hE nd λy0=>oz y0 λz1 e _=>dS z1 λx y _=>!mw e&&mt S fc N sc d (.e x)&&mt S fc N sc k (.e y)&&mt S fc N sc a (.e e)
 | .sp l i a,nd=>hE nd λy0=>oz y0 λz1 e _=>dS z1 λx y _=>!mw e&&mt S fc N sc l (.e x)&&mt S fc N sc i (.e y)&&mt S fc N sc a (.e e)
 | .re a,nd=>hE nd λy0=>tR y0 λz1 _=>o1 z1 λe=>mt S fc N sc a (.e e)
 | .r0,nd=>hE nd λy0=>tR y0 λz1 _=>o0 z1 <|true
 | .bc t a b,nd=>hE nd λy0=>tI y0 λx y z _=>mt S fc N sc t (.t x)&&mt S fc N sc a (.b y)&&mt S fc N sc b (.b z)
 | .fo tup is it b,nd=>hE nd λy0=>tF y0 λtg x y z1 _=>l0 z1 <|fc&&dP x&&cond tup (dT tg λes _ _=>mH N is es) (dN tg λz _=>l1 is λi=>N[i]? ==some z)&&mt S fc N sc it (.i tg x)&&mt S fc N sc b (.b y)
 | .ex a,nd=>hE nd λy0=>tE y0 λe _=>!mw e&&mt S fc N sc a (.e e)
 | .ra,nd=>match nd with| .s _=>true| .b _=>true|_=>false
 | .se a b,nd=>Ag nd λy0=>lc y0 λx y=>mt S fc N sc a (.s x)&&mt S fc N sc b (.b y)
 | .en,nd=>Ag nd λy0=>l0 y0 <|true
 | .dy ks a,nd=>cG nd λy0=>dD y0 λz1 z2 _=>zk ks z1&& !ks.isEmpty&&decide (ks.length<=15)&&decide ks.Nodup&&(z2.length==ks.length)&&mt S fc N sc a (.l z2)
 | .sk c f a,nd=>cG nd λy0=>dF y0 λg es ks _=>dN g λx _=>l1 es λe=>l1 ks λk=>(x==("sorted":Str))&&(k.arg==some ("key":Str))&&(dY k.value λps b ls lp=>dA b λe' f' _=>(f'==f)&&(dN e' λv _=>decide (lp=S.lp)&&BW ps v&&BX v ls))&&fc&&decide (N=S.ln)&&S.bl.contains x&&gP sc x&&S.fs.contains (c,f)&&mt S fc N sc a (.e e)
section
variable {S:SI}{fc:Bool}{N:aE}{sc:Scope}
theorem eK{t:T}{x:Expr}(h:mt S fc N sc t (.e x)=true):dP x=true:=by
 cases t<;>first|exact(mG h).1|exact aW h gX
theorem iT{e:Expr}{env:Env}(h:dP e=true):starEach (e::es) env=(false,eval e env)::starEach es env:=by
 cases e<;>first|rfl|cases h
theorem yt{i:Expr}(h:dP i=true):∀o v,subscripted i false o v=operate [o,v] (getItem o v):=by
 intro o v;cases i<;>first|rfl|cases h
theorem mD{op:CmpOp}{e:Expr}(h:dP e=true):behindInMarks op e=false:=by
 cases e<;>first|rfl|cases h
theorem yn{e:Expr}{env:Env}(h:dP e=true):∀x,foldedSetIterable e env x=pure x:=by
 intro x;cases e<;>first|rfl|cases h
theorem rK{e:Expr}{l:Nat}{env:Env}(h:dP e=true)(a:mw e=false):swapsWith e tg l env=pure false:=by
 cases e<;>first|rfl|(cases a;done)|(cases h;done)
theorem qh{env:Env}(h:iW o=false):attributeBase o m env (eval o env)=eval o env:=by
 cases o<;>first|rfl|skip
 rename_i f a ks p;cases f<;>first|rfl|skip
 cases a<;>first|rfl|skip
 cases ks<;>first|rfl|cases h
theorem UQ{e:Expr}{env:Env}(h:BC e=false):∀a,isTrue e env a=(do let v<-a;standAt e.pos;holding [v] (truthy v)):=by
 intro w;cases e<;>first|rfl|cases h|skip
 rename_i o x p;cases o<;>first|rfl|cases h
theorem j3:∀{r:T} {xs:aV},mt S fc N sc r (.a xs)=true->xs.all dP=true
 |r,[],_=>rfl
 |r,x::xs,h=>by
  cases r<;>first|exact aW h gX|skip
  have h:=mG h;rw[fS,eK h.1,j3 h.2];rfl
theorem yc{env:Env}:∀{xs:aV},xs.all dP=true->starEach xs env=xs.map λe=>(false,eval e env)
 | [],_=>rfl
 |x::xs,h=>by
  rw[fS,bg]at h;rw[iT h.1,yc h.2];rfl
theorem rJ{env:Env}{p:Pos}{xs:aV}(h:xs.all dP=true):(backTo p (starEach xs env)).any (·.1)=false:=by
 rw[yc h];unfold backTo;simp
theorem AK{env:Env}{p:Pos}{xs:aV}(h:xs.all dP=true):(backTo p (starEach xs env)).all (λx=>!x.1)=true:=by
 rw[yc h];unfold backTo;simp
theorem back_eq{env:Env}{p:Pos}{xs:aV}(h:xs.all dP=true):backTo p (starEach xs env)=xs.map λe=>(false,eval e env):=by
 rw[yc h];unfold backTo;simp[bG,Function.comp_def]
theorem IX{o:Expr}{a pos:Pos}{es:aV}{env:Env}(g:iW o=false)(e:es.all dP=true)(i:es.length<29)(d:jy a pos=true):
 eval (.Call (.Attribute o m a) es [] pos) env=(do
  let c<-eval o env
  standAt a.atName
  let(f,first) <-holding [c] (getMethod c m (do return (<-importBound o env).getD true))
  callWith pos f first (backTo pos (starEach es env)) (backToKw pos (keywordEach [] env))):=by
 have e1:eval (.Call (.Attribute o m a) es [] pos) env=(do
  let c<-attributeBase o m env (eval o env)
  standAt a.atName
  methodCall o m a pos env c (es.length+([]:List Keyword).length) (backTo pos (starEach es env)) (backToKw pos (keywordEach [] env))):=rfl
 rw[e1,qh g];have h:methodCallForm (es.length+([]:List Keyword).length) (backTo pos (starEach es env)) (backToKw pos (keywordEach [] env))=true:=by
  unfold methodCallForm;rw[AK e];have:es.length+0+0<30:=by omega
  simp[backToKw,keywordEach,this];omega
 have b:methodCallPos true o env a pos=pure pos:=by
  unfold methodCallPos;unfold jy at d;rw[ai (by rw[d];rfl)]
 unfold methodCall;rw[h,b];rfl
end
structure Wd(P:Program)(w:World)(K:ag)(mg:bC)(base:Heap)(Γ:G)(k:Nat):Prop where
 bl:∀x∈Γ.S.bl,mg x=none
 gi:∀x i,Γ.S.gi.lookup x=some i->Cb mg x i
 gt:∀x l,Γ.S.gt.lookup x=some l->sJ K mg x l
 tb:∀x∈Γ.S.tb,KTab P w K mg x (Γ.tb x)
 tt:∀x l,Γ.S.tt.lookup x=some l->BI P w K mg x l
 cl:∀i c,Γ.S.cl[i]? =some c->cZ K (Γ.C i)/\mg c=some (.ref (Γ.C i))
 fs:∀c f,(c,f)∈Γ.S.fs->cZ K (Γ.C c)/\aZ K (Γ.C c) f
 fn:∀(i:Nat) d,Γ.S.fd[i]? =some d->d.kind=0->zJ P w K mg base k d.name d.ps (Γ.fn i)
 me:∀(i:Nat) d,Γ.S.fd[i]? =some d->d.kind=1->cZ K (Γ.C d.cls)/\sZ P w K mg base (Γ.C d.cls) k d.name d.ps (Γ.fn i)
 nE:∀(i:Nat) d,Γ.S.fd[i]? =some d->d.kind=2->∃j,j+1<=k/\zK P w K mg base (Γ.C d.cls) j d.ps (Γ.nE i)
 iK:∀q∈Γ.iK,∃fd ps,PySem.W.keepIn K (.ref q.1)=true/\Binds K fd ps []/\eW P w K mg base fN k q.1 fd ps (gd K q.2)
structure Mm(Γ:G)(X:Cx):Prop where
 q:X.env.qual++("<lambda>":Str)=Γ.S.lq
 cc:∃cc,X.env.code= .ref cc/\PySem.W.CodeHd X.base cc Γ.lP
 bt:X.base.BuiltinsAt X.mg Γ.lP
 gp:mainGlobals≠Γ.lP
structure gn(Γ:G)(k:Nat)(fc:Bool)(N:aE)(sc:Scope)(X:Cx):Prop where
 hN:X.N=N
 Cj:∀x∈N,tj X.env.scope x/\jw x=true
 gl:∀x,sc.names.lookup x=some .globalImplicit->Gl X x
 calm:X.calm=true
 room:aN k X.A
 fn:fc=true->X.env.scope=sc/\N.Nodup/\(∀x∈N,Loc sc x)/\(∀x,X.fn x=true)/\PassesOwn (model X.prog X.w) X.A X.env X.xe/\X.env.blockKind= .function/\∀x,X.env.kindOf x=sc.names.lookup x
 lm:fc=true->N=Γ.S.ln->Mm Γ X
def wF(X:Cx):aV->List ar->Prop
 | [],ts=>ts= []
 |x::xs,ts=>∃t r,ts=t::r/\aj X x t/\wF X xs r
noncomputable def Good (a:G)(X:Cx)(t:T):Nd->Prop
 | .e x=>aj X x (tr a t).E
 | .t x=>fb X x (tr a t).T
 | .a xs=>fI X xs (tr a t).A
 | .i tg x=>iJ X tg x (tr a t).I
 | .p x=>qW X x (tr a t).P
 | .s x=>fy X x (tr a t).S
 | .b xs=>ka X xs (tr a t).S
 | .l xs=>wF X xs (tr a t).L
section
variable {X:Cx}{Γ:G}{t:T}{r:ar}{f:Expr->Bool}{nd:Nd}
theorem uU(e:tr Γ t=ex r)(b:∀x,f x=true->aj X x r)(h:cG nd f=true):Good Γ X t nd:=by
 cases nd<;>first|(cases h;done)|skip
 . show aj X _ (tr Γ t).E;rw[e];exact b _ (mG h).2
 . rename_i x
   have a:(!BC x&&f x)=true:=h;rw[bg,jT]at a;show fb X _ (tr Γ t).T;rw[e];exact YY (b _ a.2) (UQ a.1)
theorem uM(e:tr Γ t=ex r)(a:∀x,f x=true->aj X x r/\fb X x (mK r))(h:tY nd f=true):Good Γ X t nd:=by
 cases nd<;>first|(cases h;done)|skip
 . show aj X _ (tr Γ t).E;rw[e];exact(a _ (mG h).2).1
 . show fb X _ (tr Γ t).T;rw[e];exact(a _ h).2
theorem aj.imp{e:Expr}{t t':ar}(h:aj X e t)(i:∀a M Q,t' a M Q->t a M Q):aj X e t':=PE.imp h λσ0 H g h=>by
 obtain⟨a,M,Q,hs,d,c,b⟩:=h;exact⟨a,M,Q,hs,d,i _ _ _ c,b⟩
theorem fy.imp{e:Stmt}{t t':d9}(h:fy X e t)(i:∀D a M,t' D a M->t D a M):fy X e t':=PS.imp h λD0 g H h=>by
 obtain⟨a,M,D,hs,d,c,b⟩:=h;exact⟨a,M,D,hs,d,i _ _ _ c,b⟩
theorem IW{e:Expr}:aj X e ji:=λpins s b H c I h=>by
 obtain⟨i,M,Q,hs,g,a,d⟩:=h;exact a.elim
theorem S8{g:Value->Value->Sem Value}:dz X g (λ_ _ _ _=>False):=λpins s l H x y v u d I j k h=>by
 obtain⟨a,b,M,Q,ra,rb,i,c,e⟩:=h;exact c.elim
theorem W7:∀o:Operator,dz X (binaryOp o) (iy o):=by
 intro o;cases o<;>first|exact Ol|exact OU|exact OY|exact OZ|exact Oj|exact OW|exact S8
theorem rX(a:X.A.units+64<cLine):∀o:CmpOp,dz X (compareOp o) (cU o):=by
 intro o;cases o<;>first|exact MX|exact MW|exact MR|exact MQ|exact Oi a|exact OX a|exact MT|exact W9|exact MS a|exact W8 a
theorem Gy{o p:CmpOp}{b c:Expr}(h:dP c=true):lastMarks [o,p] [b,c]=false:=mD h
end
section
variable {X:Cx}
theorem Zu:dm X (.builtin "isinstance") (fE X.K BQ):=by
 intro b s k H j us d I g h;obtain⟨rs,M,Q,i,f,c,e⟩:=h;unfold BQ at c;split at c
 . rename_i a
   exact RL b s k H j us d I g ⟨_,M,Q,i,f,⟨rfl,c⟩,e⟩
 . rename_i x t _
   by_cases l:t= "int"
   . subst l;exact Uc b s k H j us d I g ⟨_,M,Q,i,f,⟨rfl,c⟩,e⟩
   by_cases m:t= "bool"
   . subst m;exact Sv b s k H j us d I g ⟨_,M,Q,i,f,⟨rfl,c⟩,e⟩
   by_cases n:t= "str"
   . subst n;exact Ub b s k H j us d I g ⟨_,M,Q,i,f,⟨rfl,c⟩,e⟩
   by_cases o:t= "tuple"
   . subst o;exact RK b s k H j us d I g ⟨_,M,Q,i,f,⟨rfl,c⟩,e⟩
   by_cases r:t= "list"
   . subst r;exact Su b s k H j us d I g ⟨_,M,Q,i,f,⟨rfl,c⟩,e⟩
   . unfold CF at c
     rw[ae l,ae m,ae n,ae o,ae r]at c;exact c.elim
 . exact c.elim
theorem Zt:dm X (.builtin "len") (fE X.K Bx):=by
 intro b s m H l us f I j h;obtain⟨rs,M,Q,k,i,c,g⟩:=h;unfold Bx at c;split at c
 . rename_i a
   split at c
   . rename_i n e
     exact EF b s m H l us f I j ⟨_,M,Q,k,i,by simp only[y9,e];exact c,g⟩
   . rename_i d e
     exact Zr b s m H l us f I j ⟨_,M,Q,k,i,⟨a,d,rfl,e,c⟩,g⟩
   . rename_i d e
     exact Zq b s m H l us f I j ⟨_,M,Q,k,i,⟨a,d,rfl,e,c⟩,g⟩
   . exact c.elim
 . exact EF b s m H l us f I j ⟨_,M,Q,k,i,c,g⟩
theorem Xm:bootBuiltins "max" =some (.builtin "max"):=by decide+kernel
theorem Sy:bootBuiltins "sorted" =some (.builtin "sorted"):=by decide+kernel
variable {x:Str}{p pos:Pos}{e:Expr}{es:aV}{t:bX}
theorem Za(f:X.calm=true)(hx:zQ.contains x=true)(d:X.mg x=none)(c:Gl X x)(b:(x==("__debug__":Str))=false)(a:fI X (e::es) t)(ho:(e::es).all dP=true):aj X (.Call (.Name x p) (e::es) [] pos) (j6 (gF x) t):=by
 rw[fS,bg]at ho;have s1:=iT (es:=es) (env:=X.env) ho.1;have s2:=rJ (env:=X.env) (p:=pos) ho.2;have g:x= "len"∨x= "isinstance"∨x= "all"∨x= "max"∨x= "sorted"∨x= "ord"∨x= "any":=by simpa[zQ]using hx
 rcases g with rfl|rfl|rfl|rfl|rfl|rfl|rfl
 . exact ql Zt d Xn a c (by decide) b s1 s2
 . exact ql Zu d PB a c (by decide) b s1 s2
 . exact ql (Uh f) d Xp a c (by decide) b s1 s2
 . exact ql (Oz f) d Xm a c (by decide) b s1 s2
 . exact ql (Ua f) d Sy a c (by decide) b s1 s2
 . exact ql Oy d Xl a c (by decide) b s1 s2
 . exact ql (Ug f) d Xo a c (by decide) b s1 s2
theorem Xi(g:X.calm=true)(hx:zS.contains x=true)(d:X.mg x=none)(c:Gl X x)(b:(x==("__debug__":Str))=false)(a:fI X (e::es) t)(ho:(e::es).all dP=true):aj X (.Call (.Name x p) (e::es) [] pos) (j6 (tm x) t):=by
 rw[fS,bg]at ho;have s1:=iT (es:=es) (env:=X.env) ho.1;have s2:=rJ (env:=X.env) (p:=pos) ho.2;have f:x= "tuple"∨x= "list"∨x= "int":=by simpa[zS]using hx
 rcases f with rfl|rfl|rfl
 . exact Be XI d Ij a c (by decide) b s1 s2
 . exact Be Zp d Ja a c (by decide) b s1 s2
 . exact Be OA d J0 a c (by decide) b s1 s2
theorem X3(hx:["int","bool","str","tuple","list"].contains y=true)(b:X.mg (Str.ofString y)=none)(a:Gl X (Str.ofString y)):aj X (.Name (Str.ofString y) pos) (rC (.ty y)):=by
 have c:y= "int"∨y= "bool"∨y= "str"∨y= "tuple"∨y= "list":=by simpa using hx
 rcases c with rfl|rfl|rfl|rfl|rfl
 . exact UB b a
 . exact Sn b a
 . exact UA b a
 . exact RB b a
 . exact Sl b a
theorem Wn:q9 C f Q=(λx M1=>match x with| .ref a=>∃b v,M1 a=some (.ins C b)/\b.lookup f=some v/\Q v M1|_=>False):=by
 funext x M1;cases x with
 |ref a=>
  refine propext ⟨λh=>?_,λ⟨b,v,e1,c,q⟩=>?_⟩
  . unfold q9 at h
    simp only at h;split at h
    . rename_i g b e1
      obtain⟨rfl,d⟩:=h;split at d
      . rename_i v c;exact⟨b,v,e1,c,d⟩
      . exact d.elim
    . exact h.elim
  . unfold q9;simp only[e1,c];exact⟨trivial,q⟩
 |_=>rfl
theorem Zf{ta:ar}(b:cZ X.K C)(d:aZ X.K C f)(c:aj X e ta)(a:iW e=false):aj X (.Attribute e f pos) (Ce C f ta):=aj.imp (OK b d c (qh a)) λσ M Q h=>by
 unfold Ce at h;rw[Wn]at h;exact h
theorem XS{ta d:ar}(k:cZ X.K C)(l:aZ X.K C f)(j:aj X o ta)(m:aj X value d)(hs:swapsWith value (some (.Attribute o f pos')) pos.line X.env=pure false):fy X (.Assign [.Attribute o f pos'] value pos) (Cf C f ta d):=fy.imp (N9 k l j m hs) λD g M h=>by
 unfold Cf at h;have:∀y,rf C f y (D.nx g)=(λx c=>match x with| .ref a=>∃b,c a=some (.ins C b)/\b.length<1000/\D.nx g (put c a (.ins C (j7 f y b)))|_=>False):=λy=>by
  funext x M1;cases x with
  |ref a=>
   refine propext ⟨λh=>?_,λ⟨b,e1,q⟩=>?_⟩
   . unfold rf at h
     simp only at h;split at h
     . rename_i n b e1
       obtain⟨rfl,i⟩:=h;exact⟨b,e1,i⟩
     . exact h.elim
   . unfold rf;simp only[e1];exact⟨trivial,q⟩
  |_=>rfl
 simp only[this]at h;exact h
theorem JP{sp:cu}{t:bX}:pT C m sp t σ Q=(λx M1=>match x with| .ref a=>∃b,M1 a=some (.ins C b)/\b.lookup m=none/\t σ M1 λrs c=>sp (.ref a::rs) c Q|_=>False):=by
 funext x M1;cases x with
 |ref a=>
  refine propext ⟨λh=>?_,λ⟨b,e1,d,q⟩=>?_⟩
  . unfold pT at h
    simp only at h;split at h
    . rename_i g b e1
      obtain⟨rfl,f⟩:=h;exact⟨b,e1,f⟩
    . exact h.elim
  . unfold pT;simp only[e1];exact⟨trivial,d,q⟩
 |_=>rfl
theorem WA{sp:cu}{ta:ar}(F:sZ X.prog X.w X.K X.mg X.base C k m ps sp)(c:cZ X.K C)(f:aN k X.A)(b:aj X o ta)(a:iW o=false)(d:jy apos pos=true):
 aj X (.Call (.Attribute o m apos) [] [] pos) (qM C m sp ta mV):=aj.imp (UH F c f b (IX a rfl (by decide) d)) λσ M Q h=>by
 unfold qM at h;rw[JP]at h;exact h
theorem Zy{sp:cu}{ta:ar}(F:sZ X.prog X.w X.K X.mg X.base C k m ps sp)(c:cZ X.K C)(j:aN k X.A)(f:aj X o ta)(b:fI X (e::es) t)(d:iW o=false)(ho:(e::es).all dP=true)(g:(e::es).length<29)(i:jy apos pos=true):
 aj X (.Call (.Attribute o m apos) (e::es) [] pos) (qM C m sp ta t):=by
 have a:=ho;rw[fS,bg]at ho;refine aj.imp (Wk F c j f b (iT ho.1) (rJ ho.2) (IX d a g i)) λσ M Q h=>?_
 unfold qM at h;rw[JP]at h;exact h
end
theorem BK{S:SI}{sc:Scope}(h:mt S fc N sc r (.a [])=true):r= .e0:=by
 cases r<;>first|rfl|exact aW h gX
section
variable {X:Cx}{C:Addr}
theorem UI{x:Str}{p pos:Pos}{sp:cu}(F:zK X.prog X.w X.K X.mg X.base C k ps sp)(A:aN (k+1) X.A)(z:X.mg x=some (.ref C))(w:Gl X x)(f:(x==("__debug__":Str))=false):aj X (.Call (.Name x p) [] [] pos) (sg C sp mV):=by
 obtain⟨g,L,t,u,F⟩:=F.ex;refine PE.imp (TQ t F A w z u .nil qr f) λσ0 H J h=>?_
 obtain⟨N,M,Q,hs,j,D,y⟩:=h;refine λa b l m E=>?_
 have d:Ext H (upd H b (.own a)):=Ext.new m;have c:(upd H b (.own a)) a=none:=by rw[au (aY E)];exact l
 have e:Ext H (upd (upd H b (.own a)) a (.ins C b [])):=d.trans (Ext.new c);refine⟨[.ref a],put M a (.ins C []),_,aa.cons (by simp only[Rep]) aa.nil,(j.new m).cj c ⟨b,[],rfl,rfl⟩,D a (j.free l),λrv r v o i s I n=>?_⟩
 obtain⟨rfl,i⟩:=i;simp only[Rep]at n;exact⟨n,y _ r _ o i (e.trans s) I (by simp only[Rep])⟩
theorem KI:∀(l:List (Str×Int)) (ks:List (Option Expr)) (vs:aV),vW l ks vs=true->nj X pos ks vs (uK (nh l))/\ks.all (·.isSome)=true/\ks.length=vs.length/\ks.length=l.length
 | [],ks,vs,h=>by
  cases ks<;>cases vs<;>first|(exact⟨Il,rfl,rfl,rfl⟩)|(simp[vW]at h)
 |(x,n)::l,ks,vs,h=>by
  unfold vW at h;split at h
  . rename_i e1;cases e1
  . rename_i r k i y j p e m g o f e1
    cases e1;simp only[bg,fM]at h;obtain⟨⟨rfl,rfl⟩,h⟩:=h;obtain⟨a,b,c,d⟩:=KI (pos:=pos) l e f h;refine⟨HU Bk JH a,by rw[fS,b];rfl,by rw[cY,cY,c],by rw[cY,cY,d]⟩
  . cases h
theorem ia{sc:Scope}{x:Str}(h:gP sc x=true):sc.names.lookup x=some .globalImplicit/\(x==("__debug__":Str))=false:=by
 unfold gP at h;rw[bg,fM,jT]at h;exact h
theorem XD{x:Str}(h:jw x=true):(x==("__debug__":Str))=false/\(x==("__classdict__":Str))=false:=by
 unfold jw at h
 rwa [bg,jT,jT]at h
theorem HK{b e:Expr}{l:Nat}{env:Env}(h:dP e=true)(a:mw e=false):swapsWithSole [b] e l env=pure false:=rK h a
theorem mem_of[BEq α][LawfulBEq α]{a:α}{l:List α}(h:l.contains a=true):a∈l:=by simpa using h
theorem Vs{o i:Expr}{p:Pos}(h:dP i=true):∀v,assign (.Subscript o i p) X.env v=(do
 let a<-holding [v] (eval o X.env)
 let iv<-holding [v,a] (eval i X.env)
 standAt p
 holding [v,a,iv] (setItem a iv v)
 release [v,a,iv] []):=by intro v;cases i<;>first|rfl|cases h
theorem IL{K:ag}{ta:ar}(h:up K (sD neg ss ta) σ0 H Q0):sM (sN K (zb K neg)) (up K ta) (up K (L4 K ss)) σ0 H Q0:=by
 obtain⟨σ,M,Q,hs,hv,ht,hk⟩:=h;refine⟨σ,M,_,hs,hv,ht,λrx M1 x H1 q e1 v1 r1=>?_⟩
 refine⟨σ,M1,λy M2=>∃p,y= .ref p/\vZ K p ss/\M2=M1,hs.ext e1,v1,λp hp=>⟨p,rfl,hp,rfl⟩,λry M2 y H2 q2 e2 v2 r2=>?_⟩
 obtain⟨p,rfl,hp,rfl⟩:=q2;exact⟨rx,.ref p,_,Q,Rep.ext e2 _ _ r1,r2,v2,⟨ss,hp,q.1,q.2⟩,hk.ext (e1.trans e2)⟩
theorem Ju{op:CmpOp}{a:Expr}{ta:ar}{x:Str}{p pos:Pos}(ho:dz X (compareOp op) (zb X.K neg))(h:sJ X.K X.mg x ss)(b:aj X a ta)(d:Gl X x)(c:(x==("__debug__":Str))=false):aj X (.Compare a [op] [.Name x p] pos) (sD neg ss ta)/\fb X (.Compare a [op] [.Name x p] pos) (mK (sD neg ss ta)):=
 ⟨PE.imp (IS ho b (Md h d c) (mD rfl)) λ_ _ _ h=>IL h,PT.imp (Ik ho b (Md h d c) (mD rfl)) λσ0 H j h=>by
  obtain⟨i,M,Q,hs,g,f,e⟩:=h;exact IL ⟨i,M,_,hs,g,f,qi e⟩⟩
theorem Zz{o e:Expr}{ap p:Pos}(h0:iW o=false)(b:jy ap p=true)(a:dP e=true):M1 X o m ap e p where
 base:=qh h0
 xc:=by rw[AK (by rw[fS,a];rfl)];rfl
 line:=b
 trees:=back_eq (by rw[fS,a];rfl)
end
section
variable {X:Cx}{Γ:G}{k:Nat}{fc:Bool}{N:aE}{sc:Scope}
theorem gn.var(O:gn Γ k fc N sc X){i:Nat}{x:Str}(h:N[i]? =some x):aj X (.Name x pos) (qC i):=by
 have m:=O.Cj x (kf h);have d:=XD m.2;exact rv i (by rw[O.hN];exact h) m.1 d.1 d.2
theorem gn.qK(O:gn Γ k true N sc X){i:Nat}{x:Str}{e:Expr}{pos a:Pos}(h:N[i]? =some x)(c:aj X e te)(hs:swapsWith e (some (.Name x a)) pos.line X.env=pure false):fy X (.Assign [.Name x a] e pos) (vU i te):=by
 obtain⟨b,g,f,d,_⟩:=O.fn rfl;exact sset i c (by rw[O.hN];exact g) (by rw[O.hN];exact h) (by rw[b];exact f x (kf h)) hs (.inl (d x))
theorem gn.gN(O:gn Γ k true N sc X){i:Nat}{x:Str}(h:N[i]? =some x):oW X (.Name x pos) (kc i):=by
 obtain⟨a,d,c,b,_⟩:=O.fn rfl;exact ZM i (by rw[O.hN];exact d) (by rw[O.hN];exact h) (by rw[a];exact c x (kf h)) (.inl (b x))
theorem GQ(O:gn Γ k true N sc X):∀(is:List Nat) (es:aV),mH N is es=true->oU X es (mU is)/\(assignEach es X.env).length=is.length/\(assignEach es X.env).findIdx? (·.1)=none
 | [],[],_=>⟨IM,rfl,rfl⟩
 | [],_::_,h=>by simp[mH]at h
 |i::is,[],h=>by simp[mH]at h
 |i::is,e::es,h=>by
  cases e<;>first|(simp[mH]at h;done)|skip
  rename_i x p;simp only[mH,bg,fM]at h;obtain⟨d,l,j,g,_⟩:=O.fn rfl;obtain⟨a,b,c⟩:=GQ O is es h.2;have f:(assignEach (.Name x p::es) X.env)=(false,assign (.Name x p) X.env)::assignEach es X.env:=rfl;refine⟨HV (yr (i:=i) (by rw[O.hN];exact l) (by rw[O.hN];exact h.1) (by rw[d];exact j x (kf h.1)) (.inl (g x))) a,by rw[f,cY,b];rfl,by rw[f,List.findIdx?_cons,c];rfl⟩
theorem gT(O:gn Γ k true N sc X){is:List Nat}(h:mH N is es=true):oW X (.Tuple es j pos) (wg is):=by
 obtain⟨a,b,c⟩:=GQ O is es h;exact Ot O.calm a rfl b c
theorem yp{s:Shared}(O:gn Γ k fc N sc X)(hs:sC N sc scope nm cap=true):
 gn Γ k false (nm++cap.map Prod.snd) scope (dH X scope cl C (nm++cap.map Prod.snd) s H fp):=by
 unfold sC at hs;simp only[bg,gM,fM]at hs;obtain⟨⟨⟨⟨⟨⟨⟨a,_⟩,_⟩,_⟩,_⟩,c⟩,_⟩,b⟩:=hs;refine⟨rfl,λx hx=>⟨?_,b x hx⟩,λx h=>MA h,O.calm,O.room,(λh=>by cases h),λh=>by cases h⟩
 rcases dZ.mp hx with hx|hx
 . exact .inl (lookup_relabel_local (c x hx))
 . obtain⟨p,d,rfl⟩:=aP.mp hx
   exact .inr (FV (a p d).1.2)
theorem KP{x:Str}(h:cf sc x=true):sc.names.lookup x=some .cell∨sc.names.lookup x=some .free:=by
 unfold cf at h
 rwa [Bool.or_eq_true,fM,fM]at h
theorem Ka{tup:Bool}(h:yF tup tg nm=true):vQ tup tg nm:=by
 unfold yF at h;unfold vQ;split at h
 . simpa using h
 . simpa using h
 . cases h
structure Bp(X:Cx)(N:aE)(sc scope:Scope)(nm:aE)(cap:List (Nat×Str)):Prop where
 fU:∀p∈cap,N[p.1]? =some p.2/\scope.names.lookup p.2=some .free/\(sc.names.lookup p.2=some .cell∨sc.names.lookup p.2=some .free)
 fu:∀y∈scope.names,y.2= .free->(sc.names.lookup y.1=some .cell∨sc.names.lookup y.1=some .free)
 bH:∀y∈scope.names,y.2≠.cell
 bM:scope.kind= .function
 cA:∀y∈scope.names,y.2= .local->scope.names.lookup y.1=some .local
 hx:∀x∈nm,scope.names.lookup x=some .local
 jd:(nm++cap.map Prod.snd).Nodup
theorem Hq(hs:sC N sc scope nm cap=true):Bp X N sc scope nm cap:=by
 unfold sC at hs;simp only[bg,gM,fM,gY]at hs;obtain⟨⟨⟨⟨⟨⟨⟨a,i⟩,f⟩,g⟩,h⟩,c⟩,l⟩,j⟩:=hs;refine⟨λp d=>⟨(a p d).1.1,(a p d).1.2,KP (a p d).2⟩,λy b e=>?_,λy b e=>?_,g,λy b e=>?_,c,l⟩
 . have:=i y b
   rw[e]at this;exact KP (by simpa using this)
 . have:=f y b
   rw[e]at this;simp at this
 . have:=h y b
   rw[e]at this;simpa using this
end
section
variable {Γ:G}{k:Nat}{X:Cx}{fc:Bool}{N:aE}{sc:Scope}
theorem XJ{p:Pos}{x:Str}{l:Nat}(O:gn Γ k true N sc X)(h:sc.names.lookup x=some .cell):swapsWith (.ListComp el gs scope p) (some (.Name x px)) l X.env=pure false:=by
 obtain⟨_,_,_,_,_,b,a⟩:=O.fn rfl;show(pure (X.env.blockKind== .function&&X.env.kindOf x==some .local&&px.line==p.line&& !(scope.names.any λ(n,k)=>n==x&&(k== .local||k== .cell))):Sem Bool)=_
 rw[a,h,show((some NameKind.cell:Option NameKind)==some .local)=false from by decide]
 simp
theorem Yn{scope:Scope}{p:Pos}{x:Str}{a:Pos}{l:Nat}(O:gn Γ k true N sc X)(h:sc.names.lookup x=some .local)(e:a.line=p.line)(b:(scope.names.any λy=>y.1==x&&(y.2== .local||y.2== .cell))=false):swapsWith (.ListComp el gs scope p) (some (.Name x a)) l X.env=pure true:=by
 obtain⟨_,_,_,_,_,c,d⟩:=O.fn rfl;show(pure (X.env.blockKind== .function&&X.env.kindOf x==some .local&&a.line==p.line&& !(scope.names.any λ(n,k)=>n==x&&(k== .local||k== .cell))):Sem Bool)=_
 rw[d,h,c,e];have:(scope.names.any λ(n,k)=>n==x&&(k== .local||k== .cell))=false:=b
 rw[this];simp
theorem Wa{tup md:Bool}{pos i0:Pos}(O:gn Γ k true N sc X)(i)(c:Bp X N sc scope nm cap)(Q:vQ tup tg nm)(hi:iJ X tg iter ti)
 (E:∀u C s H w,qH (dH X scope u C (nm++cap.map Prod.snd) s H w) ifs tt) (A:∀u C s H w,aj (dH X scope u C (nm++cap.map Prod.snd) s H w) elt te) (hs:∀v,foldedSetIterable iter X.env v=pure v) (g:N[i]? =some y)
 (L:swapsWith (.ListComp elt [⟨tg,iter,ifs,0⟩] scope pos) (some (.Name y py)) i0.line X.env=pure true):
 fy X (.Assign [.Name y py] (.ListComp elt [⟨tg,iter,ifs,0⟩] scope pos) i0) (vU i (rR (fW tup nm.length) md ti (cap.map Prod.fst) tt te)):=by
 obtain⟨j,nd,hl,hf,_⟩:=O.fn rfl;intro d s n H Y I h;obtain⟨σ,M,D,l,hv,ht,hd⟩:=h;rw[exec_Assign_Name_used _ _ _ _ L];refine ah (wpAny_standAt (ah ?_));show wpAny _ _ (do let _<-comprehension (.ListComp elt [⟨tg,iter,ifs,0⟩] scope pos) scope X.env _ (newList []) false (eval iter X.env) (some (assign (.Name y py) X.env))) _ _ s
 refine ah (ir (Ih (PP:=λ_ s'=>∃m t,Inv X d m t s'/\Y.nx m t) cap Q O.calm hi E A j O.hN c.fU c.fu c.bH c.bM c.cA c.hx c.jd hs I (Q0:=λv t=>Y.nx (n.set i (some v)) t) ⟨σ,M,_,l,hv,ht,λrx M1 v H1 q e1 v1 r1=>hd.nx _ M1 _ H1 q e1 v1 ((l.ext e1).set r1 i)⟩ ?_) (λ_ s' hq=>aD (aD hq)) λ_ _ e=>e)
 intro D C s5 m5 Z hn R q hC hL hS f F;have J:Inv X d n Z s5:=R s5.heap (Heap.SameBut.refl ..);refine wpAny_assign_Name (GW J (by rw[O.hN];exact nd) (by rw[O.hN];exact g) (by rw[j];exact hl y (kf g)) (v:=.ref D) rfl (λs6 I6 U=>?_) (.inl (hf y)))
 obtain⟨a,U,ha⟩:=U;have x:C≠a:=by
  rcases ha with rfl|e
  . exact hL
  . exactλz=>f y a e z.symm
 obtain⟨o,es,ep,ho,r⟩:=hn;refine⟨m5,⟨o,es,ep,U.extBut _ _ x ho,r⟩,λh' W=>⟨_,Z,Inv.turned (t':=s6.toks) (it:=C) I6 (λb o hb e=>W.extBut b o hb e) hC hL (.inr hS) f F,q⟩⟩
theorem VU{tup md:Bool}(O:gn Γ k true N sc X)(c:Bp X N sc scope nm cap)(htg:vQ tup tg nm)(hi:iJ X tg iter ti)
 (hif:∀cl C s H fp,qH (dH X scope cl C (nm++cap.map Prod.snd) s H fp) ifs tt) (hel:∀cl C s H fp,aj (dH X scope cl C (nm++cap.map Prod.snd) s H fp) elt te) (hs:∀v,foldedSetIterable iter X.env v=pure v):
 aj X (.ListComp elt [⟨tg,iter,ifs,0⟩] scope pos) (rR (fW tup nm.length) md ti (cap.map Prod.fst) tt te):=by
 obtain⟨hsc,nd,hl,hf,_⟩:=O.fn rfl;intro pins s σ0 H Q0 I hw;rw[eval_ListComp];exact Ih cap htg O.calm hi hif hel hsc O.hN c.fU c.fu c.bH c.bM c.cA c.hx c.jd hs I hw (use:=none) λD C s5 m5 H5 hn inv q hC hL hS hce hpi=>⟨m5,hn,λh' sb=>⟨.ref D,H5,inv h' sb,rfl,q⟩⟩
end
section
variable {X:Cx}{Γ:G}{t:T}{nd:Nd}
theorem HS{op:BoolOp}{vs:aV}{p:Pos}{t:ee}(h:fb X (.BoolOp op vs p) t):nk X (.BoolOp op vs p) t:=λwhole a s b H Q I w=>h a s b H Q I w
theorem yz{f g:Expr->Bool}(a:∀x,f x=true->aj X x (tr Γ t).E)(b:∀x,g x=true->fb X x (tr Γ t).T)(h:tZ nd f g=true):Good Γ X t nd:=by
 cases nd<;>first|(cases h;done)|exact b _ h|exact a _ (mG h).2
theorem Xy(a:∀x,f x=true->fy X x (tr Γ t).S)(h:hE nd f=true):Good Γ X t nd:=by
 cases nd<;>first|(cases h;done)|exact a _ h
theorem JW(a:∀x,f .a x=true->fI X x (tr Γ t).A)(b:∀x,f .l x=true->wF X x (tr Γ t).L)(h:Af nd f=true):Good Γ X t nd:=by
 cases nd<;>first|(cases h;done)|exact a _ h|exact b _ h
theorem rV(b:∀a x,f a x=true->iJ X a x (tr Γ t).I)(h:pY nd f=true):Good Γ X t nd:=by
 cases nd<;>first|(cases h;done)|exact b _ _ h
theorem JU(a:∀x,f x=true->qW X x (tr Γ t).P)(h:Ah nd f=true):Good Γ X t nd:=by
 cases nd<;>first|(cases h;done)|exact a _ h
theorem JV(a:∀x,f x=true->ka X x (tr Γ t).S)(h:Ag nd f=true):Good Γ X t nd:=by
 cases nd<;>first|(cases h;done)|exact a _ h
theorem N8{st:Stmt}:fy X st (λ_ _ _=>False):=λpins s b H c I h=>by
 obtain⟨f,M,D,hs,e,a,d⟩:=h;exact a.elim
theorem XR{st:List Stmt}:ka X st (λ_ _ _=>False):=λpins s b H c I h=>by
 obtain⟨f,M,D,hs,e,a,d⟩:=h;exact a.elim
end
theorem XM{x y:Str}{b c pt a:Pos}{kt i:Nat}{u v:Expr}{env:Env}(d:env.blockKind= .function)(hx:env.kindOf x=some .local)(h:env.kindOf y=some .local)(g:c.line=b.line)(j:¬y=x)(ho:[u,v].all dP=true)(f:[u,v].all (foldedForSure 8)=false)(e:[u,v].all (constantsAlone 8)=false):
 swappedStores [.Tuple [.Name x b,.Name y c] kt pt] (.Tuple [u,v] i a) env=pure (some [x,y]):=by
 unfold swappedStores;have en:([x,y]:aE).eraseDups.length=2:=by
  have:(y==x)=false:=by simpa using j
  simp[List.eraseDups_cons,this]
 simp only[fS,List.all_nil,Bool.and_true,bg]at ho;simp[d,hx,h,g,f,e,en,Expr.pos];rintro (z|z)
 . split at z
   . cases ho.1
   . cases z
 . split at z
   . cases ho.2
   . cases z
theorem Zb{v:Str}(h:BW ps v=true):∃an p,ps=⟨[],[⟨v,an,p⟩],none,[],[],none,[]⟩:=by
 unfold BW at h;simp only[bg,List.isEmpty_iff,Option.isNone_iff_eq_none]at h;obtain⟨⟨⟨⟨⟨⟨i,j⟩,k⟩,l⟩,m⟩,n⟩,o⟩:=h;obtain⟨a,b,c,d,e,f,g⟩:=ps;cases i;cases j;cases k;cases l;cases m;cases n;refine gR (C:=λb=>∃an p,(⟨[],b,none,[],[],none,[]⟩:Arguments)=⟨[],[⟨v,an,p⟩],none,[],[],none,[]⟩) o λy r=>?_
 obtain⟨u,s,t⟩:=y;obtain rfl:=gA r;exact⟨s,t,rfl⟩
theorem Zo{sc:Scope}{env:Env}(h:∀y∈sc.names,y.2≠.free):closureFor sc env=pure []:=by
 unfold closureFor;have:∀(l:List (Str×NameKind)) (cs:List (Str×Addr)),(∀y∈l,y.2≠.free)->(forIn l cs λx r=>do
  let(name,kind):=x
  if(kind== .free)=true then do
   let y<-cellOf env name
   pure (ForInStep.yield ((name,y)::r))
  else pure (ForInStep.yield r):Sem (List (Str×Addr)))=pure cs:=by
  intro l
  induction l with
  |nil=>intro cs _;rfl
  |cons y l ih=>
   intro cs a;rw[sT];have:(y.2==NameKind.free)=false:=by simpa using a y iH
   simp only[this,jr,if_false,pure_bind];exact ih cs λz b=>a z (gJ _ b)
 have e:=this sc.names [] h;simp only[]at e ⊢
 first
  |(rw[e];rfl)
  |(simp only[bind_pure];exact e)
theorem bind1{v:Str}{an:Option Expr}{p:Pos}{sc:Scope}(name qual)(body)(pm cd ct u):bindArgs (PySem.W.kla_fn name qual ⟨[],[⟨v,an,p⟩],none,[],[],none,[]⟩ body sc [] pm cd ct) ⟨[u],[]⟩=pure [(v,u)]:=by
 have e:([(v,u)]:List (Str×Value)).lookup v=some u:=by simp
 unfold bindArgs;simp[seqItems?,PySem.W.kla_fn,e];rfl
theorem Ey{v:Str}{an:Option Expr}{p:Pos}{sc:Scope}(h:BX v sc=true):yT v ⟨[],[⟨v,an,p⟩],none,[],[],none,[]⟩ sc/\∀env:Env,closureFor sc env=pure []:=by
 unfold BX jw at h;simp only[bg,gM,fM,bne_iff_ne,jT]at h;obtain⟨⟨⟨⟨⟨c,b⟩,d⟩,e⟩,f⟩,g,i⟩:=h;exact⟨⟨bind1,c,λy a=>(b y a).1,d,e,f,g⟩,λ_=>Zo λy a=>(b y a).2⟩
theorem GI{sc:Scope}{t:T}(O:gn Γ k false N sc X)(W:Wd X.prog X.w X.K X.mg X.base Γ k)
 (e:∀{a:Bool} {N:aE} {sc:Scope} {X:Cx},gn Γ k a N sc X->Wd X.prog X.w X.K X.mg X.base Γ k->∀{d},mt Γ.S a N sc t d=true->Good Γ X t d)
 (h:(match ifs with| []=>BB t| [c]=>mt Γ.S false N sc t (.t c)|_=>false)=true):qH X ifs (tr Γ t).T:=by
 split at h
 . revert h
   exactλh=>di h λi=>T.b.elim t i λb h=>by cases b<;>first|exact NJ|cases h
 . exact NI (e O W h)
 . cases h
set_option hygiene false in
local macro_rules
 | `(tactic|walk_at "g0")=>`(tactic|(intro fc N sc X O W nd h))
 | `(tactic|walk_at "gE")=>`(tactic|(walk_at "g0";refine uU rfl (fun x hx=>?_) h))
 | `(tactic|walk_at "gS")=>`(tactic|(walk_at "g0";refine Xy (fun x hx=>?_) h))
 | `(tactic|walk_at "ga")=>`(tactic|simp only[bg,fM]at hx)
theorem Kc:∀{ks:aE} {keys:List (Option Expr)} {vals:aV} {ts:List ar},zk ks keys=true->vals.length=ks.length->wF X vals ts->v9 X pos keys vals (ks.zip ts)/\(ks.zip ts).map (·.1)=ks/\keys.length=ks.length/\keys.all (·.isSome)=true
 | [],keys,[],ts,h,_,hr=>by cases keys with|nil=>exact⟨Nh,rfl,rfl,rfl⟩|cons a b=>cases h
 | [],keys,_::_,ts,h,hl,hr=>by cases hl
 |k::ks,keys,[],ts,h,hl,hr=>by cases hl
 |k::ks,keys,v::vals,ts,h,hl,hr=>by
  obtain⟨t,r,rfl,h1,h2⟩:=hr;revert h;unfold zk;intro h;refine iD h λx zs h=>?_
  obtain⟨ha,hb⟩:=mG h;obtain⟨i1,i2,i3,i4⟩:=Kc (pos:=pos) hb (Nat.succ.inj hl) h2;refine BD ha λe ha=>?_
  refine vM ha λc _ _ ha=>?_
  obtain rfl:=gA ha;exact⟨XY h1 i1,by rw[List.zip_cons_cons,bF,i2],by rw[cY,i3];rfl,by rw[fS,i4];rfl⟩
theorem sound:∀(t:T) {fc:Bool} {N:aE} {sc:Scope} {X:Cx},gn Γ k fc N sc X->Wd X.prog X.w X.K X.mg X.base Γ k->∀{nd},mt Γ.S fc N sc t nd=true->Good Γ X t nd:=by
 intro t
 induction t with
 |v i=>
  walk_at "gE";refine ig hx λ_ _ hx=>?_
  exact O.var (by simpa using hx)
 |i n=>
  walk_at "gE";refine vM hx λm _ _ hx=>?_
  obtain rfl:=gA hx;exact ri
 |s n=>
  walk_at "gE";refine vM hx λm _ _ hx=>?_
  obtain rfl:=gA hx;exact rs
 |b n=>
  walk_at "gE";refine vM hx λm _ _ hx=>?_
  obtain rfl:=gA hx;exact rb
 |n=>
  walk_at "gE";refine vM hx λ_ _ _ hx=>?_
  obtain rfl:=gA hx;exact rn
 |g x0=>
  walk_at "gE";refine ig hx λ_ _ hx=>?_
  walk_at "ga";obtain⟨⟨rfl,h1⟩,h2⟩:=hx;obtain⟨h2,h3⟩:=ia h2;obtain⟨i,hi⟩:=zB.mp h1;rw[hi];exact ZR (W.gi _ _ hi) (O.gl _ h2) h3
 |ty x0=>
  walk_at "gE";refine ig hx λ_ _ hx=>?_
  walk_at "ga";obtain⟨⟨⟨rfl,h1⟩,h2⟩,h3⟩:=hx;exact X3 h1 (W.bl _ (mem_of h2)) (O.gl _ (ia h3).1)
 |op o a b iha ihb=>
  walk_at "gE";refine Zn hx λ_ _ _ _ hx=>?_
  walk_at "ga";obtain⟨⟨rfl,h1⟩,h2⟩:=hx;exact ZV (W7 o) (iha O W h1) (ihb O W h2)
 |cm o a b iha ihb=>
  walk_at "g0";refine uM rfl (λx hx=>?_) h
  refine vg hx λ_ _ _ _ hx=>?_
  walk_at "ga";obtain⟨⟨rfl,h1⟩,h2⟩:=hx;exact⟨OL (rX O.room.units o) (iha O W h1) (ihb O W h2) (mD (eK h2)),Y0 (rX O.room.units o) (iha O W h1) (ihb O W h2) (mD (eK h2))⟩
 |ch o p a b c iha ihb ihc=>
  walk_at "g0";refine uM rfl (λx hx=>?_) h
  refine K2 hx λ_ z1 z2 _ hx=>?_
  refine vC hx λ_ _ hx=>?_
  refine vC hx λ_ _ hx=>?_
  walk_at "ga";obtain⟨⟨⟨⟨rfl,rfl⟩,h1⟩,h2⟩,h3⟩:=hx;exact⟨VW (rX O.room.units _) (rX O.room.units _) (iha O W h1) (ihb O W h2) (ihc O W h3) (Gy (eK h3)),UC (rX O.room.units _) (rX O.room.units _) (iha O W h1) (ihb O W h2) (ihc O W h3) (Gy (eK h3))⟩
 |an a b iha ihb=>
  walk_at "g0";refine yz (λx hx=>?_) (λx hx=>?_) h
  . refine yN hx λz1 z2 p hx=>?_
    refine qy hx λhx=>?_
    refine iD hx λx z3 hx=>?_
    refine iD hx λy r hx=>?_
    simp only[bg]at hx;have h1:=iha O W hx.1;have h2:=ihb O W hx.2;cases r with
    |nil=>exact Kk h1 (E2 (h2:aj X y _))
    |cons z r=>exact Kk h1 h2
  . refine yN hx λz1 z2 p hx=>?_
    refine qy hx λhx=>?_
    refine iD hx λx z3 hx=>?_
    refine iD hx λy r hx=>?_
    simp only[bg]at hx;have h1:=iha O W hx.1;have h2:=ihb O W hx.2;cases r with
    |nil=>exact zx (rand h1 (Ys (h2:fb X y _)))
    |cons z r=>exact zx (rand h1 (HS h2))
 |or a b iha ihb=>
  walk_at "g0";refine yz (λx hx=>?_) (λx hx=>?_) h
  . refine yN hx λz1 z2 p hx=>?_
    refine qy hx λhx=>?_
    refine iD hx λx z3 hx=>?_
    refine iD hx λy r hx=>?_
    simp only[bg]at hx;have h1:=iha O W hx.1;have h2:=ihb O W hx.2;cases r with
    |nil=>exact EZ h1 (E2 (h2:aj X y _))
    |cons z r=>exact EZ h1 h2
  . refine yN hx λz1 z2 p hx=>?_
    refine qy hx λhx=>?_
    refine iD hx λx z3 hx=>?_
    refine iD hx λy r hx=>?_
    simp only[bg]at hx;have h1:=iha O W hx.1;have h2:=ihb O W hx.2;cases r with
    |nil=>exact zx (Me h1 (OH (h2:fb X y _)))
    |cons z r=>exact zx (Me h1 (HS h2))
 |no a iha=>
  walk_at "g0";refine yz (λx hx=>?_) (λx hx=>?_) h
  . refine KY hx λz1 _ _ hx=>?_
    refine qy hx λhx=>?_
    exact Y1 (iha O W hx)
  . refine KY hx λz1 _ _ hx=>?_
    refine qy hx λhx=>?_
    exact YZ (iha O W hx)
 |ie t a b iht iha ihb=>
  walk_at "gE";refine Zm hx λ_ _ _ _ hx=>?_
  walk_at "ga";obtain⟨⟨h1,h2⟩,h3⟩:=hx;exact ZS (iht O W h1) (iha O W h2) (ihb O W h3)
 |tu a iha=>
  walk_at "gE";refine vL hx λ_ _ _ hx=>?_
  exact OF (iha O W hx)
 |ll a iha=>
  walk_at "gE";refine KZ hx λ_ _ hx=>?_
  exact OJ (iha O W hx)
 |lm a iha=>
  walk_at "gE";refine KZ hx λ_ _ hx=>?_
  exact OI (iha O W hx)
 |e0=>
  walk_at "g0";refine JW (λx hx=>?_) (λx hx=>?_) h
  . refine iE hx λ_=>?_
    exact B1
  . refine iE hx λ_=>?_
    rfl
 |ec a r iha ihr=>
  walk_at "g0";refine JW (λx hx=>?_) (λx hx=>?_) h
  . refine iD hx λ_ _ hx=>?_
    have hx:=mG hx;exact yQ (iha O W hx.1) (ihr O W hx.2) (iT (eK hx.1))
  . refine iD hx λ_ _ hx=>?_
    have hx:=mG hx;exact⟨_,_,rfl,iha O W hx.1,ihr O W hx.2⟩
 |ix a b iha ihb=>
  walk_at "gE";refine nX hx λ_ _ _ hx=>?_
  walk_at "ga";obtain⟨h1,h2⟩:=hx;exact ZT (iha O W h1) (ihb O W h2) (yt (eK h2))
 |sl a l h0 iha ihl ihh=>
  walk_at "gE";refine nX hx λ_ z1 _ hx=>?_
  refine Zl hx λ_ _ z2 _ hx=>?_
  refine BE hx λhx=>?_
  walk_at "ga";obtain⟨⟨h1,h2⟩,h3⟩:=hx;exact ZW (iha O W h1) (ihl O W h2) (ihh O W h3)
 |p0=>
  walk_at "g0";refine JU (λx hx=>?_) h
  refine BE hx λhx=>?_
  exact YC
 |p1 a iha=>
  walk_at "g0";refine JU (λx hx=>?_) h
  refine BD hx λ_ hx=>?_
  exact Yz (iha O W hx)
 |fl c f a iha=>
  walk_at "gE";refine vN hx λ_ _ _ hx=>?_
  walk_at "ga";obtain⟨⟨⟨rfl,h1⟩,h2⟩,h3⟩:=hx;exact Zf (W.fs _ _ (mem_of h1)).1 (W.fs _ _ (mem_of h1)).2 (iha O W h3) (by simpa using h2)
 |ca f a iha=>
  walk_at "gE";refine mF hx λx p es p' hx=>?_
  simp only[bg]at hx;obtain⟨⟨h1,h2⟩,h3⟩:=hx;cases e:Γ.S.fd[f]? with
  |none=>rw[e]at h1;cases h1
  |some d=>
  rw[e]at h1;simp only[bg,fM]at h1;obtain⟨h1,rfl⟩:=h1;obtain⟨h2,h4⟩:=ia h2;cases es with
  |nil=>
   have:=BK h3;subst this;exact UJ (W.fn f d e h1) O.room (O.gl _ h2) h4
  |cons z es=>
   have ho:=j3 h3;rw[fS,bg]at ho;exact VY (W.fn f d e h1) O.room (iha O W h3) (O.gl _ h2) h4 (iT ho.1) (rJ ho.2)
 |me f o a iho iha=>
  walk_at "g0";cases ef:Γ.S.fd[f]? with
  |none=>
   refine uU (r:=ji) (by show ex _=_;rw[ef]) (λx hx=>IW) h
  |some d=>
   refine uU (r:=qM (Γ.C d.cls) d.name (Γ.fn f) (tr Γ o).E (tr Γ a).A) (by show ex _=_;rw[ef]) (λx hx=>?_) h
   refine rW hx λx m ap es p hx=>?_
   rw[ef]at hx;simp only[bg,fM,gY]at hx;obtain⟨⟨⟨⟨⟨⟨h1,rfl⟩,h2⟩,h3⟩,h4⟩,h5⟩,h6⟩:=hx;have W1:=W.me f d ef h1;cases es with
   |nil=>
    have:=BK h6;subst this;exact WA W1.2 W1.1 O.room (iho O W h5) (by simpa using h2) h3
   |cons z es=>exact Zy W1.2 W1.1 O.room (iho O W h5) (iha O W h6) (by simpa using h2) (j3 h6) h4 h3
 |mk f a iha=>
  walk_at "g0";cases ef:Γ.S.fd[f]? with
  |none=>
   refine uU (r:=ji) (by show ex _=_;rw[ef]) (λx hx=>IW) h
  |some d=>
   refine uU (r:=sg (Γ.C d.cls) (Γ.nE f) (tr Γ a).A) (by show ex _=_;rw[ef]) (λx hx=>?_) h
   refine mF hx λx p es p' hx=>?_
   rw[ef]at hx;walk_at "ga";obtain⟨⟨⟨h1,h1'⟩,h2⟩,h3⟩:=hx;obtain⟨h2,h4⟩:=ia h2;obtain⟨j,hj,F⟩:=W.nE f d ef h1;have C1:=W.cl _ _ h1';cases es with
   |nil=>
    have:=BK h3;subst this;exact UI F (O.room.mono hj) C1.2 (O.gl _ h2) h4
   |cons z es=>
    have ho:=j3 h3;rw[fS,bg]at ho;exact Wm F (O.room.mono hj) C1.2 (iha O W h3) (O.gl _ h2) h4 (iT ho.1) (rJ ho.2)
 |bf f a iha=>
  walk_at "gE";refine mF hx λx p es p' hx=>?_
  walk_at "ga";obtain⟨⟨⟨⟨⟨rfl,h1⟩,h2⟩,h3⟩,h4⟩,h5⟩:=hx;obtain⟨h3,h6⟩:=ia h3;cases es with
  |nil=>cases h4
  |cons z es=>exact Za O.calm h1 (W.bl _ (mem_of h2)) (O.gl _ h3) h6 (iha O W h5) (j3 h5)
 |bt f a iha=>
  walk_at "gE";refine mF hx λx p es p' hx=>?_
  walk_at "ga";obtain⟨⟨⟨⟨⟨rfl,h1⟩,h2⟩,h3⟩,h4⟩,h5⟩:=hx;obtain⟨h3,h6⟩:=ia h3;cases es with
  |nil=>cases h4
  |cons z es=>exact Xi O.calm h1 (W.bl _ (mem_of h2)) (O.gl _ h3) h6 (iha O W h5) (j3 h5)
 |ap o a iho iha=>
  walk_at "gE";refine rW hx λ_ _ _ z1 _ hx=>?_
  refine gR hx λ_ hx=>?_
  walk_at "ga";obtain⟨⟨⟨⟨rfl,h1⟩,h2⟩,h3⟩,h4⟩:=hx;exact UK (iho O W h3) (iha O W h4) (qh (by simpa using h1)) (by rw[AK (j3 h4)];rfl) h2 (iT (by have:=j3 h4;rw[fS,bg]at this;exact this.1)) rfl
 |dg d k0 ihd ihk=>
  walk_at "gE";refine nX hx λ_ _ _ hx=>?_
  walk_at "ga";obtain⟨h1,h2⟩:=hx;exact X1 (mM O.room) (ihd O W h1) (ihk O W h2) (yt (eK h2))
 |dn neg k0 d ihk ihd=>
  walk_at "g0";refine uM rfl (λx hx=>?_) h
  refine vg hx λ_ _ _ _ hx=>?_
  walk_at "ga";obtain⟨⟨h0,h1⟩,h2⟩:=hx;have g1:=ihk O W h1;have g2:=ihd O W h2;cases neg with
  |true=>rw[ai rfl]at h0;subst h0;exact⟨UO (mM O.room) g1 g2 (mD (eK h2)),Sz (mM O.room) g1 g2 (mD (eK h2))⟩
  |false=>rw[ae (by decide)]at h0;subst h0;exact⟨NH (mM O.room) g1 g2 (mD (eK h2)),XZ (mM O.room) g1 g2 (mD (eK h2))⟩
 |d1 d k0 ihd ihk=>
  walk_at "gE";refine rW hx λ_ _ _ z1 _ hx=>?_
  refine gR hx λ_ hx=>?_
  walk_at "ga";obtain⟨⟨⟨⟨rfl,h1⟩,h2⟩,h3⟩,h4⟩:=hx;exact Vp (mM O.room) (ihd O W h3) (ihk O W h4) (Zz (by simpa using h1) h2 (eK h4))
 |dk=>
  walk_at "gE";refine yO hx λz1 z2 _ hx=>?_
  refine iE hx λhx=>?_
  refine iE hx λhx=>?_
  exact Y6
 |dt=>
  walk_at "gE";refine yO hx λz1 z2 _ hx=>?_
  refine iE hx λhx=>?_
  refine iE hx λhx=>?_
  exact VS
 |ic neg a x0 iha=>
  walk_at "g0";cases ef:Γ.S.gt.lookup x0 with
  |none=>
   refine uM (r:=ji) (by show ex _=_;rw[ef]) (λx hx=>?_) h
   refine vg hx λ_ _ z1 _ hx=>?_
   refine ig hx λ_ _ hx=>?_
   rw[ef]at hx;simp at hx
  |some ss=>
   refine uM (r:=sD neg ss (tr Γ a).E) (by show ex _=_;rw[ef]) (λx hx=>?_) h
   refine vg hx λ_ _ z1 _ hx=>?_
   refine ig hx λ_ _ hx=>?_
   walk_at "ga";obtain⟨⟨⟨⟨h0,rfl⟩,_⟩,h2⟩,h3⟩:=hx;obtain⟨h2,h4⟩:=ia h2;have g:=iha O W h3;cases neg with
   |true=>rw[ai rfl]at h0;subst h0;exact Ju (Vh O.room.units) (W.gt _ _ ef) g (O.gl _ h2) h4
   |false=>rw[ae (by decide)]at h0;subst h0;exact Ju (O0 O.room.units) (W.gt _ _ ef) g (O.gl _ h2) h4
 |tx x0 a iha=>
  walk_at "gE";refine nX hx λz1 _ _ hx=>?_
  refine ig hx λ_ _ hx=>?_
  walk_at "ga";obtain⟨⟨⟨rfl,h1⟩,h2⟩,h3⟩:=hx;exact OG (W.tb _ (mem_of h1)) (iha O W h3) (yt (eK h3)) (O.gl _ (ia h2).1) (ia h2).2
 |tn x0 a iha=>
  walk_at "g0";refine yz (λx hx=>by cases hx) (λx hx=>?_) h
  refine vg hx λ_ _ z1 _ hx=>?_
  refine ig hx λ_ _ hx=>?_
  walk_at "ga";obtain⟨⟨⟨⟨rfl,rfl⟩,h1⟩,h2⟩,h3⟩:=hx;obtain⟨h2,h5⟩:=ia h2;exact RC (W.tb _ (mem_of h1)) (iha O W h3) (O.gl _ h2) h5
 |cv i a iha=>
  walk_at "gE";refine mF hx λx p es p' hx=>?_
  walk_at "ga";obtain⟨⟨h1,h2⟩,h3⟩:=hx;cases es with
  |nil=>cases h2
  |cons z es=>
   have ho:=j3 h3;rw[fS,bg]at ho;exact VX Γ.iK (λq hq=>by obtain⟨fd,ps,a1,a2,a3⟩:=W.iK q hq;exact⟨fd,ps,k,O.room,a1,a2,a3⟩) (O.var h1) (iha O W h3) (iT ho.1) (rJ ho.2)
 |di l a iha=>
  walk_at "gE";refine nX hx λz1 _ _ hx=>?_
  refine yO hx λ_ _ _ hx=>?_
  simp only[bg,gY]at hx;obtain⟨⟨⟨⟨h1,h2⟩,h3⟩,h4⟩,h5⟩:=hx;obtain⟨a1,a2,a3,a4⟩:=KI (X:=X) _ _ _ h1;have hl:l≠[]:=by intro z;rw[z]at h2;cases h2
  exact VT l (mM O.room) a1 (iha O W h5) h4 rfl h3 a2 a3 (by intro z;rw[z]at a4;exact hl (List.eq_nil_of_length_eq_zero a4.symm)) (by rw[a4];exact h3) (yt (eK h5))
 |lr a b iha ihb=>
  walk_at "gE";refine mF hx λ_ _ z1 _ hx=>?_
  refine gR hx λz2 hx=>?_
  refine mF hx λ_ _ z3 _ hx=>?_
  refine vC hx λ_ _ hx=>?_
  walk_at "ga";obtain⟨⟨⟨⟨⟨⟨⟨rfl,rfl⟩,h1⟩,h2⟩,h3⟩,h4⟩,h5⟩,h6⟩:=hx;have s1:=iT (es:=[]) (env:=X.env) (eK h6);have s2:=λr=>iT (es:=r) (env:=X.env) (eK h5)
  exact VQ (W.bl _ (mem_of h1)) (W.bl _ (mem_of h2)) O.calm (iha O W h5) (ihb O W h6) (O.gl _ (ia h3).1) (O.gl _ (ia h4).1) (by rw[s2,s1];rfl) s1 (s2 _) s1 rfl
 |cp md tup nm cap it t e ihi iht ihe=>
  walk_at "gE";refine K1 hx λel z1 scope p hx=>?_
  refine gR hx λz2 hx=>?_
  obtain⟨tg,ite,ifs,as⟩:=z2;walk_at "ga";obtain⟨⟨⟨⟨⟨⟨⟨rfl,rfl⟩,h1⟩,h2⟩,h3⟩,h4⟩,h5⟩,h6⟩:=hx;exact VU O (Hq h2) (Ka h1) (ihi O W h4) (λcl C s H fp=>GI (yp O h2) W iht h6) (λcl C s H fp=>ihe (yp O h2) W h5) (yn h3)
 |ik a iha=>
  walk_at "g0";refine rV (λtg x hx=>?_) h
  simp only[bg]at hx;exact ZH (iha O W hx.2)
 |iv a iha=>
  walk_at "g0";refine rV (λtg x hx=>?_) h
  refine rW hx λ_ _ _ z1 _ hx=>?_
  refine iE hx λhx=>?_
  walk_at "ga";obtain⟨⟨⟨rfl,h1⟩,h2⟩,h3⟩:=hx;exact ZG (iha O W h3) (qh (by simpa using h1)) h2
 |im a iha=>
  walk_at "g0";refine rV (λtg x hx=>?_) h
  refine rW hx λx m ap z p hx=>?_
  refine iE hx λhx=>?_
  walk_at "ga";obtain⟨⟨⟨⟨h0,rfl⟩,h1⟩,h2⟩,h3⟩:=hx;exact Expr.Tuple.elim tg h0 λ_ _ _=>Xu (iha O W h3) (qh (by simpa using h1)) h2
 |lv md a iha=>
  walk_at "gE";refine mF hx λ_ _ z1 _ hx=>?_
  refine gR hx λz2 hx=>?_
  refine rW hx λ_ _ _ z3 _ hx=>?_
  refine iE hx λhx=>?_
  walk_at "ga";obtain⟨⟨⟨⟨⟨⟨rfl,rfl⟩,h1⟩,h2⟩,h3⟩,h4⟩,h5⟩:=hx;exact ZU (W.bl _ (mem_of h1)) O.calm (iha O W h5) (O.gl _ (ia h2).1) (qh (by simpa using h3)) h4
 |pr i j a iha=>
  walk_at "gS";refine qk hx λz1 z2 pos hx=>?_
  refine vL hx λz3 kt pt hx=>?_
  refine vC hx λz4 z5 hx=>?_
  refine ig hx λx px hx=>?_
  refine ig hx λy py hx=>?_
  refine vL hx λz6 k2 pt2 hx=>?_
  refine vC hx λu v hx=>?_
  simp only[bg,fM,bne_iff_ne,ne_eq]at hx;obtain⟨⟨⟨⟨⟨⟨⟨⟨⟨⟨rfl,h1⟩,h2⟩,h3⟩,h4⟩,h5⟩,h6⟩,h7⟩,h8⟩,h9⟩,h10⟩:=hx;obtain⟨hsc,nd,hl,hf,_,hb,hk⟩:=O.fn rfl;exact N6 O.calm (by rw[O.hN];exact nd) (by rw[O.hN];exact h1) (by rw[O.hN];exact h2) h3 (by rw[hsc];exact h4) (by rw[hsc];exact h5) (iha O W h10) (XM hb (by rw[hk];exact h4) (by rw[hk];exact h5) h6 (by simpa using h7) (j3 h10) ((jT _).mp h8) ((jT _).mp h9))
 |af c f o a iho iha=>
  walk_at "gS";refine X6 hx λz1 z2 _ _ hx=>?_
  refine vN hx λ_ _ _ hx=>?_
  refine qy hx λhx=>?_
  walk_at "ga";obtain⟨⟨⟨rfl,h1⟩,h2⟩,h3⟩:=hx;exact ZX (W.fs _ _ (mem_of h1)).1 (W.fs _ _ (mem_of h1)).2 (iho O W h2) (iha O W h3)
 |dd d k0 ihd ihk=>
  walk_at "gS";refine Yi hx λz1 _ hx=>?_
  refine gR hx λz2 hx=>?_
  refine nX hx λ_ _ _ hx=>?_
  simp only[bg]at hx;exact Vv (mM O.room) (ihd O W hx.1) (ihk O W hx.2)
 |is a iha=>
  walk_at "g0";refine rV (λtg x hx=>?_) h
  simp only[bg]at hx;exact Oq (iha O W hx.2)
 |st a iha=>
  walk_at "g0";refine rV (λtg x hx=>?_) h
  simp only[bg]at hx;exact Oo (iha O W hx.2)
 |r1 a iha=>
  walk_at "g0";refine rV (λtg x hx=>?_) h
  refine mF hx λ_ _ z1 _ hx=>?_
  refine gR hx λ_ hx=>?_
  walk_at "ga";obtain⟨⟨⟨rfl,h1⟩,h2⟩,h3⟩:=hx;have s1:=iT (es:=[]) (env:=X.env) (eK h3);exact Wx (W.bl _ (mem_of h1)) (iha O W h3) (O.gl _ (ia h2).1) s1 s1
 |set i a iha=>
  walk_at "gS";refine qk hx λz1 e p' hx=>?_
  refine ig hx λx p hx=>?_
  simp only[bg,fM,Bool.or_eq_true]at hx;obtain⟨⟨⟨rfl,h1⟩,h2⟩,h3⟩:=hx;rcases h2 with h2|h2
  . exact O.qK h1 (iha O W h3) (rK (eK h3) (by simpa using h2))
  . by_cases hc:mw e=true
    . cases e<;>first|(cases hc;done)|skip
      exact O.qK h1 (iha O W h3) (XJ O h2)
    . exact O.qK h1 (iha O W h3) (rK (eK h3) (by simpa using hc))
 |sc i md tup nm cap it t e ihi iht ihe=>
  walk_at "gS";refine qk hx λz1 z2 p3 hx=>?_
  refine ig hx λx p hx=>?_
  refine K1 hx λel z3 scope p2 hx=>?_
  refine gR hx λz4 hx=>?_
  obtain⟨tg,ite,ifs,as⟩:=z4;walk_at "ga";obtain⟨⟨⟨⟨⟨⟨⟨⟨⟨⟨⟨rfl,h1⟩,h2⟩,h3⟩,h4⟩,rfl⟩,h5⟩,h6⟩,h7⟩,h8⟩,h9⟩,h10⟩:=hx;exact Wa O i (Hq h6) (Ka h5) (ihi O W h8) (λcl C s H fp=>GI (yp O h6) W iht h10) (λcl C s H fp=>ihe (yp O h6) W h9) (yn h7) h1 (Yn O h2 h3 (by simpa using h4))
 |un is a iha=>
  walk_at "gS";refine qk hx λz1 e p' hx=>?_
  refine vL hx λes j p hx=>?_
  simp only[bg]at hx;obtain⟨⟨⟨⟨rfl,h1⟩,h2⟩,h3⟩,h4⟩:=hx;have hw:swappedStores [.Tuple es j p] e X.env=pure none:=by cases e<;>first|rfl|cases h3
  exact EX (iha O W h4) (gT O h1) (HK (eK h4) (by simpa using h2)) hw rfl
 |sf c f o a iho iha=>
  walk_at "gS";refine qk hx λz1 _ _ hx=>?_
  refine vN hx λ_ _ _ hx=>?_
  walk_at "ga";obtain⟨⟨⟨⟨rfl,h1⟩,h2⟩,h3⟩,h4⟩:=hx;exact XS (W.fs _ _ (mem_of h1)).1 (W.fs _ _ (mem_of h1)).2 (iho O W h3) (iha O W h4) (rK (eK h4) (by simpa using h2))
 |dp d k0 a ihd ihk iha=>
  walk_at "gS";refine qk hx λz1 _ _ hx=>?_
  refine nX hx λ_ _ _ hx=>?_
  walk_at "ga";obtain⟨⟨⟨h1,h2⟩,h3⟩,h4⟩:=hx;exact Vu (mM O.room) (ihd O W h2) (ihk O W h3) (iha O W h4) (rK (eK h4) (by simpa using h1))
 |sp l i a ihl ihi iha=>
  walk_at "gS";refine qk hx λz1 _ _ hx=>?_
  refine nX hx λ_ _ _ hx=>?_
  walk_at "ga";obtain⟨⟨⟨h1,h2⟩,h3⟩,h4⟩:=hx;exact EX (iha O W h4) (Ou (ihl O W h2) (ihi O W h3) YI (Vs (eK h3))) (HK (eK h4) (by simpa using h1)) rfl rfl
 |re a iha=>
  walk_at "gS";refine Kv hx λz1 _ hx=>?_
  refine BD hx λ_ hx=>?_
  exact N5 (iha O W hx)
 |r0=>
  walk_at "gS";refine Kv hx λz1 _ hx=>?_
  refine BE hx λhx=>?_
  exact XO
 |bc t a b iht iha ihb=>
  walk_at "gS";refine Yc hx λ_ _ _ _ hx=>?_
  walk_at "ga";obtain⟨⟨h1,h2⟩,h3⟩:=hx;exact ZY (iht O W h1) (iha O W h2) (ihb O W h3)
 |fo tup is it b ihi ihb=>
  walk_at "gS";refine Yd hx λtg x y z1 p hx=>?_
  refine iE hx λhx=>?_
  simp only[bg]at hx;obtain⟨⟨⟨⟨rfl,h1⟩,h2⟩,h3⟩,h4⟩:=hx;have hp:=(O.fn rfl).2.2.2.2.1;have g3:=ihi O W h3;revert g3;cases tup with
  |true=>exact vL h2 λes _ _ h2 g3=>EW hp O.calm g3 (gT O h2) (ihb O W h4) (yn h1)
  |false=>
   refine ig h2 λz _ h2=>?_
   exact gR h2 λi h2 g3=>EW hp O.calm g3 (O.gN (by simpa using h2)) (ihb O W h4) (yn h1)
 |ex a iha=>
  walk_at "gS";refine Ye hx λ_ _ hx=>?_
  walk_at "ga";obtain⟨h1,h2⟩:=hx;exact XT (iha O W h2) (rK (eK h2) (by simpa using h1))
 |ra=>
  intro fc N sc X O W nd h;cases nd<;>first|exact N8|exact XR|exact aW h gX
 |se a b iha ihb=>
  walk_at "g0";refine JV (λx hx=>?_) h
  refine iD hx λ_ _ hx=>?_
  walk_at "ga";obtain⟨h1,h2⟩:=hx;exact XU (t:=(tr Γ a).S) (u:=(tr Γ b).S) (iha O W h1) (ihb O W h2)
 |en=>
  walk_at "g0";refine JV (λx hx=>?_) h
  refine iE hx λhx=>?_
  exact N7
 |dy ks a iha=>
  walk_at "gE";refine yO hx λ_ _ _ hx=>?_
  simp only[bg,gY,fM]at hx;obtain⟨⟨⟨⟨⟨h1,h2⟩,h3⟩,h4⟩,h5⟩,h6⟩:=hx;obtain⟨i1,i2,i3,i4⟩:=Kc h1 h5 (iha O W h6);exact Y7 i1 (by rw[i2];exact h4) (by rw[<-bo (f:=(·.1)),i2];exact h3) i4 (by rw[i3,h5]) (by intro z;rw[z]at i3;cases ks with|nil=>cases h2|cons _ _=>cases i3) (by rw[i3];exact h3)
 |sk c f a iha=>
  walk_at "gE";refine BO hx λg es ks _ hx=>?_
  refine ig hx λx _ hx=>?_
  refine gR hx λe hx=>?_
  refine gR hx λk hx=>?_
  obtain⟨k1,k2,k3⟩:=k;simp only[bg,gY,fM]at hx;obtain⟨⟨⟨⟨⟨⟨⟨⟨rfl,rfl⟩,hy⟩,hf⟩,hN⟩,h2⟩,h3⟩,h4⟩,h5⟩:=hx;refine Zk (C:=λz=>aj X (.Call (.Name _ _) [e] [⟨_,z,k3⟩] _) _) hy λps b ls lp hy=>?_
  refine vN hy λe' f' _ hy=>?_
  obtain⟨hy0,hz⟩:=mG hy;obtain rfl:=gA hy0;refine ig hz λv _ hy=>?_
  simp only[bg,gY]at hy;obtain⟨⟨rfl,hy1⟩,hy2⟩:=hy;obtain⟨an,p,rfl⟩:=Zb hy1;obtain⟨h3,h6⟩:=ia h3;obtain⟨lq,⟨cc,lc,lh⟩,lb,lg⟩:=O.lm hf hN;exact Wi (iha O W h5) (W.bl _ (mem_of h2)) (O.gl _ h3) (W.fs _ _ (mem_of h4)).1 (W.fs _ _ (mem_of h4)).2 (Ey hy2).1 O.room.depth lc lh lb lg rfl ((Ey (an:=an) (p:=p) hy2).2 _) lq (iT (eK h5))
structure jb where
 S:SI
 tb:Str->bP
 C:Nat->Addr
 cv:List (Addr×Nat)
 lP:Addr:=0
noncomputable def jb.G(p:jb)(f f':Nat->cu):G:=⟨p.S,p.tb,p.C,f,f',p.cv.map λq=>(q.1,f q.2),p.lP⟩
def EY(b:G)(d:FD):cu:=λrs M Q=>rs.length=d.ps.length/\(tr b d.body).S { nx:=λ_ a=>Q .aq a,rt:=Q } (jh d.N rs) M
def Bu(p:jb)(f a:Nat->cu)(i:Nat):cu:=match p.S.fd[i]? with
 |some d=>EY (p.G f a) d
 |none=>λ_ _ _=>False
def qB(p:jb):Nat->(Nat->cu)×(Nat->cu)
 |0=>(λ_ _ _ _=>False,λ_ _ _ _=>False)
 |n+1=>(Bu p (qB p n).1 (qB p n).2,(qB p n).1)
def aA(p:jb)(n:Nat):Nat->cu:=(qB p n).1
def jb.Gn(p:jb)(n:Nat):R.G:=p.G (aA p n) (qB p n).2
theorem HL{p:jb}{n i:Nat}(h:p.S.fd[i]? =some d):aA p (n+1) i=EY (p.Gn n) d:=by
 show Bu p _ _ i=_;unfold Bu;rw[h];rfl
structure jY(K:ag)(mg:bC)(S:SI)(C:Nat->Addr)(lP:Addr)(d:FD)(g:Addr)(fd:FuncData):Prop where
 ex:∃(qual:Str) (st:Stmt),(d.N=S.ln->qual++(".<locals>.":Str)++("<lambda>":Str)=S.lq/\∃cc,fd.code= .ref cc/\∀h:Heap,K.In h->PySem.W.CodeHd h cc lP)/\sV K d.name qual st g fd/\rO d.N d.ps (gu st)/\J6 d.N (gu st)/\mt S true d.N (gu st) d.body (.b (qg st))=true
 bd:Binds K fd d.ps []
 k0:d.kind=0->mg d.name=some (.ref g)
 k1:d.kind=1->cZ K (C d.cls)/\Meth K (C d.cls) d.name g
 k2:d.kind=2->Mk K (C d.cls) g
structure Hd(P:Program)(w:World)(K:ag)(mg:bC)(p:jb):Prop where
 bl:∀x∈p.S.bl,mg x=none
 gi:∀x i,p.S.gi.lookup x=some i->Cb mg x i
 gt:∀x l,p.S.gt.lookup x=some l->sJ K mg x l
 tb:∀x∈p.S.tb,KTab P w K mg x (p.tb x)
 tt:∀x l,p.S.tt.lookup x=some l->BI P w K mg x l
 cl:∀(i:Nat) c,p.S.cl[i]? =some c->cZ K (p.C i)/\mg c=some (.ref (p.C i))
 fs:∀c f,(c,f)∈p.S.fs->cZ K (p.C c)/\aZ K (p.C c) f
 fns:∀(i:Nat) d,p.S.fd[i]? =some d->∃g fd,jY K mg p.S p.C p.lP d g fd
 lm:∀(i:Nat) d,p.S.fd[i]? =some d->d.N=p.S.ln->mainGlobals≠p.lP/\∀h:Heap,K.In h->h.BuiltinsAt mg p.lP
 cv:∀q∈p.cv,∃d,p.S.fd[q.2]? =some d/\d.kind=0/\mg d.name=some (.ref q.1)
section
variable {P:Program}{w:World}{K:ag}{mg:bC}{p:jb}{base:Heap}
theorem Ib{g:Addr}:eW P w K mg base fN k g fd ps (gd K λ_ _ _=>False) where
 len:=λvs H Q E h=>by obtain⟨rs,M,c,_,_,h,_⟩:=h;exact h.elim
 run:=λA a s H b us vs Q E _ _ _ _ h=>by obtain⟨rs,M,c,_,_,h,_⟩:=h;exact h.elim
theorem XX{n:Nat}(H:Hd P w K mg p)(L:∀(i:Nat) d g fd,p.S.fd[i]? =some d->jY K mg p.S p.C p.lP d g fd->eW P w K mg base fN (n+1) g fd d.ps (gd K (aA p n i))/\eW P w K mg base fN n g fd d.ps (gd K ((qB p n).2 i))):Wd P w K mg base (p.Gn n) (n+1) where
 bl:=H.bl
 gi:=H.gi
 gt:=H.gt
 tb:=H.tb
 tt:=H.tt
 cl:=H.cl
 fs:=H.fs
 fn:=λi d e a=>by
  obtain⟨g,fd,F⟩:=H.fns i d e;obtain⟨q,st,_,b,_⟩:=F.ex;exact⟨g,fd,F.k0 a,b.kp,F.bd,(L i d g fd e F).1⟩
 me:=λi d e a=>by
  obtain⟨g,fd,F⟩:=H.fns i d e;exact⟨(F.k1 a).1,⟨g,fd,(F.k1 a).2,F.bd,(L i d g fd e F).1⟩⟩
 nE:=λi d e a=>by
  obtain⟨g,fd,F⟩:=H.fns i d e;exact⟨n,aU _,⟨g,fd,F.k2 a,F.bd,(L i d g fd e F).2⟩⟩
 iK:=λq h=>by
  obtain⟨q0,c,rfl⟩:=aP.mp h;obtain⟨d,e,a,f⟩:=H.cv q0 c;obtain⟨g,fd,F⟩:=H.fns q0.2 d e;have:=(F.k0 a).symm.trans f;cases this;obtain⟨q,st,_,b,_⟩:=F.ex;exact⟨fd,d.ps,b.kp,F.bd,(L q0.2 d _ fd e F).1⟩
theorem Ab(H:Hd P w K mg p)(kb:K.In base):∀(n:Nat) (i:Nat) d g fd,p.S.fd[i]? =some d->jY K mg p.S p.C p.lP d g fd->eW P w K mg base fN (n+1) g fd d.ps (gd K (aA p n i))/\eW P w K mg base fN n g fd d.ps (gd K ((qB p n).2 i))
 |0,i,d,g,fd,e,F=>⟨Ib,Ib⟩
 |n+1,i,d,g,fd,e,F=>by
  refine⟨?_,(Ab H kb n i d g fd e F).1⟩;rw[HL e];obtain⟨qual,st,L1,F1,S1,N1,m1⟩:=F.ex;refine Y5 F1 S1 (λrs M Q h=>h.1) (λcdv hcd A outer s H0 E hr=>?_) λrs M Q h=>h.2
  have O:gn (p.Gn n) (n+1) true d.N (gu st) (oj fN P w K mg base d.N qual (gu st) g cdv A outer s H0 E).rg:=by
   refine⟨rfl,λx hx=>⟨?_,?_⟩,λx h=>h,rfl,hr,λ_=>⟨rfl,N1.nd,N1.loc,λ_=>rfl,PassesOwn.never,?_,λx=>rfl⟩,λ_ hN=>?_⟩
   . exact(N1.loc x hx).elim .inl λz=>.inr (.inl z)
   . have:=N1.jw x hx
     unfold jw;rw[this.1,this.2];rfl
   . show(if(gu st).kind.isAnnotationScope then ScopeKind.function else(gu st).kind)=_
     rw[S1.kind];rfl
   . obtain⟨l1,cc,l2,l3⟩:=L1 hN
     obtain⟨l4,l5⟩:=H.lm i d e hN;exact⟨l1,⟨cc,hcd.symm.trans l2,l3 _ kb⟩,l5 _ kb,l4⟩
  exact sound d.body O (XX H (Ab H kb n)) m1
end
end R
namespace HD
open PySem PySem.W PyProof.Rows
def X4(p:Program)(i:Nat):Stmt:=p.main.body.getD i (.Pass ⟨0,0,0,0⟩)
def sub(s:Stmt)(i:Nat):Stmt:=match s with
 | .ClassDef (body:=b) ..=>b.getD i (.Pass ⟨0,0,0,0⟩)
 |s=>s
def EE(s:Stmt):Arguments:=match s with
 | .FunctionDef (args:=a) ..=>a
 |_=>default
def sH(s:Stmt):List Stmt:=match s with
 | .FunctionDef (body:=b) ..=>b
 |_=>[]
def ED(s:Stmt):Scope:=match s with
 | .FunctionDef (scope:=c) ..=>c
 |_=>default
noncomputable abbrev e1 (P:Params) (x:String) (t:Tok) (v:Value):DictEntry:=⟨PyData.keyHash P x,.str x t,v⟩
noncomputable abbrev fv (es:List DictEntry) (n:Nat):Obj:=⟨.type "dict",none,.dict es.toArray n,#[]⟩
noncomputable abbrev cW (vs:az):Obj:=⟨.none,none,.fields vs.toArray,#[]⟩
noncomputable abbrev Cy (vs:az):Obj:=⟨.type "code",none,.fields vs.toArray,#[]⟩
noncomputable abbrev tup (xs:az):Obj:=⟨.type "tuple",none,.seq xs.toArray 0,#[]⟩
noncomputable abbrev iu (n q:String) (s:Stmt) (a cd:Value):Obj:=⟨.type "function",none,.func { name:=n,qualname:=q,params:=EE s,body:=.stmts (sH s),scope:=ED s,globals:=3,closure:=[],defaults:=.none,kwdefaults:=.none,doc:=.none,pyModule:=a,annotations:=none,code:=cd,closureTuple:=.none,builtins:=0 },#[]⟩
noncomputable abbrev i5 (n q:String) (s:Stmt):Obj:=⟨.none,none,.func { name:=n,qualname:=q,params:=EE s,body:=.stmts (sH s),scope:=ED s,globals:=0,closure:=[],defaults:=.none,kwdefaults:=.none,doc:=.none,pyModule:=.none,annotations:=none,code:=.none,closureTuple:=.none,builtins:=0 },#[]⟩
structure DF where
 n:String
 q:String
 s:Stmt
 a:Nat
 t:Nat
 l:Nat
 c:Nat
 xs:List String
 pm:Value
noncomputable def df (n q:String)(s:Stmt)(a t l c:Nat)(xs:List String)(b:Value):DF:=⟨n,q,s,a,t,l,c,xs,b⟩
def Jw:Nat->List String->az
 |_,[]=>[]
 |t,x::xs=>.str x t::Jw (t+1) xs
noncomputable def DF.co (d:DF):Obj:=Cy [.str d.n d.t,.str d.q (d.t+1),.str "/claim/cut.py" (d.t+2),.int d.l 0,.int d.c 0,.int 0 0,.int 0 0,.int 3 0,.ref d.a,.bool true,.int 181 0,.ref (d.a+1),.none,.ref (d.a+2),.ref (d.a+3),.ref (d.a+4),.int (d.t+3+d.xs.length:Nat) 0,.int d.l 0,.str "/claim/cut.py" (d.t+4+d.xs.length)]
def DF.fn(d:DF):Obj:=iu d.n d.q d.s d.pm (.ref (d.a+5))
def DF.objs(d:DF):List Obj:=[tup [],cW [],tup (Jw (d.t+3) d.xs),tup [],i5 d.n d.q d.s,d.co,d.fn]
def treeOf(l:List Obj):BT:=(l.foldl (λ(x:BT×Nat) o=>(x.1.ins x.2 o,x.2+1)) (.nil,0)).1
theorem JX{tb:String->Option Builtin}{p:Program}{an:cJ}{b:Nat}:∀{n m:Nat} {s s':SharedT} {t t':Thread} {r:Option (SharedT×Thread)},
 segGoT tb p w n₀ an b n s t=some (s',t')->segGoT tb p w n₀ an b m s' t'=r->segGoT tb p w n₀ an b (n+m) s t=r
 |0,m,s,s',t,t',r,h,k=>by
  simp only[segGoT,kj,Prod.mk.injEq]at h;obtain⟨rfl,rfl⟩:=h;rw[Nat.zero_add];exact k
 |n+1,m,s,s',t,t',r,h,k=>by
  have e:n+1+m=(n+m)+1:=by omega
  rw[e];simp only[segGoT]at h ⊢;split at h
  . cases h
  . rename_i a
    split at h
    . cases h
    . rename_i c
      split at h
      . rename_i d f hs
        exact JX h k
      . cases h
theorem Ip{tb:String->Option Builtin}{p:Program}{an:cJ}{b:Nat}:∀{n m:Nat} {s s':SharedT} {t t':Thread} {r:Flow×SharedT×Code×Pos},
 segGoT tb p w n₀ an b n s t=some (s',t')->segRunT tb p w n₀ an b m s' t'=some r->segRunT tb p w n₀ an b (n+m) s t=some r
 |0,m,s,s',t,t',r,h,k=>by
  simp only[segGoT,kj,Prod.mk.injEq]at h;obtain⟨rfl,rfl⟩:=h;rw[Nat.zero_add];exact k
 |n+1,m,s,s',t,t',r,h,k=>by
  have e:n+1+m=(n+m)+1:=by omega
  rw[e];simp only[segGoT]at h;simp only[segRunT];split at h
  . cases h
  . rename_i a
    split at h
    . cases h
    . rename_i c
      split at h
      . rename_i d f hs
        exact Ip h k
      . cases h
theorem HM{tb:String->Option Builtin}{p:Program}{an:cJ}{b:Nat}(k:Nat):∀{n:Nat} {s:SharedT} {t:Thread} {r:Flow×SharedT×Code×Pos},
 segRunT tb p w n₀ an b n s t=some r->segRunT tb p w n₀ an b (n+k) s t=some r
 |0,s,t,r,h=>by cases h
 |n+1,s,t,r,h=>by
  have e:n+1+k=(n+k)+1:=by omega
  rw[e];simp only[segRunT]at h ⊢;split at h
  . exact h
  . rename_i a
    split at h
    . cases h
    . rename_i c
      split at h
      . exact HM k h
      . cases h
def Rn(p:Program)(w:World)(b:Nat)(an:cJ)(c:Code)(F:List Frame)(m:Nat)(x:Sem α)(ps:Pos)(s:SharedT)(a:α)(d:Pos)(e:SharedT):Prop:=
 ∀(K:α->Sem Fin) (H:Value->Sem Fin) (lv:az->az),∃n,n<=m/\segGoT treeTable p w b an 1 n s ⟨x.wrap K H id lv,c,ps,F⟩=some (e,⟨K a,c,d,F⟩)
section
variable {α β:Type}{p:Program}{w:World}{n₀:Nat}{an:cJ}{c:Code}{F:List Frame}{m m1 m2:Nat}{ps ps1 ps2 ps':Pos}{s s1 s2 s':SharedT}
theorem Rn.more{x:Sem α}{a:α}(h:Rn p w n₀ an c F m1 x ps s a ps' s')(e:m1<=m):Rn p w n₀ an c F m x ps s a ps' s':=λK H lv=>by
 obtain⟨n,b,h⟩:=h K H lv;exact⟨n,cq b e,h⟩
theorem gG{a:α}:Rn p w n₀ an c F m (pure a) ps s a ps s:=λK H lv=>⟨0,qT _,rfl⟩
theorem cR{x:Sem α}{a:α}{b:β}(e:Rn p w n₀ an c F m1 x ps s a ps1 s1)(g:Rn p w n₀ an c F m2 (f a) ps1 s1 b ps2 s2):Rn p w n₀ an c F (m1+m2) (x >>= f) ps s b ps2 s2:=λK H lv=>by
 obtain⟨h,l1,e1⟩:=e (λa=>(f a).wrap K H id lv) H lv
 obtain⟨i,l2,d⟩:=g K H lv;refine⟨h+i,Nat.add_le_add l1 l2,?_⟩;rw[Sem.bind_eq_wrap',Sem.wrap_wrap];exact JX e1 d
theorem UG{x:Sem α}{a:α}{vs:az}(h:Rn p w n₀ an c F m x ps s a ps' s'):Rn p w n₀ an c F m (x.keep vs) ps s a ps' s':=λK H lv=>by
 obtain⟨n,l,e⟩:=h K H (λr=>lv (vs++r))
 refine⟨n,l,?_⟩;rw[Sem.keep_eq_wrap,Sem.wrap_wrap];exact e
theorem ur{x:Sem α}{a:α}{vs:az}(h:Rn p w n₀ an c F m x ps s a ps' s'):Rn p w n₀ an c F m (holding vs x) ps s a ps' s':=by
 unfold holding;split
 . exact h
 . exact UG h
theorem jJ{x:Sem α}{a:α}{n:Nat}(h:∀(K:α->Sem Fin) (H:Value->Sem Fin) (lv:az->az),segGoT treeTable p w n₀ an 1 n s ⟨x.wrap K H id lv,c,ps,F⟩=some (s',⟨K a,c,ps',F⟩)):Rn p w n₀ an c F n x ps s a ps' s':=
 λK H lv=>⟨n,aU _,h K H lv⟩
theorem mapOf{f g:α->β}:∀{l:List α},l.map f=l.map g->∀i∈l,f i=g i:=λh=>List.map_inj_left.mp h
theorem Wj{b:Type}{l:List b}{g:b->Nat}{x:b->Sem α}{a:α}(h:∀(K:α->Sem Fin) (H:Value->Sem Fin) (lv:az->az),l.map (λi=>segGoT treeTable p w n₀ an 1 (g i) s ⟨(x i).wrap K H id lv,c,ps,F⟩)=l.map λ_=>some (s',⟨K a,c,ps',F⟩)):∀i∈l,Rn p w n₀ an c F (g i) (x i) ps s a ps' s':=
 λi hi=>jJ λK H lv=>mapOf (h K H lv) i hi
theorem A1{b:β}:∀{xs:List α},(∀x∈xs,Rn p w n₀ an c F m (f x b) ps s (.yield b) ps s)->Rn p w n₀ an c F (m*xs.length) (forIn xs b f) ps s b ps s
 | [],_=>by rw[List.forIn_nil];exact gG
 |x::xs,h=>by
  rw[sT];have a:=h x (iH ..);have d:=A1 (xs:=xs) λy g=>h y (gJ _ g)
  have e:m*(x::xs).length=m+m*xs.length:=by rw[cY,Nat.mul_succ,Nat.add_comm]
  rw[e];exact cR a d
end
section
variable {p:Program}{w:World}{n₀:Nat}{an:cJ}{c:Code}{F:List Frame}{ps:Pos}{s:SharedT}{m L:Nat}
theorem RW{a:Addr}{st:az}(b:st.length<=L)(d:Rn p w n₀ an c F m (eqIsQuiet 8 (.ref a)) ps s true ps s)
 (hs:∀v∈st,Rn p w n₀ an c F m (eqIsQuiet 8 v) ps s true ps s):Rn p w n₀ an c F (m+m*L) (tableMayTell (.ref a) st) ps s false ps s:=by
 unfold tableMayTell;split
 . exact gG
 . refine Rn.more (cR d (m2:=m*st.length) ?_) (Nat.add_le_add_left (Nat.mul_le_mul_left _ b) _)
   rw[ae (by decide)]
   refine Rn.more (cR (m2:=0) (A1 (m:=m) λv e=>?_) ?_) (aU _)
   . refine Rn.more (cR (m2:=0) (hs v e) ?_) (aU _)
     rw[ae (by decide)]
     exact gG
   . exact gG
theorem find_none{d a:Addr}{es:Array DictEntry}(hL:es.size<=L)(rn_rule:∀t,Rn p w n₀ an c F 1 (rule t) ps s () ps s)
 (hd:Rn p w n₀ an c F 1 (dictEntries d none) ps s es ps s) (he:Rn p w n₀ an c F 1 (dictEpoch d none) ps s ep ps s)
 (hq:Rn p w n₀ an c F m (eqIsQuiet 8 (.ref a)) ps s true ps s)
 (hk:∀e∈es.toList,(∃b:Addr,e.key= .ref b/\b≠a)/\Rn p w n₀ an c F m (eqIsQuiet 8 e.key) ps s true ps s/\Rn p w n₀ an c F m (eqBool e.key (.ref a)) ps s false ps s):
 Rn p w n₀ an c F (1+((m+m*L)+(m+3)*L)) (dictFind d (.ref a) h) ps s none ps s:=by
 unfold dictFind;refine ur ?_;dsimp only[keyPart];refine cR hd ?_;have hp:∀i∈placesWithHash es.size (λi=>Option.map (λx=>x.hash) es[i]?) h,i<es.size:=λi hi=>by
  unfold placesWithHash at hi;exact ng.mp (bB.mp hi).1
 have hpl:(placesWithHash es.size (λi=>Option.map (λx=>x.hash) es[i]?) h).length<=L:=by
  unfold placesWithHash;refine cq (fX _ _) ?_;rw[zG];exact hL
 generalize placesWithHash es.size (λi=>Option.map (λx=>x.hash) es[i]?) h=places at hp hpl ⊢
 have hst:∀v∈List.filterMap (λi=>Option.map (λx=>x.key) es[i]?) places,∃e∈es.toList,v=e.key:=λv hv=>by
  obtain⟨i,hi,e⟩:=wo.mp hv;obtain⟨x,hx,rfl⟩:=oE.mp e;exact⟨x,Array.mem_toList_iff.mpr (Array.mem_of_getElem? hx),rfl⟩
 have hsl:(List.filterMap (λi=>Option.map (λx=>x.key) es[i]?) places).length<=L:=cq (List.length_filterMap_le _ _) hpl
 generalize List.filterMap (λi=>Option.map (λx=>x.key) es[i]?) places=stored at hst hsl ⊢
 have hno:∀e∈es.toList,(e.key==Value.ref a)=false:=λe h1=>by
  obtain⟨⟨b,h2,h3⟩,_⟩:=hk e h1;rw[h2];exact oO.mpr λq=>h3 (Value.ref.inj q)
 rw[ae (by simp[carriedByValue])]
 rw[ae (by
  rw[<-Array.any_toList,Bool.not_eq_true,List.any_eq_false];intro e h1;rw[hno e h1];simp)]
 rw[ae (by
  intro q;have q:=gA q;obtain⟨e,h1,h2⟩:=hst (.ref a) (by rw[q];exact iH ..)
  have:=hno e h1;rw[<-h2]at this;simp at this)]
 refine cR (RW hsl hq λv hv=>?_) ?_
 . obtain⟨e,h1,rfl⟩:=hst v hv
   exact(hk e h1).2.1
 rw[ae (by simp)]
 refine Rn.more (cR (m2:=0) (A1 (m:=m+3) λi hi=>?_) ?_) (Nat.mul_le_mul_left _ hpl)
 . have hi':=hp i hi
   have hg:es[i]? =some es[i]:=Array.getElem?_eq_getElem hi';rw[hg];dsimp only;split
   . obtain⟨_,_,hb⟩:=hk es[i] (Array.mem_toList_iff.mpr (Array.getElem_mem hi'))
     refine Rn.more (cR he (cR (m2:=2) hb (cR (m2:=1) he ?_))) (by omega)
     rw[ae (by simp),ae (by decide)]
     refine Rn.more (cR (m2:=0) (rn_rule _) ?_) (aU _);rw[ae (by simp)]
     exact gG
   . exact gG
 . exact gG
end
section
variable {α β:Type}{p:Program}{w:World}{n₀:Nat}{an:cJ}{c:Code}{F:List Frame}{ps ps1 ps2:Pos}{s s1 s2:SharedT}{m m1 m2 m3 mf mu:Nat}
theorem Tr{i:Int}(a:∀t,Rn p w n₀ an c F 1 (rule t) ps s () ps s):Rn p w n₀ an c F 1 (pyHashByItsType.reduced i) ps s (reduceHash i) ps s:=by
 unfold pyHashByItsType.reduced reduceHash;split
 . exact gG
 . exact Rn.more (cR (m2:=0) (a _) gG) (aU _)
theorem Tq{a:Addr}{i:Int}{t:Tok}(f:∀x,Rn p w n₀ an c F 1 (rule x) ps s1 () ps s1)(d:Rn p w n₀ an c F m1 (cRoomFor "hash" [.ref a]) ps s () ps s)
 (b:Rn p w n₀ an c F m2 (specialOf (.ref a) "__hash__") ps s (some (.builtin "tuple.__hash__")) ps s)
 (e:∀E,Rn p w n₀ an c F m3 (callSpecialIfBoundUnlessNone? (.ref a) "__hash__" E) ps s (some (.int i t)) ps s1):Rn p w n₀ an c F (m1+(m2+(m2+(m3+1)))) (pyHash (.ref a)) ps s (reduceHash i) ps s1:=by
 unfold pyHash;dsimp only;unfold pyHashByItsType;refine cR d (cR b ?_);rw[ae (by decide)]
 refine cR b ?_;rw[ae (by decide)]
 refine cR (e _) ?_;exact Tr f
theorem Uv{d a:Addr}{v:Value}(f:∀x,Rn p w n₀ an c F 1 (rule x) ps s1 () ps s1)(e:Rn p w n₀ an c F m1 (pyHash (.ref a)) ps s h ps s1)(b:Rn p w n₀ an c F mf (dictFind d (.ref a) h) ps s1 none ps s1)
 (g:Rn p w n₀ an c F mu (updateDictKeys d (λx=>x.push ⟨h,.ref a,v⟩) none) ps s1 () ps s2):Rn p w n₀ an c F (m1+(mf+(1+mu))) (dictSet d (.ref a) v) ps s () ps s2:=by
 unfold dictSet;refine ur (cR e ?_);unfold dictSetHashed;refine ur (cR b ?_);exact cR (f _) g
theorem UD{x:α}{b:β}(a:Rn p w n₀ an c F m1 (f x b) ps s (.yield b) ps1 s1)(d:Rn p w n₀ an c F m2 (forIn xs b f) ps1 s1 b ps2 s2):Rn p w n₀ an c F (m1+m2) (forIn (x::xs) b f) ps s b ps2 s2:=by
 rw[sT];exact cR a d
theorem UE{b:β}:Rn p w n₀ an c F 0 (forIn [] b f) ps s b ps s:=by
 rw[List.forIn_nil];exact gG
theorem Y2{x y:Sem α}{a:α}(e:x=y)(h:Rn p w n₀ an c F m y ps s a ps1 s1):Rn p w n₀ an c F m x ps s a ps1 s1:=e ▸ h
end
section
theorem Vd{q:Program}{loose i:aE}{Xt:Shared->Bool}{h:Heap}{d:Drawn}{k:Nat}{os:OsState}
 (a:PyProof.Rows.seen (List.map (λx=>x.name) (recsOf q)) (ownsOf q) [] ⟨h,#[],d,k,os⟩=expectedOf q) (b:h.bltView=bltViewBooted)
 (c:h.keysOk (looseW q loose) (List.map (λx=>x.name) (recsOf q)) (List.map (λx=>x.fst) (litsOf q)) (List.map (λx=>x.name) (clssOf q (looseW q loose)))=true)
 (l:h.accountedOkI i=true) (j:(h.isNs mainGlobals&&h.isNs builtinsNs)=true) (m:tablesOk q h=true) (n:Xt ⟨h,#[],d,k,os⟩=true)
 (e:tabsOk q ⟨h,#[],d,k,os⟩=true) (f:pinSeenD q (drecsOf q) ⟨h,#[],d,k,os⟩=pinGoodD (drecsOf q)) (g:plainSeenE q (looseW q loose) ⟨h,#[],d,k,os⟩=plainGoodE q (looseW q loose)) (o:plainSeenD q loose ⟨h,#[],d,k,os⟩=plainGoodD q loose)
 (r:wideSeen q ⟨h,#[],d,k,os⟩=wideGood q) (s:clsSeenW q loose ⟨h,#[],d,k,os⟩=clsGoodW q loose):openSeen q loose i Xt true ⟨h,#[],d,k,os⟩=openGood q loose:=by
 rw[bg]at j;unfold openSeen openGood;dsimp only;rw[a,b,c,l,j.1,j.2,m,n,e,f,g,o,r,s];rfl
end
end HD
namespace R
open PySem PySem.Spec PyProof.Rows L2
def By:Stmt->Bool
 | .FunctionDef ..=>true
 |_=>false
structure FA where
 n:String
 q:String
 s:Stmt
 g:Addr
 c:Addr
 pm:Value
def FA.fn(D:FA):Obj:=HD.iu D.n D.q D.s D.pm (.ref D.c)
def fdOf(D:FA):FuncData:=PySem.W.fnOf D.n D.q (Jm D.s) (qg D.s) (gu D.s) .none .none .none D.pm none (.ref D.c) .none
theorem Ze{D:FA}(h:By D.s=true):D.fn=⟨.type "function",none,.func (fdOf D),#[]⟩:=by
 unfold FA.fn fdOf;cases e:D.s<;>rw[e]at h<;>first|rfl|cases h
theorem Xz{K:ag}{D:FA}(h:By D.s=true)(l:K.lookup D.g=some D.fn)(c:PySem.W.codeIn K (.ref D.c) D.q=true)(k:PySem.W.keepIn K (.ref D.g)=true):sV K D.n D.q D.s D.g (fdOf D):=
 ⟨⟨_,_,_,_,_,_,_,_,_,rfl,by rw[l,Ze h],c⟩,k⟩
def BY(o:Option NameKind):Bool:=match o with
 |some .local=>true
 |some .cell=>true
 |_=>false
theorem Vn(h:BY o=true):o=some .local∨o=some .cell:=by
 unfold BY at h;split at h
 . exact .inl rfl
 . exact .inr rfl
 . cases h
def Zc:NameKind->Bool
 | .free=>false
 |_=>true
noncomputable def Bb (N ps:aE)(sc:Scope):Bool:=(match sc.kind with| .function=>true|_=>false)&& !sc.isCoroutine&& !sc.isGenerator&&decide N.Nodup&&decide (N.take ps.length=ps)&&sc.names.all (λy=>Zc y.2)&&N.all (λx=>BY (sc.names.lookup x)&& !(x==("__debug__":Str))&& !(x==("__classdict__":Str)))
theorem Sj{sc:Scope}(h:Bb N ps sc=true):rO N ps sc/\J6 N sc:=by
 unfold Bb at h;simp only[bg,jT,gY,gM]at h;obtain⟨⟨⟨⟨⟨⟨d,e⟩,f⟩,b⟩,c⟩,g⟩,a⟩:=h;have l:∀x∈N,sc.names.lookup x=some .local∨sc.names.lookup x=some .cell:=λx hx=>Vn (a x hx).1.1
 refine⟨⟨?_,e,f,b,c,λx hx=>l x ?_,λy i=>?_⟩,⟨b,l,λx hx=>⟨(a x hx).1.2,(a x hx).2⟩⟩⟩
 . revert d;cases sc.kind<;>simp
 . rw[<-c]at hx;exact List.mem_of_mem_take hx
 . have:=g y i
   intro z;rw[z]at this;cases this
def sG:Option (cJ)->Bool
 |some none=>true
 |_=>false
theorem IJ(h:sG o=true):o=some none:=by
 unfold sG at h;split at h
 . rfl
 . cases h
def zl(i:Int):Option (cJ)->Bool
 |some (some (.int j _))=>j==i
 |_=>false
theorem U3{i:Int}(h:zl i o=true):∃t,o=some (some (.int i t)):=by
 unfold zl at h;split at h
 . rename_i j t;exact⟨t,by rw[gA h]⟩
 . cases h
def nY(a:Addr):Option (cJ)->Bool
 |some (some (.ref b))=>b==a
 |_=>false
theorem uR{a:Addr}(h:nY a o=true):o=some (some (.ref a)):=by
 unfold nY at h;split at h
 . rw[gA h]
 . cases h
def BZ:Option (cJ)->Bool
 |some (some (.builtin "object.__setattr__"))=>true
 |_=>false
theorem U4(h:BZ o=true):o=some (some (.builtin "object.__setattr__")):=by
 unfold BZ at h;split at h
 . rfl
 . cases h
noncomputable def yG:aE->az->Bool
 | [],[]=>true
 |x::xs,.str y _::ys=>(x==y)&&yG xs ys
 |_,_=>false
theorem IA:∀{a:aE} {vs:az},yG a vs=true->Vals (a.map V.str) vs
 | [],[],_=>.nil
 |x::xs,.str y t::ys,h=>by
  unfold yG at h;rw[bg]at h;cases gA h.1;exact .cons ⟨t,rfl⟩ (IA h.2)
noncomputable def yY (K:ag)(b:aE):Option (cJ)->Bool
 |some (some (.ref a))=>match K.lookup a with
  |some ⟨.type "tuple",_,.seq ab _,_⟩=>decide (ab.size<=100)&&yG b ab.toList
  |_=>false
 |_=>false
theorem Vr{K:ag}{x:Str}(X:K.In h)(G:h.Ns mainGlobals mg)(e:yY K ss (PySem.W.nsIn K mainGlobals x)=true):sJ K mg x ss:=by
 unfold yY at e;split at e
 . rename_i a b
   split at e
   . rename_i ab n d sl c
     rw[bg,gY]at e;exact UP (oH X G b) c (cq e.1 (by decide)) (IA e.2)
   . cases e
 . cases e
noncomputable def qI (K:ag)(C:Addr):Bool:=wt K C Str.empty&&zF K C&&PySem.W.plainOver K C&&BZ (PySem.W.findIn K (.ref C) "__setattr__")
theorem Bm{K:ag}(h:qI K C=true):cZ K C:=by
 unfold qI at h;simp only[bg]at h;exact⟨h.1.1.1,h.1.1.2,h.1.2,U4 h.2⟩
noncomputable def yo (K:ag)(c P:Addr):Bool:=match K.lookup c with
 |some ⟨.type "code",_,.fields (vs:Array Value),_⟩=>(match(vs[11]?:cJ)with|some (.ref b)=>b==P|_=>false)&&(match vs.getD 18 .none with| .str _ _=>true|_=>false)&&(match vs.getD 7 .none with| .int _ _=>true|_=>false)&&(match vs.getD 9 .none with| .bool _=>true|_=>false)&&(match vs.getD 10 .none with| .int _ _=>true|_=>false)&& !(c==P)
 |_=>false
theorem Hr{K:ag}{c P:Addr}(e:yo K c P=true)(X:K.In h):PySem.W.CodeHd h c P:=by
 unfold yo at e;split at e
 . rename_i d vs sl t
   simp only[bg]at e;obtain⟨⟨⟨⟨⟨e1,f⟩,g⟩,i⟩,j⟩,r⟩:=e;have y:c≠P:=by simpa using r
   split at e1
   . rename_i b k
     have a:b=P:=gA e1;subst a;have s:vs.getD 11 .none= .ref b:=by simp only[Array.getD_eq_getD_getElem?];rw[k];rfl
     split at f
     . rename_i l z u
       split at g
       . rename_i m A v
         split at i
         . rename_i n w
           split at j
           . rename_i o C x
             exact⟨_,vs,l,z,m,A,n,o,C,X _ _ t,rfl,rfl,k,s,u,v,w,x,y⟩
           . cases j
         . cases i
       . cases g
     . cases f
   . cases e1
 . cases e
noncomputable def zR (K:ag)(a:Addr):Bool:=match PySem.W.nsIn K mainGlobals "__builtins__" with
 |some (some (.ref bm))=>!(bm==builtinsNs)&& !(bm==mainGlobals)&& !(bm==a)&&(match K.lookup bm with
  |some ⟨.type "module",some n,.plain,_⟩=>n==builtinsNs
  |_=>false)
 |_=>false
theorem Y9{K:ag}(b:K.In h0)(G:h0.Ns mainGlobals mg)(e:zR K lP=true)(X:K.In h):h.BuiltinsAt mg lP:=by
 unfold zR at e;split at e
 . rename_i c g
   simp only[bg]at e;obtain⟨⟨⟨e1,d⟩,f⟩,a⟩:=e;split at a
   . rename_i n sl i
     cases gA a;exact⟨c,_,oH b G g,by simpa using e1,by simpa using d,by simpa using f,X _ _ i,rfl,rfl,rfl⟩
   . cases a
 . cases e
noncomputable def Ex (K:ag)(S:SI)(a:Addr)(d:FD)(D:FA):Bool:=!(decide (d.N=S.ln))||(decide ((D.q:Str)++(".<locals>.":Str)++("<lambda>":Str)=S.lq)&&yo K D.c a)
noncomputable def sH (K:ag)(S:SI)(C:Nat->Addr)(a:Addr)(d:FD)(D:FA):Bool:=Ex K S a d D&&By D.s&&PySem.W.codeIn K (.ref D.c) D.q&&PySem.W.keepIn K (.ref D.g)&&Bb d.N d.ps (gu D.s)&&decide (d.name=(D.n:Str))&&
 (match d.kind with
  |0=>nY D.g (PySem.W.nsIn K mainGlobals d.name)
  |1=>qI K (C d.cls)&&nY D.g (PySem.W.findIn K (.ref (C d.cls)) d.name)&&PySem.W.isFn K (.ref D.g)
  |2=>PySem.W.makesIn K (C d.cls)&&nY D.g (PySem.W.findIn K (.ref (C d.cls)) "__init__")&&PySem.W.isFn K (.ref D.g)&&PySem.W.keepIn K (.ref (C d.cls))
  |_=>false)
theorem Xv{K:ag}{S:SI}(X:K.In h)(G:h.Ns mainGlobals mg)(b:sH K S C lP d D=true)(l:K.lookup D.g=some D.fn)(m:mt S true d.N (gu D.s) d.body (.b (qg D.s))=true)
 (c:∀us:az,us.length=d.ps.length->bindArgs (fdOf D) ⟨us,[]⟩=pure (d.ps.zip us)):jY K mg S C lP d D.g (fdOf D):=by
 unfold sH at b;simp only[bg,gY]at b;obtain⟨⟨⟨⟨⟨⟨b0,b1⟩,b2⟩,b3⟩,b4⟩,b5⟩,b6⟩:=b;obtain⟨e,f⟩:=Sj b4;have lm:d.N=S.ln->(D.q:Str)++(".<locals>.":Str)++("<lambda>":Str)=S.lq/\∃a,(fdOf D).code= .ref a/\∀h:Heap,K.In h->PySem.W.CodeHd h a lP:=λz=>by
  unfold Ex at b0;rw[z]at b0;simp only[decide_true,Bool.not_true,Bool.false_or,bg,gY]at b0;exact⟨b0.1,D.c,rfl,λh X=>Hr b0.2 X⟩
 refine⟨⟨D.q,D.s,lm,b5 ▸ Xz b1 l b2 b3,e,f,m⟩,.all c,λk=>?_,λk=>?_,λk=>?_⟩
 . rw[k]at b6;exact oH X G (uR b6)
 . rw[k]at b6
   simp only[bg]at b6;exact⟨Bm b6.1.1,⟨uR b6.1.2,b6.2,b3⟩⟩
 . rw[k]at b6
   simp only[bg]at b6;exact⟨b6.1.1.1,uR b6.1.1.2,b6.1.2,b6.2⟩
theorem rY{l:List α}(h:l.all f=true){x:α}(hx:x∈l):f x=true:=gM.mp h x hx
theorem Bl{f g:α->β}:∀{l:List α},l.map f=l.map g->∀{x:α},x∈l->f x=g x
 |y::l,h,x,hx=>by
  rw[bF,bF]at h;injection h with a b
  rcases eY.mp hx with rfl|hx
  . exact a
  . exact Bl b hx
theorem lookup_mem{x:Str}:∀{l:List (Str×β)},l.lookup x=some y->(x,y)∈l
 |(k,z)::l,h=>by
  unfold List.lookup at h;split at h
  . rename_i e
    cases h;rw[gA e];exact .head _
  . exact .tail _ (lookup_mem h)
def xh(l:List (Str×Addr)):bP:=l.map λp=>(.inr p.1,.ref p.2)
def Cm(l:List (Str×Addr)):List (Key×V):=l.map λp=>(.inr p.1,.ref p.2)
theorem Ez:∀l:List (Str×Addr),KV (Cm l) ((l.map λp=>(p.1,Value.ref p.2)).map λp=>((Sum.inr p.1:Key),p.2))
 | []=>.nil
 |(x,a)::r=>.cons ⟨rfl,rfl⟩ (Ez r)
theorem Jy{K:ag}:∀l:List (Str×Addr),aH K H (xh l) (Cm l)
 | []=>rfl
 |p::r=>⟨V.ref p.2,Cm r,rfl,by simp only[Rep],Jy r⟩
theorem To{P:Program}{K:ag}{x:Str}{a:Addr}{l:List (Str×Addr)}
 (c:mg x=some (.ref a)) (lk:K.lookup a=some ⟨.type "dict",none,.dict es ep,#[]⟩) (b:(a==sysModules)=false) (e:vG w es.toList (l.map λp=>(p.1,Value.ref p.2))) (d:(l.map Prod.fst).Nodup):KTab P w K mg x (xh l):=
 IE c lk b e (by rw[bG];exact d) ⟨rfl,rfl,rfl⟩ (Ez l) λH=>Jy l
theorem ZK{P:Program}{K:ag}{p:jb}(X:K.In h)(G:h.Ns mainGlobals mg)
 (bl:(p.S.bl.all λx=>sG (PySem.W.nsIn K mainGlobals x))=true) (gi:(p.S.gi.all λx=>zl x.2 (PySem.W.nsIn K mainGlobals x.1))=true) (gt:(p.S.gt.all λx=>yY K x.2 (PySem.W.nsIn K mainGlobals x.1))=true)
 (cl:(p.S.cl.zipIdx.all λx=>qI K (p.C x.2)&&nY (p.C x.2) (PySem.W.nsIn K mainGlobals x.1))=true) (fs:(p.S.fs.all λx=>qI K (p.C x.1)&&sG (PySem.W.findIn K (.ref (p.C x.1)) x.2))=true)
 (tb:∀x∈p.S.tb,KTab P w K mg x (p.tb x)) (tt:∀x l,p.S.tt.lookup x=some l->BI P w K mg x l) (j:∀d∈p.S.fd,∃g fd,jY K mg p.S p.C p.lP d g fd) (lm:∀(i:Nat) d,p.S.fd[i]? =some d->d.N=p.S.ln->mainGlobals≠p.lP/\∀h:Heap,K.In h->h.BuiltinsAt mg p.lP)
 (cv:∀q∈p.cv,∃d,p.S.fd[q.2]? =some d/\d.kind=0/\nY q.1 (PySem.W.nsIn K mainGlobals d.name)=true):Hd P w K mg p where
 bl:=λx hx=>PySem.W.mg_none_of X G (IJ (rY bl hx))
 gi:=λx i hx=>by
  obtain⟨t,e⟩:=U3 (rY gi (lookup_mem hx));exact⟨t,oH X G e⟩
 gt:=λx l hx=>Vr X G (rY gt (lookup_mem hx))
 tb:=tb
 tt:=tt
 cl:=λi c hi=>by
  have:=rY cl (x:=(c,i)) (List.mk_mem_zipIdx_iff_getElem?.mpr hi);rw[bg]at this;exact⟨Bm this.1,oH X G (uR this.2)⟩
 fs:=λc f hx=>by
  have:=rY fs hx;rw[bg]at this;exact⟨Bm this.1,IJ this.2⟩
 fns:=λi d hi=>j d (kf hi)
 lm:=lm
 cv:=λq k=>by
  obtain⟨d,a,b,c⟩:=cv q k;exact⟨d,a,b,oH X G (uR c)⟩
noncomputable def iX (K:ag)(S:SI)(C:Nat->Addr)(a:Addr)(n:Nat)(l:List (FD×FA)):Bool:=l.all λx=>sH K S C a x.1 x.2&&decide (x.1.ps.length=n)&&mt S true x.1.N (gu x.2.s) x.1.body (.b (qg x.2.s))
def D9:Nat->(az->Prop)->Prop
 |0,p=>p []
 |n+1,p=>∀v,D9 n λl=>p (v::l)
theorem iU:∀{n:Nat} {p:az->Prop},D9 n p->∀us,us.length=n->p us
 |0,_,h,[],_=>h
 |_+1,_,h,v::us,e=>iU (h v) us (Nat.succ.inj e)
abbrev uT(l:List (FD×FA))(n:Nat):Prop:=∀us:az,us.length=n->l.map (λx=>bindArgs (fdOf x.2) ⟨us,[]⟩)=l.map λx=>pure (x.1.ps.zip us)
abbrev iP(K:ag)(l:List (FD×FA)):Prop:=l.map (λx=>K.lookup x.2.g)=l.map λx=>some x.2.fn
def fD(d:HD.DF):FA:=⟨d.n,d.q,d.s,d.a+6,d.a+5,d.pm⟩
theorem jc{K:ag}{S:SI}{n:Nat}{l:List (FD×FA)}(X:K.In h)(G:h.Ns mainGlobals mg)(b:iX K S C lP n l=true)(k:iP K l)(u:uT l n):∀x∈l,jY K mg S C lP x.1 x.2.g (fdOf x.2):=λx hx=>by
 have:=rY b hx;simp only[bg,gY]at this;exact Xv X G this.1.1 (Bl k hx) this.2 λus a=>Bl (u us (a.trans this.1.2)) hx
theorem XA{K:ag}{S:SI}{l:List (FD×FA)}(e:S.fd=l.map (·.1))(h:∀x∈l,jY K mg S C lP x.1 x.2.g (fdOf x.2)):∀d∈S.fd,∃g fd,jY K mg S C lP d g fd:=λd a=>by
 rw[e]at a;obtain⟨x,hx,rfl⟩:=aP.mp a;exact⟨_,_,h x hx⟩
theorem jE{P:α->Prop}{a b:List α}(c:∀x∈a,P x)(d:∀x∈b,P x):∀x∈a++b,P x:=λx hx=>(dZ.mp hx).elim (c x) (d x)
open PySem.W
def sj(P:Addr)(pos:Pos)(q:Str):RM:=λb=>if b=P then some (.tb P pos q)else none
theorem HW{P:Addr}{q:Str}:sj P pos q P=some (.tb P pos q):=ai rfl
theorem T3{P b:Addr}{q:Str}(h:b≠P):sj P pos q b=none:=ae h
theorem R0{K:Frag}{Y a T c:Addr}{q:Str}{x:Str}{sp:cu}{f:Shared}{vs:az}{ns:List Int}
 (KX:K.In f.heap) (hT:K.lookup T=none) (gT:f.heap.get? T=some (tabObj #[])) (C:CodeHd f.heap c T) (Q:f.heap.Ns mainGlobals mg) (g:f.heap.Ns builtinsNs mb) (hbb:∀x:Str,x≠"__name__"->mb x=bootBuiltins x) (O:f.heap.NoLimit) (hg:f.gens= #[])
 (I:f.heap.get? a=some { cls:=.type "list",data:=.seq vs.toArray }) (hi:IntsAre vs ns) (hl:ns.length<=sizeLine) (hr:aN k callerA)
 (F:∀l:Heap,K.In l->l.Ns mainGlobals mg->eW PR w K mg l fN k Y fd [x] (gd K sp)) (E:∀s u,BindsTo s fd ⟨[u],[]⟩ [(x,u)])
 (hsp:sp [.ls (ns.map RV.int)] (sj T pos q) λv U=>v= .bl true/\U T=some (.tb T pos q)):
 codeAny (model PR w) callerA (.call (.ref Y) ⟨[.ref a],[]⟩) (λr t=>r= .ok (.ret (.bool true))/\OldK f.heap t.heap/\t.os=f.os/\AllBare t.gens) f:=by
 have rv:=L2.bW hi;have R:=hi.length;have X:a≠T:=λz=>by rw[z,gT]at I;cases I
 have A:∀H:Hp,H T=some (.ext (gx T pos none))->Fz K H a (ns.map V.int)->c9 PR w H f.heap->(∀b,H b≠none->b=T∨b=a/\∃o u,H a=some (.bj o u))->(H a≠none->K.lookup a=none)->
  codeAny (model PR w) callerA (.call (.ref Y) ⟨[.ref a],[]⟩) (λr t=>r= .ok (.ret (.bool true))/\OldK f.heap t.heap/\t.os=f.os/\AllBare t.gens) f:=by
  intro H hHT hS av hA hK;have nd:∀{b:Addr} {o:Obj} {M:Array DictEntry} {L:Nat},f.heap.get? b=some o->o.data= .dict M L->H b=none:=λ{b o M L} e d=>by
   cases z:H b with
   |none=>rfl
   |some u=>
    rcases hA b (by rw[z];simp)with y|⟨y,_⟩
    . rw[y,gT]at e;cases e;cases d
    . rw[y,I]at e;cases e
      have d':Data.seq vs.toArray _=Data.dict M L:=d;cases d'
  have n:∀{b:Addr} {m:bC},f.heap.Ns b m->(oh f.heap H).Ns b m:=λ{b m} ⟨o,M,L,e,d,r⟩=>⟨o,M,L,HE e (nd e d),d,r⟩
  have N:K.In (oh f.heap H):=λb o e=>HE (KX b o e) (by
   cases z:H b with
   |none=>rfl
   |some u=>
    rcases hA b (by rw[z];simp)with y|⟨y,_⟩
    . rw[y,hT]at e;cases e
    . rw[y,hK (by rw[<-y,z];simp)]at e;cases e)
  have hM:Mod K mg (oh f.heap H):=⟨N,n Q,⟨mb,n g,hbb⟩,let⟨mc,h1,h2⟩:=O;⟨mc,n h1,h2⟩⟩;have e0:gZ PR w K mg (oh f.heap H) callerA [] f H:=⟨rfl,hM,λb o e=>Vi e,Nat.le_of_eq (SE _ _),trivial,λb g=>aW (show b∈([]:List Addr)from g) (by simp),av,.of_eq hg⟩
  have up:gd K sp [.ref a] H (λv W=>v= .bl true/\∃o,W T=some (.ext (gx T pos o))) λ_ _ _=>False:=by
   refine⟨[.ls (ns.map RV.int)],sj T pos q,λv U=>v= .bl true/\U T=some (.tb T pos q),aa.cons (by simp only[Rep];exact⟨a,_,rfl,hS,Aw ns⟩) aa.nil,λb o e=>?_,hsp,λrv U v W z _ w' r=>?_⟩
   . by_cases g:b=T
     . subst g;rw[HW]at e;cases e;exact⟨_,hHT,.inl rfl⟩
     . rw[T3 g]at e;cases e
   . obtain⟨rfl,z⟩:=z
     obtain⟨ho,e1,e2⟩:=w' T _ z;simp only[Rep]at r;rcases e2 with rfl|⟨c',_,_,_,rfl,_⟩
     . exact⟨r,none,e1⟩
     . exact⟨r,some c',e1⟩
  refine codeAny_mono ((F _ N (n Q)).run callerA [] f H ⟨[.ref a],[]⟩ [.ref a] [.ref a] _ _ hr e0 (E f (.ref a)) (.cons rfl .nil) up) λr t h=>?_
  cases r with
  |error e=>exact False.elim h
  |ok fl=>
   cases fl with
   |next=>exact False.elim h
   |brk=>exact False.elim h
   |cont=>exact False.elim h
   |ret u=>
    obtain⟨v,W,os,J,un,D,r',q',o,hT'⟩:=h;subst q';obtain rfl:u=Value.bool true:=r';have Z:gx T pos o t.heap:=(D T _ hT').1;refine⟨rfl,⟨λb ob e=>?_,λb ob e=>un.there b ob e (by simp)⟩,os,J⟩
    cases z:H b with
    |none=>exact .inl (un.keep b ob e z (by intro z;exact aW (show b∈([]:List Addr)from z) (by simp)) (by simp))
    |some u=>
     rcases hA b (by rw[z];simp)with rfl|⟨rfl,ob',u',j⟩
     . rw[gT]at e;cases e
       refine .inr (.inl ⟨(C.tab gT).isCodeTable,rfl,#[],match o with|none=>#[]|some c=>#[rawInt pos.line,rawInt pos.col,.ref c],rfl,?_⟩)
       cases o<;>exact Z
     . have z2:=un.aK b ob' u' j
       have e1:=(av b _ j).1;rw[e]at e1;cases e1;exact .inl (D b _ z2).1
 cases hk:K.lookup a with
 |some o=>
  have e:=KX a o hk;rw[I]at e;cases e;refine A (λb=>if b=T then some (.ext (gx T pos none))else none) (ai rfl) (.inr ⟨_,vs.toArray,_,hk,rfl,rfl,rfl,by rw[fx,R];exact hl,by simpa using rv⟩) (λb u z=>?_) (λb z=>?_) λz=>aW (ae X) z
  . by_cases g:b=T
    . subst g;have j:=(ai rfl).symm.trans z;cases j;exact Bg gT
    . have j:=(ae g).symm.trans z;cases j
  . by_cases g:b=T
    . exact .inl g
    . exact aW (ae g) z
 |none=>
  refine A (λb=>if b=T then some (.ext (gx T pos none))else if b=a then some (.bj { cls:=.type "list",data:=.seq vs.toArray } (.lst (ns.map V.int)))else none) (ai rfl) (.inl ⟨_,(ae X).trans (ai rfl)⟩) (λb u z=>?_) (λb z=>?_) λ_=>hk
  . by_cases g:b=T
    . subst g;have j:=(ai rfl).symm.trans z;cases j;exact Bg gT
    . by_cases i:b=a
      . have j:=((ae g).trans (ai i)).symm.trans z
        cases j;subst i;exact⟨I,by rw[bo];exact hl,vs,_,rv,I⟩
      . have j:=((ae g).trans (ae i)).symm.trans z;cases j
  . by_cases g:b=T
    . exact .inl g
    . by_cases i:b=a
      . exact .inr ⟨i,_,_,(ae X).trans (ai rfl)⟩
      . exact aW ((ae g).trans (ae i)) z
theorem jV{l:OpenLaw}{n k:Nat}{q:Program}{loose:aE}{d:DefRec}{K:Params->Frag}{sp:cu}{x:Str}{T c:Addr}
 (U:l.most=some n) (A:n<=sizeLine) (y:d.params.defaults= []) (W:aN k callerA)
 (N:∀w h,YP w h->(K w.params).In h/\h.get? T=some (tabObj #[])) (M:∀p,(K p).lookup T=none) (J:∀p h,(K p).In h->CodeHd h c T)
 (F:∀w i m h,(K w.params).In h->h.Ns mainGlobals i->i d.name=some (.ref m)->
  ∃t:FuncData,(∀s u,BindsTo s t ⟨[u],[]⟩ [(x,u)])/\
   ∀b:Heap,(K w.params).In b->b.Ns mainGlobals i->eW l.prog w (K w.params) i b fN k m t [x] (gd (K w.params) sp))
 (C:∀ns:List Int,ns.length<=n->sp [.ls (ns.map RV.int)] (sj T pos lq) λv H=>v= .bl true/\H T=some (.tb T pos lq)):
 WalkO q loose XP YP l.row.toRowW d [] (λf vs=>PySem.call f vs):=by
 refine Att.gC U y λw D E i Z m o pm cd I a vs ns G Y ho X Q z j g e R=>?_
 obtain⟨r,gT⟩:=N w _ Y;obtain⟨t,O,L⟩:=F w i m _ r G.T.g z;exact R0 r (M _) gT (J _ _ r) G.T.g G.T.b G.T.builtins G.T.nolimit R j g (cq e A) W L O (C ns e)
end R
namespace H09
open PySem PySem.W PyProof.Rows HD
variable(P:Params)
abbrev p:=PySem.Challenge.pw_lentgate_k09_strangers_notes_and_the_sie
abbrev body:=behindTheImports p
abbrev top(i:Nat):Stmt:=X4 p i
noncomputable def env:Env:={ scope:=p.main.scope,locals:=mainNs,globals:=mainNs,cells:=[],code:=.ref 13,frame:=some 14 }
def cd:Code:=.body body env
def ann:cJ:=some (.ref 6)
def q0:Pos:=⟨0,0,0,0⟩
noncomputable def B:List Frame:=[topFrame q0]
abbrev wf(w:World)(b:Bool):World:=w.withFollow "special-get-raises" b
noncomputable section
abbrev CQ:Value:=.str "__main__" 164
abbrev fJ:Value:=.str "lentgate.ends" 194
abbrev rh:Value:=.str "lentgate.forms" 475
abbrev rj:Value:=.str "lentgate.lines" 565
abbrev jz:Value:=.str "lentgate.rules" 711
abbrev iz:Value:=.str "lentgate.pool" 794
abbrev fe:Value:=.str "lentgate.talks" 894
abbrev cH:Value:=.str "lentgate.gate" 1101
abbrev hG:Value:=.str "law_lentgate_k09_strangers_notes_and_the_sie" 1437
noncomputable def cO (n q:Str)(a:Nat)(L k f:Int)(r:Nat)(b:Bool)(z:Value):Obj:=Cy [.str n a,.str q (a+1),.str "/claim/cut.py" (a+2),.int L 0,.int k 0,.int 0 0,.int 0 0,.int f 0,.ref r,.bool b,.int 181 0,.ref (r+1),.none,.none,.none,z,.int ((a+3:Nat):Int) 0,.int L 0,.str "/claim/cut.py" (a+4)]
noncomputable def cC (n:Str)(a:Nat)(L:Int)(r:Nat):Obj:=cO n n a L 0 0 r false .none
noncomputable def cF (n q:Str)(a:Nat)(L k:Int)(r:Nat):Obj:=cO n q a L k 3 r true (.ref (r+2))
noncomputable def mq (b:Nat)(v:Value):Obj:=⟨.type "frame",none,.plain,#[some (.ref (b+3)),some (.ref 3),some (.ref b),none,some v,none,some (.ref 0)]⟩
noncomputable def Cw (n:Str)(bs rs:az)(k:Nat)(c:az)(x:cJ)(a b:Nat)(w:String):Obj:=⟨.type "type",none,.cls { name:=n,bases:=bs,mro:=.ref (k+1)::rs,ns:=k,qualname:=n,hasDict:=true,slotNames:=[],subclasses:=c,abstract:=false,collection:=none,hasDel:=false },#[x,none,some (.str n a),some (.str n b),some (.builtin w),some (.bool true)]⟩
noncomputable def tw (n:Str)(k a:Nat):Obj:=Cw n [.type "object"] [.type "object"] k [] none a (a+8) "object.__new__"
noncomputable def oZ (n:Str)(b:Value)(rs:az)(k:Nat)(c:az)(x a:Nat):Obj:=Cw n [b] (rs++ [.type "ValueError",.type "Exception",.type "BaseException",.type "object"]) k c (some (.ref x)) a (a+8) "ValueError.__new__"
noncomputable def gD (t r:Nat):Obj:=⟨.type "getset_descriptor",none,.fields #[.str "__dict__" t,.ref r,.builtin "function.__dict__",.builtin "function.__dict__#set"],#[]⟩
noncomputable def gW (t r:Nat):Obj:=⟨.type "getset_descriptor",none,.fields #[.str "__weakref__" t,.ref r,.builtin "ExceptionGroup.__weakref__",.none],#[]⟩
noncomputable def sU (r:Nat):Obj:=⟨.type "super",none,.fields #[.ref r,.ref r,.ref r],#[]⟩
noncomputable def iS (r:Nat):Obj:=⟨.type "builtin_function_or_method",none,.fields #[.builtin "object.__init_subclass__",.ref r],#[]⟩
noncomputable def CO (c:Int)(l:List (Int×Nat)):az:=l.flatMap λx=>[.int x.1 0,.int c 0,.ref x.2]
noncomputable def tV (l:List (Int×Nat)):Obj:=⟨.none,none,.fields (CO 4 l).toArray,#[]⟩
noncomputable def rE (l:List (String×Nat×Nat)):List DictEntry:=l.map λx=>e1 P x.1 x.2.1 (.ref x.2.2)
def nB(v:Value)(n:Str)(t:Nat)(L:Int)(l:List (String×Nat×Nat))(a b:Nat):Obj:=fv ([e1 P "__module__" t v,e1 P "__qualname__" (t+2) (.str n (t+1)),e1 P "__firstlineno__" (t+4) (.int L (t+3))]++rE P l++ [e1 P "__static_attributes__" a (.ref b)]) (l.length+4)
def nA(v:Value)(t:Nat)(L:Int)(l:List (String×Nat×Nat))(a b:Nat)(es:List DictEntry)(k:Nat):Obj:=fv ([e1 P "__module__" t v,e1 P "__firstlineno__" (t+4) (.int L (t+3))]++rE P l++ [e1 P "__static_attributes__" a (.ref b)]++es) k
def nF(v:Value)(t:Nat)(L:Int)(l:List (String×Nat×Nat))(a b:Nat):Obj:=nA P v t L l a b [e1 P "__dict__" (a+2) (.ref (b+3)),e1 P "__weakref__" (a+4) (.ref (b+4)),e1 P "__doc__" (a+5) .none] 4
def ns:List DictEntry:=[e1 P "__name__" 165 hG,e1 P "__doc__" 166 (.none),e1 P "__package__" 167 (.none),e1 P "__loader__" 168 (.builtin "__main__.__loader__#opaque"),e1 P "__spec__" 169 (.none),e1 P "__annotations__" 170 (.ref 6),e1 P "__builtins__" 171 (.ref 4),e1 P "__file__" 173 (.str "/claim/cut.py" 172),e1 P "__cached__" 174 (.none),e1 P "_wall" 193 (.ref 21),e1 P "GREATEST_HOUSE" 197 (.int 99 196),e1 P "GREATEST_DOOR" 199 (.int 9999 198),e1 P "GREATEST_PLACE" 201 (.int 1000000 200),e1 P "GREATEST_TICKS" 203 (.int 1000000 202),e1 P "GREATEST_RULE" 205 (.int 1000000 204),e1 P "MOST_SIGNS" 207 (.int 40 206),e1 P "FIRST_SIGN" 209 (.int 32 208),e1 P "LAST_SIGN" 211 (.int 126 210),e1 P "PERCENT_SIGN" 213 (.int 37 212),e1 P "KINDS" 216 (.ref 22),e1 P "NOTE_WORDS" 218 (.ref 23),e1 P "LINE_WORDS" 223 (.ref 24),e1 P "is_whole" 230 (.ref 31),e1 P "is_whole_within" 239 (.ref 38),e1 P "is_house" 246 (.ref 45),e1 P "is_door" 253 (.ref 52),e1 P "is_place" 260 (.ref 59),e1 P "is_outer_place" 267 (.ref 66),e1 P "is_ticks" 274 (.ref 73),e1 P "is_kind" 281 (.ref 80),e1 P "is_word" 289 (.ref 87),e1 P "is_sign" 297 (.ref 94),e1 P "is_text" 303 (.ref 99),e1 P "is_letter" 312 (.ref 106),e1 P "is_out" 326 (.ref 113),e1 P "is_come" 339 (.ref 120),e1 P "is_lost" 351 (.ref 127),e1 P "is_wait" 358 (.ref 134),e1 P "is_rule" 370 (.ref 141),e1 P "is_unrule" 377 (.ref 148),e1 P "DEEDS" 390 (.ref 149),e1 P "name_of" 397 (.ref 156),e1 P "is_deed" 406 (.ref 163),e1 P "GateError" 426 (.ref 173),e1 P "NoForm" 442 (.ref 186),e1 P "NoDeed" 458 (.ref 198),e1 P "NoRule" 474 (.ref 210),e1 P "LENDINGS" 480 (.ref 213),e1 P "SIEVES" 484 (.ref 214),e1 P "PICKS" 487 (.ref 215),e1 P "WIDEST_STEP" 489 (.int 199 488),e1 P "GREATEST_MOST" 491 (.int 200 490),e1 P "GREATEST_TIME" 493 (.int 1000000 492),e1 P "TIME_AT" 512 (.ref 216),e1 P "is_pool" 520 (.ref 223),e1 P "is_times" 526 (.ref 228),e1 P "is_form" 541 (.ref 235),e1 P "holder_of" 555 (.ref 242),e1 P "time_of" 564 (.ref 249),e1 P "LINE_STEPS" 677 (.ref 250),e1 P "BREAKABLE" 683 (.ref 265),e1 P "note_state" 691 (.ref 272),e1 P "line_state" 700 (.ref 279),e1 P "next_state" 710 (.ref 286),e1 P "Rules" 793 (.ref 338),e1 P "Pool" 893 (.ref 411),e1 P "Talk" 930 (.ref 432),e1 P "Talks" 1100 (.ref 552),e1 P "talk_row" 1114 (.ref 563),e1 P "Gate" 1436 (.ref 767),e1 P "_law_cell" 1446 (.ref 778),e1 P "_law_well" 1454 (.ref 785),e1 P "_law_take" 1465 (.ref 792),e1 P "_law_whole" 1472 (.ref 799),e1 P "_law_wide" 1484 (.ref 806),e1 P "_law_bag_at" 1493 (.ref 813),e1 P "_law_a_form" 1502 (.ref 820),e1 P "_law_holder_of" 1511 (.ref 827),e1 P "_law_living" 1517 (.ref 832),e1 P "_law_wrote" 1523 (.ref 837),e1 P "_law_came" 1529 (.ref 842),e1 P "_law_a_world" 1535 (.ref 847),e1 P "law" 1557 (.ref 854)]
def tb:az:=CO 0 [(1,20),(17,30),(19,37),(21,44),(23,51),(25,58),(27,65),(29,72),(31,79),(33,86),(37,93),(40,98),(44,105),(46,112),(51,119),(56,126),(61,133),(63,140),(70,147),(73,155),(77,162),(84,169),(86,182),(88,194),(90,206),(100,222),(102,227),(107,234),(116,241),(124,248),(130,271),(134,278),(138,285),(143,292),(171,348),(215,421),(222,442),(305,562),(308,569),(479,777),(483,784),(487,791),(497,798),(499,805),(504,812),(510,819),(514,826),(517,831),(519,836),(531,841),(548,846),(553,853)]
abbrev zT:=df "_wall" "_wall" (top 0) 15 187 1 1 ["k"] CQ
abbrev wM:=df "is_whole" "is_whole" (top 14) 25 224 17 1 ["thing"] fJ
abbrev wN:=df "is_whole_within" "is_whole_within" (top 15) 32 231 19 3 ["thing","least","greatest"] fJ
abbrev wQ:=df "is_house" "is_house" (top 16) 39 240 21 1 ["thing"] fJ
abbrev wR:=df "is_door" "is_door" (top 17) 46 247 23 1 ["thing"] fJ
abbrev wU:=df "is_place" "is_place" (top 18) 53 254 25 1 ["thing"] fJ
abbrev wV:=df "is_outer_place" "is_outer_place" (top 19) 60 261 27 1 ["thing"] fJ
abbrev wW:=df "is_ticks" "is_ticks" (top 20) 67 268 29 1 ["thing"] fJ
abbrev wX:=df "is_kind" "is_kind" (top 21) 74 275 31 1 ["thing"] fJ
abbrev wY:=df "is_word" "is_word" (top 22) 81 282 33 2 ["kind","thing"] fJ
abbrev wZ:=df "is_sign" "is_sign" (top 23) 88 290 37 1 ["sign","at"] fJ
abbrev ku:=df "is_letter" "is_letter" (top 25) 100 304 44 3 ["kind","word","text"] fJ
abbrev ky:=df "is_out" "is_out" (top 26) 107 313 46 1 ["parts","kind","house","door","place","far","word","text"] fJ
abbrev kA:=df "is_come" "is_come" (top 27) 114 327 51 1 ["parts","kind","place","far","number","word","text"] fJ
abbrev o7:=df "is_lost" "is_lost" (top 28) 121 340 56 1 ["parts","teller","kind","number","place","far"] fJ
abbrev kC:=df "is_wait" "is_wait" (top 29) 128 352 61 1 ["parts"] fJ
abbrev o8:=df "is_rule" "is_rule" (top 30) 135 359 63 1 ["parts","kind","number","place","house","door"] fJ
abbrev o9:=df "is_unrule" "is_unrule" (top 31) 142 371 70 1 ["parts"] fJ
abbrev kD:=df "name_of" "name_of" (top 33) 150 391 73 1 ["thing"] fJ
abbrev kE:=df "is_deed" "is_deed" (top 34) 157 398 77 1 ["thing","name","has_parts"] fJ
abbrev kF:=df "is_pool" "is_pool" (top 48) 217 513 100 2 ["low","high"] rh
abbrev kG:=df "is_form" "is_form" (top 50) 229 527 107 1 ["thing","low","high","lending","sieve","pick","most","renew","times"] rh
abbrev kH:=df "holder_of" "holder_of" (top 51) 236 542 116 2 ["form","inner","kind","house","door","place","far","lending"] rh
abbrev kI:=df "time_of" "time_of" (top 52) 243 556 124 2 ["form","state","times"] rh
abbrev kJ:=df "note_state" "note_state" (top 56) 266 684 130 2 ["state","word"] rj
abbrev pb:=df "line_state" "line_state" (top 57) 273 692 134 3 ["state","side","word"] rj
abbrev kK:=df "next_state" "next_state" (top 58) 280 701 138 4 ["kind","state","side","word"] rj
abbrev kL:=df "__init__" "Rules.__init__" (sub (top 60) 0) 294 725 145 1 ["self"] jz
abbrev pd:=df "tell" "Rules.tell" (sub (top 60) 1) 301 732 149 6 ["self","kind","number","place","house","door","told"] jz
abbrev pf:=df "stands" "Rules.stands" (sub (top 60) 2) 308 745 155 2 ["self","k"] jz
abbrev ph:=df "drop" "Rules.drop" (sub (top 60) 3) 315 753 158 2 ["self","k"] jz
abbrev pq:=df "door_for" "Rules.door_for" (sub (top 60) 4) 322 761 161 4 ["self","kind","number","place","rule_kind","rule_number","rule_place","house","door","fits_place"] jz
abbrev pv:=df "listed" "Rules.listed" (sub (top 60) 5) 329 777 168 1 ["self"] jz
abbrev kM:=df "__init__" "Pool.__init__" (sub (top 62) 0) 350 808 173 3 ["self","low","high"] iz
abbrev kN:=df "has" "Pool.has" (sub (top 62) 1) 357 817 180 2 ["self","number"] iz
abbrev kO:=df "is_free" "Pool.is_free" (sub (top 62) 2) 364 825 183 3 ["self","number","moment"] iz
abbrev kQ:=df "from_mark" "Pool.from_mark" (sub (top 62) 3) 371 834 188 1 ["self"] iz
abbrev kU:=df "picked" "Pool.picked" (sub (top 62) 4) 378 841 191 4 ["self","pick","door","moment","number"] iz
abbrev kW:=df "take" "Pool.take" (sub (top 62) 5) 385 852 199 2 ["self","number"] iz
abbrev kX:=df "give" "Pool.give" (sub (top 62) 6) 392 860 205 3 ["self","number","until"] iz
abbrev kY:=df "__init__" "Talk.__init__" (sub (top 64) 0) 423 908 217 5 ["self","inner","number","state","over"] fe
abbrev kZ:=df "__init__" "Talks.__init__" (sub (top 65) 0) 444 943 224 2 ["self","form"] fe
abbrev k8:=df "of_inner" "Talks.of_inner" (sub (top 65) 1) 451 951 233 2 ["self","inner"] fe
abbrev k9:=df "of_outer" "Talks.of_outer" (sub (top 65) 2) 458 959 236 5 ["self","kind","number","place","far"] fe
abbrev la:=df "living" "Talks.living" (sub (top 65) 4) 470 976 244 1 ["self"] fe
abbrev pw:=df "is_living" "Talks.is_living" (sub (top 65) 5) 477 983 247 2 ["self","talk"] fe
abbrev lj:=df "number_of" "Talks.number_of" (sub (top 65) 6) 484 991 250 2 ["self","inner"] fe
abbrev lu:=df "holder_at" "Talks.holder_at" (sub (top 65) 7) 491 999 253 2 ["self","number"] fe
abbrev pz:=df "lent_until" "Talks.lent_until" (sub (top 65) 9) 503 1013 259 2 ["self","number"] fe
abbrev lx:=df "lend" "Talks.lend" (sub (top 65) 10) 510 1021 262 3 ["self","number","inner","holder"] fe
abbrev lz:=df "end_lend" "Talks.end_lend" (sub (top 65) 11) 517 1031 268 3 ["self","number","moment"] fe
abbrev lA:=df "begin" "Talks.begin" (sub (top 65) 12) 524 1040 273 4 ["self","inner","number","state","kind","house","door","place","far","talk"] fe
abbrev lB:=df "lead" "Talks.lead" (sub (top 65) 13) 531 1056 281 3 ["self","talk","state"] fe
abbrev lD:=df "end" "Talks.end" (sub (top 65) 14) 538 1065 288 3 ["self","talk","moment","kind","house","door","place","far","number"] fe
abbrev pA:=df "talk_row" "talk_row" (top 67) 557 1103 305 1 ["talk","kind","house","door","place","far"] cH
abbrev lE:=df "__init__" "Gate.__init__" (sub (top 68) 0) 571 1127 310 2 ["self","form"] cH
abbrev lF:=df "deed" "Gate.deed" (sub (top 68) 1) 578 1135 319 2 ["self","deed","answer"] cH
abbrev lG:=df "out" "Gate.out" (sub (top 68) 2) 585 1144 326 8 ["self","kind","house","door","place","far","word","text"] cH
abbrev lH:=df "come" "Gate.come" (sub (top 68) 3) 592 1158 329 7 ["self","kind","place","far","number","word","text"] cH
abbrev pB:=df "lost" "Gate.lost" (sub (top 68) 4) 599 1171 332 6 ["self","teller","kind","number","place","far"] cH
abbrev lJ:=df "wait" "Gate.wait" (sub (top 68) 5) 606 1183 335 2 ["self","ticks"] cH
abbrev pC:=df "rule" "Gate.rule" (sub (top 68) 6) 613 1191 338 6 ["self","kind","number","place","house","door"] cH
abbrev pE:=df "unrule" "Gate.unrule" (sub (top 68) 7) 620 1203 341 2 ["self","k"] cH
abbrev lK:=df "moment" "Gate.moment" (sub (top 68) 8) 627 1211 344 1 ["self"] cH
abbrev pF:=df "free" "Gate.free" (sub (top 68) 9) 634 1218 347 1 ["self"] cH
abbrev pG:=df "lends" "Gate.lends" (sub (top 68) 10) 641 1225 350 1 ["self"] cH
abbrev pH:=df "rests" "Gate.rests" (sub (top 68) 12) 653 1238 356 1 ["self"] cH
abbrev pI:=df "rules" "Gate.rules" (sub (top 68) 13) 660 1245 359 1 ["self"] cH
abbrev pJ:=df "book" "Gate.book" (sub (top 68) 14) 667 1252 362 1 ["self"] cH
abbrev lL:=df "answered" "Gate.answered" (sub (top 68) 15) 674 1259 365 3 ["self","name","parts","kind","place","far","number","word","text"] cH
abbrev lM:=df "sent" "Gate.sent" (sub (top 68) 16) 681 1274 380 2 ["self","parts","kind","house","door","place","far","word","text","answer","number"] cH
abbrev lN:=df "lead_out" "Gate.lead_out" (sub (top 68) 17) 688 1291 388 3 ["self","inner","word","talk","state"] cH
abbrev lQ:=df "begin_out" "Gate.begin_out" (sub (top 68) 18) 695 1302 398 3 ["self","inner","state","number"] cH
abbrev lR:=df "picked_for" "Gate.picked_for" (sub (top 68) 19) 702 1312 410 2 ["self","door","pool","now"] cH
abbrev lS:=df "come_in" "Gate.come_in" (sub (top 68) 20) 709 1322 416 6 ["self","kind","place","far","number","word","talk"] cH
abbrev lU:=df "lead_in" "Gate.lead_in" (sub (top 68) 21) 716 1335 424 3 ["self","talk","word","kind","house","door","place","far","state","renew"] cH
abbrev lV:=df "sifted" "Gate.sifted" (sub (top 68) 22) 723 1351 434 4 ["self","kind","place","number","holder"] cH
abbrev lW:=df "lets_note_in" "Gate.lets_note_in" (sub (top 68) 23) 730 1362 442 3 ["self","place","number","sieve"] cH
abbrev pK:=df "come_by_rule" "Gate.come_by_rule" (sub (top 68) 24) 737 1372 446 6 ["self","kind","place","far","number","word","to","house","door","state","inner"] cH
abbrev pL:=df "told_lost" "Gate.told_lost" (sub (top 68) 25) 744 1389 460 2 ["self","parts","teller","kind","number","place","far","talk"] cH
abbrev pM:=df "rule_told" "Gate.rule_told" (sub (top 68) 26) 751 1403 467 2 ["self","parts","kind","number","place","house","door"] cH
abbrev pN:=df "rule_dropped" "Gate.rule_dropped" (sub (top 68) 27) 758 1416 473 2 ["self","k"] cH
abbrev lX:=df "_law_cell" "_law_cell" (top 70) 772 1439 479 2 ["script","k"] hG
abbrev lY:=df "_law_well" "_law_well" (top 71) 779 1447 483 2 ["cell","turn"] hG
abbrev lZ:=df "_law_take" "_law_take" (top 72) 786 1455 487 2 ["bag","many","found","p","n"] hG
abbrev ma:=df "_law_whole" "_law_whole" (top 73) 793 1466 497 1 ["found"] hG
abbrev mh:=df "_law_wide" "_law_wide" (top 74) 800 1473 499 3 ["bag","lending","sieve","low","times","pick"] hG
abbrev mj:=df "_law_bag_at" "_law_bag_at" (top 75) 807 1485 504 2 ["cells","k","bag"] hG
abbrev ml:=df "_law_a_form" "_law_a_form" (top 76) 814 1494 510 1 ["bag","lending","form"] hG
abbrev mm:=df "_law_holder_of" "_law_holder_of" (top 77) 821 1503 514 2 ["form","inner","seen"] hG
abbrev mn:=df "law" "law" (top 82) 848 1536 553 1 ["script","form","doors","places","fars","gate","own","cells","k","bag","way","place","far","numbers","kind","ticks"] hG
def v7:Obj:=tup []
def v13:Obj:=cC "<module>" 182 1 11
noncomputable def v14:Obj:=⟨.type "frame",none,.plain,#[some (.ref 13),some (.ref 3),some (.ref 3),none,some CQ,none,some (.ref 0)]⟩
def Mi:Obj:=tup [.str "note" 214,.str "line" 215]
def Mj:Obj:=tup [.str "say" 217]
def Ml:Obj:=tup [.str "open" 219,.str "say" 220,.str "close" 221,.str "break" 222]
noncomputable def v8:Obj:=⟨.none,none,.fields #[],#[]⟩
def NG:Obj:=i5 "is_text" "is_text" (top 24)
def EU:Obj:=cF "is_text" "is_text" 298 40 1 95
def ET:Obj:=iu "is_text" "is_text" (top 24) fJ (.ref 98)
def qN:Obj:=fv (rE P [("out",378,113),("come",379,120),("lost",380,127),("wait",381,134),("rule",382,141),("unrule",383,148)]) 6
def ES:Obj:=tup [.type "ValueError"]
noncomputable def gw:Obj:=⟨.type "builtin_function_or_method",none,.fields #[.builtin "type.__prepare__",.type "type"],#[]⟩
def ER:Obj:=nB P (.str "lentgate.errors" 407) "GateError" 416 84 [] 421 171
def EO:Obj:=cC "GateError" 411 84 167
def EN:Obj:=mq 166 (.str "lentgate.errors" 407)
def EM:Obj:=nA P (.str "lentgate.errors" 407) 416 84 [] 421 171 [e1 P "__weakref__" 423 (.ref 174),e1 P "__doc__" 424 (.none)] 3
def NF:Obj:=oZ "GateError" (.type "ValueError") [] 172 [] 164 409
def EL:Obj:=gW 422 173
def EK:Obj:=sU 173
def EJ:Obj:=iS 173
def ND:Obj:=oZ "GateError" (.type "ValueError") [] 172 [.ref 186] 164 409
def su:Obj:=tup [.ref 173]
def EI:Obj:=nB P (.str "lentgate.errors" 407) "NoForm" 434 86 [] 439 184
def Dc:Obj:=cC "NoForm" 429 86 180
def C9:Obj:=mq 179 (.str "lentgate.errors" 407)
def C0:Obj:=nA P (.str "lentgate.errors" 407) 434 86 [] 439 184 [e1 P "__doc__" 440 (.none)] 2
def CZ:Obj:=oZ "NoForm" (.ref 173) [.ref 173] 185 [] 177 427
def CY:Obj:=sU 186
def CW:Obj:=iS 186
def NC:Obj:=oZ "GateError" (.type "ValueError") [] 172 [.ref 186,.ref 198] 164 409
def CV:Obj:=nB P (.str "lentgate.errors" 407) "NoDeed" 450 88 [] 455 196
def CU:Obj:=cC "NoDeed" 445 88 192
def CT:Obj:=mq 191 (.str "lentgate.errors" 407)
def CS:Obj:=nA P (.str "lentgate.errors" 407) 450 88 [] 455 196 [e1 P "__doc__" 456 (.none)] 2
def DH:Obj:=oZ "NoDeed" (.ref 173) [.ref 173] 197 [] 189 443
def DG:Obj:=sU 198
def DE:Obj:=iS 198
def DC:Obj:=oZ "GateError" (.type "ValueError") [] 172 [.ref 186,.ref 198,.ref 210] 164 409
def DB:Obj:=nB P (.str "lentgate.errors" 407) "NoRule" 466 90 [] 471 208
def DA:Obj:=cC "NoRule" 461 90 204
def Dz:Obj:=mq 203 (.str "lentgate.errors" 407)
def Dy:Obj:=nA P (.str "lentgate.errors" 407) 466 90 [] 471 208 [e1 P "__doc__" 472 (.none)] 2
def Dx:Obj:=oZ "NoRule" (.ref 173) [.ref 173] 209 [] 201 459
def Dw:Obj:=sU 210
def Dv:Obj:=iS 210
def Du:Obj:=tup [.str "door" 477,.str "place" 478,.str "talk" 479]
def Dt:Obj:=tup [.str "all" 481,.str "place" 482,.str "talk" 483]
def Ds:Obj:=tup [.str "next" 485,.str "keep" 486]
def qP:Obj:=fv [e1 P "note" 494 (.int 0 495),e1 P "asked" 496 (.int 1 497),e1 P "called" 498 (.int 1 499),e1 P "up" 500 (.int 2 501),e1 P "near" 502 (.int 2 503),e1 P "far" 504 (.int 2 505)] 6
def NB:Obj:=i5 "is_times" "is_times" (top 49)
def Dr:Obj:=cF "is_times" "is_times" 521 102 1 224
def Dq:Obj:=iu "is_times" "is_times" (top 49) rh (.ref 227)
def Dp:Obj:=tup [.str "house" 567,.none,.str "open" 568]
def Dn:Obj:=tup [.str "house" 570,.str "asked" 571,.str "open" 572]
def Dm:Obj:=tup [.str "house" 574,.str "called" 575,.str "open" 576]
def Dl:Obj:=tup [.str "house" 578,.str "up" 579,.str "say" 580]
def Dk:Obj:=tup [.str "house" 582,.str "far" 583,.str "say" 584]
def Dj:Obj:=tup [.str "house" 586,.str "up" 587,.str "close" 588]
def Di:Obj:=tup [.str "house" 590,.str "far" 591,.str "close" 592]
def Dh:Obj:=tup [.str "far" 594,.none,.str "open" 595]
def Dg:Obj:=tup [.str "far" 597,.str "called" 598,.str "open" 599]
def Df:Obj:=tup [.str "far" 601,.str "asked" 602,.str "open" 603]
def D8:Obj:=tup [.str "far" 605,.str "up" 606,.str "say" 607]
def D7:Obj:=tup [.str "far" 609,.str "near" 610,.str "say" 611]
def D6:Obj:=tup [.str "far" 613,.str "up" 614,.str "close" 615]
def D5:Obj:=tup [.str "far" 617,.str "near" 618,.str "close" 619]
def D4:Obj:=tup [.str "asked" 678,.str "called" 679,.str "up" 680,.str "near" 681,.str "far" 682]
noncomputable def K5:List (String×Nat×Nat):=[("__init__",731,300),("tell",744,307),("stands",752,314),("drop",760,321),("door_for",776,328),("listed",783,335)]
def D3:Obj:=nB P jz "Rules" 720 143 K5 786 336
def NA:Obj:=tV [(145,299),(149,306),(155,313),(158,320),(161,327),(168,334)]
def D2:Obj:=cC "Rules" 715 143 290
def D1:Obj:=mq 289 jz
def DZ:Obj:=tup [.str "many_told" 784,.str "standing" 785]
def DY:Obj:=nF P jz 720 143 K5 786 336
def DX:Obj:=tw "Rules" 337 713
def DW:Obj:=gD 787 338
def DV:Obj:=gW 789 338
def DU:Obj:=sU 338
def DT:Obj:=iS 338
noncomputable def K4:List (String×Nat×Nat):=[("__init__",816,356),("has",824,363),("is_free",833,370),("from_mark",840,377),("picked",851,384),("take",859,391),("give",868,398),("resting",874,403),("many_free",880,408)]
def DS:Obj:=nB P iz "Pool" 803 171 K4 886 409
def Nz:Obj:=tV [(173,355),(180,362),(183,369),(188,376),(191,383),(199,390),(205,397),(209,402),(212,407)]
def DR:Obj:=cC "Pool" 798 171 346
def DQ:Obj:=mq 345 iz
def Ny:Obj:=i5 "resting" "Pool.resting" (sub (top 62) 7)
def DP:Obj:=cF "resting" "Pool.resting" 869 209 2 399
def DO:Obj:=iu "resting" "Pool.resting" (sub (top 62) 7) iz (.ref 402)
def Nx:Obj:=i5 "many_free" "Pool.many_free" (sub (top 62) 8)
def DN:Obj:=cF "many_free" "Pool.many_free" 875 212 2 404
def DM:Obj:=iu "many_free" "Pool.many_free" (sub (top 62) 8) iz (.ref 407)
def DL:Obj:=tup [.str "high" 881,.str "low" 882,.str "mark" 883,.str "taken" 884,.str "until" 885]
def DK:Obj:=nF P iz 803 171 K4 886 409
def DJ:Obj:=tw "Pool" 410 796
def DI:Obj:=gD 887 411
def Lj:Obj:=gW 889 411
def Li:Obj:=sU 411
def Lh:Obj:=iS 411
noncomputable def K3:List (String×Nat×Nat):=[("__init__",918,429)]
def Lg:Obj:=nB P fe "Talk" 903 215 K3 923 430
def Nw:Obj:=tV [(217,428)]
def Lf:Obj:=cC "Talk" 898 215 419
def Le:Obj:=mq 418 fe
def Ld:Obj:=tup [.str "inner" 919,.str "number" 920,.str "over" 921,.str "state" 922]
def Lc:Obj:=nF P fe 903 215 K3 923 430
def Lb:Obj:=tw "Talk" 431 896
def La:Obj:=gD 924 432
def LL:Obj:=gW 926 432
def LK:Obj:=sU 432
def LJ:Obj:=iS 432
noncomputable def KN:List (String×Nat×Nat):=[("__init__",950,450),("of_inner",958,457),("of_outer",969,464),("is_with",975,469),("living",982,476),("is_living",990,483),("number_of",998,490),("holder_at",1006,497),("held",1012,502),("lent_until",1020,509),("lend",1030,516),("end_lend",1039,523),("begin",1055,530),("lead",1064,537),("end",1079,544),("pass_by",1085,549)]
def LI:Obj:=nB P fe "Talks" 938 222 KN 1093 550
def Nu:Obj:=tV [(224,449),(233,456),(236,463),(241,468),(244,475),(247,482),(250,489),(253,496),(256,501),(259,508),(262,515),(268,522),(273,529),(281,536),(288,543),(299,548)]
def LH:Obj:=cC "Talks" 933 222 440
def LG:Obj:=mq 439 fe
def Nr:Obj:=i5 "is_with" "Talks.is_with" (sub (top 65) 3)
def LF:Obj:=cF "is_with" "Talks.is_with" 970 241 3 465
def LD:Obj:=iu "is_with" "Talks.is_with" (sub (top 65) 3) fe (.ref 468)
def Nq:Obj:=i5 "held" "Talks.held" (sub (top 65) 8)
def LC:Obj:=cF "held" "Talks.held" 1007 256 2 498
def LB:Obj:=iu "held" "Talks.held" (sub (top 65) 8) fe (.ref 501)
def Np:Obj:=i5 "pass_by" "Talks.pass_by" (sub (top 65) 15)
def LA:Obj:=cF "pass_by" "Talks.pass_by" 1080 299 2 545
def Lz:Obj:=iu "pass_by" "Talks.pass_by" (sub (top 65) 15) fe (.ref 548)
def Ly:Obj:=tup [.str "by_inner" 1086,.str "by_number" 1087,.str "form" 1088,.str "holders" 1089,.str "now" 1090,.str "numbers" 1091,.str "pool" 1092]
def Lx:Obj:=nF P fe 938 222 KN 1093 550
def Lw:Obj:=tw "Talks" 551 931
def Lv:Obj:=gD 1094 552
def Lu:Obj:=gW 1096 552
def Ls:Obj:=sU 552
def Lr:Obj:=iS 552
noncomputable def KL:List (String×Nat×Nat):=[("__init__",1134,577),("deed",1143,584),("out",1157,591),("come",1170,598),("lost",1182,605),("wait",1190,612),("rule",1202,619),("unrule",1210,626),("moment",1217,633),("free",1224,640),("lends",1231,647),("talks",1237,652),("rests",1244,659),("rules",1251,666),("book",1258,673),("answered",1273,680),("sent",1290,687),("lead_out",1301,694),("begin_out",1311,701),("picked_for",1321,708),("come_in",1334,715),("lead_in",1350,722),("sifted",1361,729),("lets_note_in",1371,736),("come_by_rule",1388,743),("told_lost",1402,750),("rule_told",1415,757),("rule_dropped",1423,764)]
def Lq:Obj:=nB P cH "Gate" 1122 308 KL 1429 765
def Nn:Obj:=tV [(310,576),(319,583),(326,590),(329,597),(332,604),(335,611),(338,618),(341,625),(344,632),(347,639),(350,646),(353,651),(356,658),(359,665),(362,672),(365,679),(380,686),(388,693),(398,700),(410,707),(416,714),(424,721),(434,728),(442,735),(446,742),(460,749),(467,756),(473,763)]
def Lp:Obj:=cC "Gate" 1117 308 567
def Lo:Obj:=mq 566 cH
def Nm:Obj:=i5 "talks" "Gate.talks" (sub (top 68) 11)
def Ln:Obj:=cF "talks" "Gate.talks" 1232 353 1 648
def Lm:Obj:=iu "talks" "Gate.talks" (sub (top 68) 11) cH (.ref 651)
def Ll:Obj:=tup [.str "done" 1424,.str "form" 1425,.str "strangers" 1426,.str "table" 1427,.str "wish" 1428]
def Lk:Obj:=nF P cH 1122 308 KL 1429 765
def L3:Obj:=tw "Gate" 766 1115
def L0:Obj:=gD 1430 767
def LZ:Obj:=gW 1432 767
def LY:Obj:=sU 767
def LX:Obj:=iS 767
def Nl:Obj:=i5 "_law_living" "_law_living" (top 78)
def LW:Obj:=cF "_law_living" "_law_living" 1512 517 1 828
def LU:Obj:=iu "_law_living" "_law_living" (top 78) hG (.ref 831)
def Nk:Obj:=i5 "_law_wrote" "_law_wrote" (top 79)
def LS:Obj:=cF "_law_wrote" "_law_wrote" 1518 519 4 833
def LQ:Obj:=iu "_law_wrote" "_law_wrote" (top 79) hG (.ref 836)
def Nj:Obj:=i5 "_law_came" "_law_came" (top 80)
def LP:Obj:=cF "_law_came" "_law_came" 1524 531 7 838
def LO:Obj:=iu "_law_came" "_law_came" (top 80) hG (.ref 841)
def Ni:Obj:=i5 "_law_a_world" "_law_a_world" (top 81)
def LN:Obj:=cF "_law_a_world" "_law_a_world" 1530 548 1 843
def LM:Obj:=iu "_law_a_world" "_law_a_world" (top 81) hG (.ref 846)
def fin(P:Params)(D:Obj):List Obj:=[boot_o_0 P,boot_o_1 P,boot_o_2 P,fv ((ns P).take 83) 83,boot_o_4 P,boot_o_5 P,boot_o_6 P,boot_o_7 P,boot_o_8 P,boot_o_9 P,boot_o_10 P,v7,cW (tb.take 156),v13,v14]++(zT.objs++([Mi,Mj,Ml]++(wM.objs++(wN.objs++(wQ.objs++(wR.objs++(wU.objs++(wV.objs++(wW.objs++(wX.objs++(wY.objs++(wZ.objs++([v7,v8,NG,EU,ET]++(ku.objs++(ky.objs++(kA.objs++(o7.objs++(kC.objs++(o8.objs++(o9.objs++([qN P]++(kD.objs++(kE.objs++([ES,gw,ER P,v7,v8,EO,EN,v7,EM P,DC,EL,EK,EJ,su,gw,EI P,v7,v8,Dc,C9,v7,C0 P,CZ,CY,CW,su,gw,CV P,v7,v8,CU,CT,v7,CS P,DH,DG,DE,su,gw,DB P,v7,v8,DA,Dz,v7,Dy P,Dx,Dw,Dv,Du,Dt,Ds,qP P]++(kF.objs++([v7,v8,NB,Dr,Dq]++(kG.objs++(kH.objs++(kI.objs++([D,Dp,Dn,Dm,Dl,Dk,Dj,Di,Dh,Dg,Df,D8,D7,D6,D5,D4]++(kJ.objs++(pb.objs++(kK.objs++([v7,gw,D3 P,v7,NA,D2,D1]++(kL.objs++(pd.objs++(pf.objs++(ph.objs++(pq.objs++(pv.objs++([DZ,DY P,DX,DW,DV,DU,DT,v7,gw,DS P,v7,Nz,DR,DQ]++(kM.objs++(kN.objs++(kO.objs++(kQ.objs++(kU.objs++(kW.objs++(kX.objs++([v7,v8,Ny,DP,DO,v7,v8,Nx,DN,DM,DL,DK P,DJ,DI,Lj,Li,Lh,v7,gw,Lg P,v7,Nw,Lf,Le]++(kY.objs++([Ld,Lc P,Lb,La,LL,LK,LJ,v7,gw,LI P,v7,Nu,LH,LG]++(kZ.objs++(k8.objs++(k9.objs++([v7,v8,Nr,LF,LD]++(la.objs++(pw.objs++(lj.objs++(lu.objs++([v7,v8,Nq,LC,LB]++(pz.objs++(lx.objs++(lz.objs++(lA.objs++(lB.objs++(lD.objs++([v7,v8,Np,LA,Lz,Ly,Lx P,Lw,Lv,Lu,Ls,Lr]++(pA.objs++([v7,gw,Lq P,v7,Nn,Lp,Lo]++(lE.objs++(lF.objs++(lG.objs++(lH.objs++(pB.objs++(lJ.objs++(pC.objs++(pE.objs++(lK.objs++(pF.objs++(pG.objs++([v7,v8,Nm,Ln,Lm]++(pH.objs++(pI.objs++(pJ.objs++(lL.objs++(lM.objs++(lN.objs++(lQ.objs++(lR.objs++(lS.objs++(lU.objs++(lV.objs++(lW.objs++(pK.objs++(pL.objs++(pM.objs++(pN.objs++([Ll,Lk P,L3,L0,LZ,LY,LX]++(lX.objs++(lY.objs++(lZ.objs++(ma.objs++(mh.objs++(mj.objs++(ml.objs++(mm.objs++([v7,v8,Nl,LW,LU,v7,v8,Nk,LS,LQ,v7,v8,Nj,LP,LO,v7,v8,Ni,LN,LM]++(mn.objs))))))))))))))))))))))))))))))))))))))))))))))))))))))))))))))))))))))))))))))))))))))))))))))))))))))))))))
def mP:List Obj:=fin P default
def wG(P:Params)(os:OsState):SharedT:=⟨treeOf ((((mP P).take 15).set 3 (boot_o_3 P)).set 12 (cW (tb.take 0))),15,{},#[],{},187,os⟩
theorem WM(w:World)(os:OsState):topGo treeTable p w 11 ann 12 ⟨boot_heap w.2,#[],boot_drawn,boot_toks,os⟩ (topStub p)=some ((wG w.2 os).abs,⟨denote treeTable cd,cd,q0,B⟩):=by kernel_rfl
theorem Ui(w:World)(os:OsState):segRun treeTable p w 11 ann 1 1 (wG w.2 os).abs (blockOf body env cd q0 B)=some (.next,(wG w.2 os).abs,cd,q0):=by kernel_rfl
def Cr(P:Params)(os:OsState):SharedT:=⟨treeOf ((((mP P).take 81).set 3 (fv ((e1 P "__name__" 165 fJ)::((ns P).drop 1).take 29) 30)).set 12 (cW (tb.take 27))),81,{},#[],{},282,os⟩
theorem OE(w)(os):segRunT treeTable p w 11 ann 1 391 (wG w.2 os) (piecesOf ((body.drop 0).take 22) env cd q0 B)=some (.next,Cr w.2 os,cd,⟨31,0,32,25⟩):=by
 walk_at "w9"
def zL(P:Params)(os:OsState):SharedT:=⟨treeOf ((((mP P).take 149).set 3 (fv ((e1 P "__name__" 165 fJ)::((ns P).drop 1).take 39) 40)).set 12 (cW (tb.take 57))),149,{},#[],{},378,os⟩
theorem OD(w)(os):segRunT treeTable p w 11 ann 1 315 (Cr w.2 os) (piecesOf ((body.drop 22).take 10) env cd ⟨31,0,32,25⟩ B)=some (.next,zL w.2 os,cd,⟨70,0,71,74⟩):=by
 walk_at "w9"
def zM(P:Params)(os:OsState):SharedT:=⟨treeOf (((((mP P).take 177).set 3 (fv ((e1 P "__name__" 165 (.str "lentgate.errors" 407))::((ns P).drop 1).take 43) 44)).set 12 (cW (tb.take 66))).set 173 (NF)),177,{},#[],{},427,os⟩
theorem YO(w:World)(os:OsState)(b:Bool):segRunT treeTable p (wf w b) 11 ann 1 362 (zL w.2 os) (piecesOf ((body.drop 32).take 5) env cd ⟨70,0,71,74⟩ B)=some (.next,zM w.2 os,cd,⟨84,0,85,8⟩):=by
 rw[PySem.W.Fast.te10110043849684766642,PySem.W.Fast.te14364793385576792824];cases b<;>kernel_rfl
theorem OC(w)(os):segRunT treeTable p w 11 ann 1 362 (zL w.2 os) (piecesOf ((body.drop 32).take 5) env cd ⟨70,0,71,74⟩ B)=some (.next,zM w.2 os,cd,⟨84,0,85,8⟩):=by
 have h:=YO w os (w.2.followText "special-get-raises");unfold wf at h;rw[World.withFollow_self]at h;exact h
def Cs(P:Params)(os:OsState):SharedT:=⟨treeOf (((((mP P).take 189).set 3 (fv ((e1 P "__name__" 165 (.str "lentgate.errors" 407))::((ns P).drop 1).take 44) 45)).set 12 (cW (tb.take 69))).set 173 (ND)),189,{},#[],{},443,os⟩
theorem OB(w)(os):segRunT treeTable p w 11 ann 1 214 (zM w.2 os) (piecesOf ((body.drop 37).take 1) env cd ⟨84,0,85,8⟩ B)=some (.next,Cs w.2 os,cd,⟨86,0,87,8⟩):=by
 walk_at "w9"
def zN(P:Params)(os:OsState):SharedT:=⟨treeOf (((((mP P).take 201).set 3 (fv ((e1 P "__name__" 165 (.str "lentgate.errors" 407))::((ns P).drop 1).take 45) 46)).set 12 (cW (tb.take 72))).set 173 (NC)),201,{},#[],{},459,os⟩
theorem NS(w)(os):segRunT treeTable p w 11 ann 1 214 (Cs w.2 os) (piecesOf ((body.drop 38).take 1) env cd ⟨86,0,87,8⟩ B)=some (.next,zN w.2 os,cd,⟨88,0,89,8⟩):=by
 walk_at "w9"
def zO(P:Params)(os:OsState):SharedT:=⟨treeOf ((((mP P).take 217).set 3 (fv ((e1 P "__name__" 165 rh)::((ns P).drop 1).take 53) 54)).set 12 (cW (tb.take 75))),217,{},#[],{},513,os⟩
theorem YN(w:World)(os:OsState)(b:Bool):segRunT treeTable p (wf w b) 11 ann 1 388 (zN w.2 os) (piecesOf ((body.drop 39).take 9) env cd ⟨88,0,89,8⟩ B)=some (.next,zO w.2 os,cd,⟨99,0,99,7⟩):=by
 rw[PySem.W.Fast.te10110043849684766642,PySem.W.Fast.te14364793385576792824];cases b<;>kernel_rfl
theorem NR(w)(os):segRunT treeTable p w 11 ann 1 388 (zN w.2 os) (piecesOf ((body.drop 39).take 9) env cd ⟨88,0,89,8⟩ B)=some (.next,zO w.2 os,cd,⟨99,0,99,7⟩):=by
 have h:=YN w os (w.2.followText "special-get-raises");unfold wf at h;rw[World.withFollow_self]at h;exact h
def zP(P:Params)(os:OsState):SharedT:=⟨treeOf ((((mP P).take 250).set 3 (fv ((e1 P "__name__" 165 rj)::((ns P).drop 1).take 58) 59)).set 12 (cW (tb.take 90))),250,{},#[],{},567,os⟩
theorem NQ(w)(os):segRunT treeTable p w 11 ann 1 170 (zO w.2 os) (piecesOf ((body.drop 48).take 6) env cd ⟨99,0,99,7⟩ B)=some (.next,zP w.2 os,cd,⟨127,0,127,8⟩):=by
 walk_at "w9"
def ob(P:Params)(i:Nat):Obj:=(((((mP P).take 250).set 3 (fv ((e1 P "__name__" 165 rj)::((ns P).drop 1).take 58) 59)).set 12 (cW (tb.take 90))):List Obj).getD i default
def Dd(es:Array DictEntry)(n:Nat):Obj:=⟨.type "dict",none,.dict es n,#[]⟩
def S(o:Nat->Obj)(os:OsState)(D:Obj)(tk:Nat):SharedT:=⟨((((((((((((((((treeOf ((List.range 250).map o)).ins 250 D).ins 251 (tup [.str "house" 567,.none,.str "open" 568])).ins 252 (tup [.str "house" 570,.str "asked" 571,.str "open" 572])).ins 253 (tup [.str "house" 574,.str "called" 575,.str "open" 576])).ins 254 (tup [.str "house" 578,.str "up" 579,.str "say" 580])).ins 255 (tup [.str "house" 582,.str "far" 583,.str "say" 584])).ins 256 (tup [.str "house" 586,.str "up" 587,.str "close" 588])).ins 257 (tup [.str "house" 590,.str "far" 591,.str "close" 592])).ins 258 (tup [.str "far" 594,.none,.str "open" 595])).ins 259 (tup [.str "far" 597,.str "called" 598,.str "open" 599])).ins 260 (tup [.str "far" 601,.str "asked" 602,.str "open" 603])).ins 261 (tup [.str "far" 605,.str "up" 606,.str "say" 607])).ins 262 (tup [.str "far" 609,.str "near" 610,.str "say" 611])).ins 263 (tup [.str "far" 613,.str "up" 614,.str "close" 615])).ins 264 (tup [.str "far" 617,.str "near" 618,.str "close" 619])),265,{},#[],{},tk,os⟩
noncomputable def S0(o:Nat->Obj)(os:OsState)(tk:Nat):SharedT:=⟨treeOf ((List.range 250).map o),250,{},#[],{},tk,os⟩
noncomputable def Cq(o:Nat->Obj)(os:OsState)(tk:Nat):SharedT:=⟨(treeOf ((List.range 250).map o)).ins 250 (Dd #[] 0),251,{},#[],{},tk,os⟩
theorem YM(P:Params)(os:OsState):zP P os=S0 (ob P) os 567:=by kernel_rfl
noncomputable def hs(P:Params)(x:Str):Int:=if x.cps.isEmpty then 0 else reduceHash (P.strHash x.cps)
noncomputable def kt:List (List (Option Str)):=[[some "house",none,some "open"],[some "house",some "asked",some "open"],[some "house",some "called",some "open"],[some "house",some "up",some "say"],[some "house",some "far",some "say"],[some "house",some "up",some "close"],[some "house",some "far",some "close"],[some "far",none,some "open"],[some "far",some "called",some "open"],[some "far",some "asked",some "open"],[some "far",some "up",some "say"],[some "far",some "near",some "say"],[some "far",some "up",some "close"],[some "far",some "near",some "close"]]
noncomputable def vt:az:=[.str "asked" 569,.str "asked" 573,.str "up" 577,.str "up" 581,.str "far" 585,.str "near" 589,.str "shut" 593,.str "called" 596,.str "called" 600,.str "up" 604,.str "up" 608,.str "near" 612,.str "far" 616,.str "shut" 620]
def hx(P:Params):Option Str->Int
 |some x=>hs P x
 |none=>hashW P .none
def hi(k:Nat)(P:Params):Int:=Builtin.Tuple.tupleHashOf ((kt.getD k []).map (hx P))
def en(k:Nat)(P:Params):DictEntry:=⟨reduceHash (hi k P),.ref (251+k),vt.getD k .none⟩
def De(k:Nat)(P:Params):Obj:=Dd ((List.range k).map λj=>en j P).toArray k
theorem aM{X:Nat->Prop}(h0:X 0)(e:X 1)(f:X 2)(g:X 3)(i:X 4)(j:X 5)(l:X 6)(m:X 7)(o:X 8)(r:X 9)(a:X 10)(b:X 11)(c:X 12)(d:X 13):∀k,k<14->X k:=λk s=>match k,s with|0,_=>h0|1,_=>e|2,_=>f|3,_=>g|4,_=>i|5,_=>j|6,_=>l|7,_=>m|8,_=>o|9,_=>r|10,_=>a|11,_=>b|12,_=>c|13,_=>d|n+14,h=>aW h (by omega)
section
variable(w:World)(b:Bool)(o:Nat->Obj)(os:OsState)(D:Obj)(tk:Nat)(ps:Pos)
abbrev RR(w:World)(b:Bool)(o:Nat->Obj)(os:OsState)(D:Obj)(tk:Nat)(ps:Pos)(n:Nat)(x:Sem α)(a:α):Prop:=Rn p (wf w b) 11 ann cd B n x ps (S o os D tk) a ps (S o os D tk)
local macro_rules | `(tactic| walk_at "h0") => `(tactic| (refine jJ fun K H lv => ?_; rw [mY, PySem.W.Fast.te14364793385576792824]; kernel_rfl))
theorem ru(x:String):RR w b o os D tk ps 1 (rule x) ():=by walk_at "h0"
theorem den(es:Array DictEntry)(n:Nat):Rn p (wf w b) 11 ann cd B 1 (dictEntries 250 none) ps (S o os (Dd es n) tk) es ps (S o os (Dd es n) tk):=by walk_at "h0"
theorem dep(es:Array DictEntry)(n:Nat):Rn p (wf w b) 11 ann cd B 1 (dictEpoch 250 none) ps (S o os (Dd es n) tk) n ps (S o os (Dd es n) tk):=by walk_at "h0"
local macro_rules | `(tactic| walk_at "h1") => `(tactic| (refine jJ fun K H lv => ?_; rw [mY, PySem.W.Fast.te14364793385576792824, PySem.W.Fast.te13066428366354244818]; kernel_rfl))
theorem qu:∀k,k<14->RR w b o os D tk ps 3 (eqIsQuiet 8 (.ref (251+k))) true:=by
 refine aM ?_ ?_ ?_ ?_ ?_ ?_ ?_ ?_ ?_ ?_ ?_ ?_ ?_ ?_<;>walk_at "h1"
local macro_rules | `(tactic| walk_at "h2") => `(tactic| (refine jJ fun K H lv => ?_; rw [mY, PySem.W.Fast.te14364793385576792824, PySem.W.Fast.te13383273872528276517]; kernel_rfl))
theorem ro:∀k,k<14->RR w b o os D tk ps 1 (cRoomFor "hash" [.ref (251+k)]) ():=by
 refine aM ?_ ?_ ?_ ?_ ?_ ?_ ?_ ?_ ?_ ?_ ?_ ?_ ?_ ?_<;>walk_at "h2"
local macro_rules | `(tactic| walk_at "h3") => `(tactic| (refine jJ fun K H lv => ?_; rw [mY, PySem.W.Fast.te14364793385576792824, PySem.W.Fast.te4214721358667687652]; kernel_rfl))
theorem sp:∀k,k<14->RR w b o os D tk ps 1 (specialOf (.ref (251+k)) "__hash__") (some (.builtin "tuple.__hash__")):=by
 refine aM ?_ ?_ ?_ ?_ ?_ ?_ ?_ ?_ ?_ ?_ ?_ ?_ ?_ ?_<;>walk_at "h3"
local macro_rules | `(tactic| walk_at "h4") => `(tactic| (refine jJ fun K H lv => ?_; rw [mY, PySem.W.Fast.te14364793385576792824, PySem.W.Fast.te16697807410369149715]; cases b <;> kernel_rfl))
theorem ca:∀k,k<14->∀E:Sem Value,Rn p (wf w b) 11 ann cd B 29 (callSpecialIfBoundUnlessNone? (.ref (251+k)) "__hash__" E) ps (S o os D tk) (some (.int (hi k w.2) (tk+3))) ps (S o os D (tk+4)):=
 aM (λE=>Rn.more (m1:=27) (by walk_at "h4") (by decide)) (λE=>Rn.more (m1:=29) (by walk_at "h4") (by decide)) (λE=>Rn.more (m1:=29) (by walk_at "h4") (by decide)) (λE=>Rn.more (m1:=29) (by walk_at "h4") (by decide)) (λE=>Rn.more (m1:=29) (by walk_at "h4") (by decide)) (λE=>Rn.more (m1:=29) (by walk_at "h4") (by decide)) (λE=>Rn.more (m1:=29) (by walk_at "h4") (by decide)) (λE=>Rn.more (m1:=27) (by walk_at "h4") (by decide)) (λE=>Rn.more (m1:=29) (by walk_at "h4") (by decide)) (λE=>Rn.more (m1:=29) (by walk_at "h4") (by decide)) (λE=>Rn.more (m1:=29) (by walk_at "h4") (by decide)) (λE=>Rn.more (m1:=29) (by walk_at "h4") (by decide)) (λE=>Rn.more (m1:=29) (by walk_at "h4") (by decide)) (λE=>Rn.more (m1:=29) (by walk_at "h4") (by decide))
local macro_rules | `(tactic| walk_at "h5") => `(tactic| (refine jJ fun K H lv => ?_; rw [mY, PySem.W.Fast.te14364793385576792824, PySem.W.Fast.te11826078720135083572]; kernel_rfl))
theorem up:∀k,k<14->Rn p (wf w b) 11 ann cd B 3 (updateDictKeys 250 (λx=>x.push (en k w.2)) none) ps (S o os (De k w.2) tk) () ps (S o os (De (k+1) w.2) tk):=by
 refine aM ?_ ?_ ?_ ?_ ?_ ?_ ?_ ?_ ?_ ?_ ?_ ?_ ?_ ?_<;>walk_at "h5"
def pj:List (Nat×Nat):=(List.range 14).flatMap λk=>(List.range k).map λj=>(j,k)
noncomputable def cs:List (List Nat):=[[],[26],[26,20],[26,20,20],[26,20,20,20],[26,20,20,24,20],[26,20,20,20,24,20],[16,16,16,16,16,16,16],[16,16,16,16,16,16,16,26],[16,16,16,16,16,16,16,26,20],[16,16,16,16,16,16,16,26,20,20],[16,16,16,16,16,16,16,26,20,20,20],[16,16,16,16,16,16,16,26,20,20,24,20],[16,16,16,16,16,16,16,26,20,20,20,24,20]]
noncomputable def cn (x:Nat×Nat):Nat:=(cs.getD x.2 []).getD x.1 0
theorem My:∀x∈pj,RR w b o os D tk ps (cn x) (eqBool (.ref (251+x.1)) (.ref (251+x.2))) false:=Wj λK H lv=>by
 rw[mY,PySem.W.Fast.te14364793385576792824,PySem.W.Fast.te13926502685295537346];cases b<;>kernel_rfl
theorem Mx:(pj.all λx=>Nat.ble (cn x) 26)=true:=by kernel_rfl
theorem fi(k:Nat)(hk:k<14)(h):Rn p (wf w b) 11 ann cd B 797 (dictFind 250 (.ref (251+k)) h) ps (S o os (De k w.2) tk) none ps (S o os (De k w.2) tk):=
 find_none (m:=26) (L:=14) (by show((List.range k).map _).length<=14;rw[bo,zG];omega) (ru _ _ _ _ _ _ _) (den _ _ _ _ _ _ _ _) (dep _ _ _ _ _ _ _ _) ((qu w b o os _ tk ps k hk).more (by decide)) λe d=>by
  obtain⟨j,a,rfl⟩:=aP.mp (show e∈(List.range k).map λj=>en j w.2 from d)
  have a:=ng.mp a;have c:(j,k)∈pj:=List.mem_flatMap.mpr ⟨k,ng.mpr hk,aP.mpr ⟨j,ng.mpr a,rfl⟩⟩;have f:j<14:=fq a hk;exact⟨⟨251+j,rfl,cX (Nat.add_lt_add_left a _)⟩,(qu w b o os _ tk ps j f).more (by decide),(My w b o os _ tk ps _ c).more (Nat.le_of_ble_eq_true (gM.mp Mx _ c))⟩
theorem se(k:Nat)(hk:k<14):Rn p (wf w b) 11 ann cd B 834 (dictSet 250 (.ref (251+k)) (vt.getD k .none)) ps (S o os (De k w.2) tk) () ps (S o os (De (k+1) w.2) (tk+4)):=
 (Uv (h:=reduceHash (hi k w.2)) (ru w b o os _ (tk+4) ps) (Tq (ru w b o os _ (tk+4) ps) (ro w b o os _ tk ps k hk) (sp w b o os _ tk ps k hk) (ca w b o os _ tk ps k hk)) (fi w b o os (tk+4) ps k hk _) (up w b o os (tk+4) ps k hk)).more (by decide)
end
def vp(k:Nat):Value×Value:=(.ref (251+k),vt.getD k .none)
def vs:List (Value×Value):=(List.range' 0 14).map vp
def DD:Obj:=De 14 P
theorem JK(w)(b)(o:Nat->Obj)(os)(ps)(a:∀k v,f (k,v) ()=(do dictSet 250 k v;pure (.yield ()))):∀j k tk,k+j=14->
 Rn p (wf w b) 11 ann cd B (834*j) (forIn ((List.range' k j).map vp) () f) ps (S o os (De k w.2) tk) () ps (S o os (DD w.2) (tk+4*j))
 |0,k,tk,h=>by rw[show k=14 by omega];exact UE
 |j+1,k,tk,h=>by
  rw[List.range'_succ,bF,show tk+4*(j+1)=(tk+4)+4*j by omega]
  exact(UD (Y2 (a _ _) (cR (m2:=0) (se w b o os tk ps k (by omega)) gG)) (JK w b o os ps a j (k+1) (tk+4) (by omega))).more (by omega)
theorem Te(w)(b)(o:Nat->Obj)(os)(tk)(ps)(a:∀k v,f (k,v) ()=(do dictSet 250 k v;pure (.yield ()))):
 Rn p (wf w b) 11 ann cd B 11676 (forIn vs () f) ps (S o os (De 0 w.2) tk) () ps (S o os (DD w.2) (tk+56)):=JK w b o os ps a 14 0 tk rfl
def st:Stmt:=body[54]
noncomputable def vB:List (Option PySem.Expr):=match st with| .Assign _ (.Dict ks _ _) _=>ks|_=>[]
noncomputable def vA:List PySem.Expr:=match st with| .Assign _ (.Dict _ vs _) _=>vs|_=>[]
def mW:Pos:=match st with| .Assign _ (.Dict _ _ q) _=>q|_=>default
def i0:Pos:=match st with| .Assign _ _ q=>q|_=>default
def qG:Pos:=⟨128,0,128,10⟩
theorem N4:st= .Assign [.Name "LINE_STEPS" qG] (.Dict vB vA mW) i0:=by kernel_rfl
noncomputable def ab:List (Option (Sem Value)×Sem Value):=(evalEachOpt vB env).zip ((evalEach vA env).map λv=>do let x<-v;standAt mW;pure x)
noncomputable def Ai:List (Sem Value×Sem Value):=ab.filterMap λx=>x.1.map λk=>(k,x.2)
theorem ZZ:exec st env=(do
 standAt i0
 let v<-eval (.Dict vB vA mW) env
 standAt qG
 bindName env "LINE_STEPS" v
 pure .next):=by rw[N4];exact exec_Assign_Name env "LINE_STEPS" qG (.Dict vB vA mW) i0 (by kernel_rfl)
theorem dq:eval (.Dict vB vA mW) env=(do standAt mW;dictDisplay ab):=by kernel_rfl
theorem dd:dictDisplay ab=((subDict Ai >>= λd=>pure (some d)) >>= λo=>match o with|some d=>pure (.ref d)|none=>newDict):=by kernel_rfl
theorem WC(w)(o:Nat->Obj)(os)(tk)(ps)(a:∀k v,f (k,v) ()=(do dictSet 250 k v;pure (.yield ()))):
 Rn p w 11 ann cd B 11676 (forIn vs () f) ps (S o os (De 0 w.2) tk) () ps (S o os (DD w.2) (tk+56)):=by
 have h:=Te w (w.2.followText "special-get-raises") o os tk ps a;unfold wf at h;rw[World.withFollow_self]at h;exact h
theorem at_{w:World}{s:SharedT}{ps ps':Pos}:Rn p w 11 ann cd B 1 (standAt ps') ps s () ps' s:=jJ λK H lv=>by kernel_rfl
theorem al{w:World}{o:Nat->Obj}{os:OsState}{tk:Nat}{ps:Pos}:Rn p w 11 ann cd B 1 (alloc { cls:=.type "dict",data:=.dict #[] }) ps (S0 o os tk) 250 ps (Cq o os tk):=jJ λK H lv=>by kernel_rfl
theorem ev{w:World}{o:Nat->Obj}{os:OsState}{ps:Pos}:Rn p w 11 ann cd B 96 (evalPairs Ai) ps (Cq o os 567) vs mW (S o os (De 0 w.2) 621):=jJ λK H lv=>by
 rw[mY,PySem.W.Fast.te14364793385576792824];kernel_rfl
theorem sub{w:World}{o:Nat->Obj}{os:OsState}{ps:Pos}:Rn p w 11 ann cd B 11773 (subDict Ai) ps (S0 o os 567) 250 mW (S o os (DD w.2) 677):=by
 unfold subDict;refine Rn.more (m1:=1+(96+(11676+0)+0)) (cR al (cR (a:=()) (ur ?_) gG)) (by decide)
 rw[ai (Nat.le_of_ble_eq_true (by kernel_rfl))]
 refine cR ev (ur ?_);exact cR (WC w o os 621 mW (λ_ _=>rfl)) gG
def tf(P:Params)(os:OsState)(D:Obj):SharedT:=⟨treeOf ((((fin P D).take 265).set 3 (fv ((e1 P "__name__" 165 rj)::((ns P).drop 1).take 59) 60)).set 12 (cW (tb.take 90))),265,{},#[],{},678,os⟩
theorem bn{w:World}{os:OsState}{D:Obj}{ps:Pos}:Rn p w 11 ann cd B 6 (bindName env "LINE_STEPS" (.ref 250)) ps (S (ob w.2) os D 677) () ps (tf w.2 os D):=jJ λK H lv=>by
 rw[mY,PySem.W.Fast.te14364793385576792824];kernel_rfl
theorem XN{w:World}{os:OsState}{ps:Pos}:Rn p w 11 ann cd B 11782 (execs [st] env) ps (S0 (ob w.2) os 567) .next qG (tf w.2 os (DD w.2)):=by
 rw[execs_cons,ZZ,dq,dd];refine Rn.more (m1:=(1+((1+((11773+0)+0))+(1+(6+0))))+0) (cR (a:=.next) (cR at_ (cR (cR at_ (cR (cR sub gG) gG)) (cR at_ (cR bn gG)))) ?_) (by decide)
 exact gG
theorem NP(w)(os):segRunT treeTable p w 11 ann 1 11783 (zP w.2 os) (piecesOf [st] env cd ⟨127,0,127,8⟩ B)=some (.next,tf w.2 os (DD w.2),cd,qG):=by
 rw[YM];obtain⟨n,b,h⟩:=XN (w:=w) (os:=os) (ps:=⟨127,0,127,8⟩) doneF deadEnd id;have e:=Ip (m:=1) (r:=(.next,tf w.2 os (DD w.2),cd,qG)) h rfl;have a:=HM (11782-n) e;rw[show n+1+(11782-n)=11783 by omega]at a
 exact a
def Ct(P:Params)(os:OsState)(D:Obj):SharedT:=⟨treeOf ((((fin P D).take 287).set 3 (fv ((e1 P "__name__" 165 jz)::((ns P).drop 1).take 63) 64)).set 12 (cW (tb.take 99))),287,{},#[],{},713,os⟩
theorem NO(w)(os)(D):segRunT treeTable p w 11 ann 1 118 (tf w.2 os D) (piecesOf ((body.drop 55).take 5) env cd qG B)=some (.next,Ct w.2 os D,cd,⟨142,0,142,8⟩):=by
 walk_at "w9"
def Cu(P:Params)(os:OsState)(D:Obj):SharedT:=⟨treeOf ((((fin P D).take 343).set 3 (fv ((e1 P "__name__" 165 jz)::((ns P).drop 1).take 64) 65)).set 12 (cW (tb.take 102))),343,{},#[],{},794,os⟩
theorem NM(w)(os)(D):segRunT treeTable p w 11 ann 1 395 (Ct w.2 os D) (piecesOf ((body.drop 60).take 1) env cd ⟨142,0,142,8⟩ B)=some (.next,Cu w.2 os D,cd,⟨143,0,169,16⟩):=by
 walk_at "w9"
def Fu(P:Params)(os:OsState)(D:Obj):SharedT:=⟨treeOf ((((fin P D).take 343).set 3 (fv ((e1 P "__name__" 165 iz)::((ns P).drop 1).take 64) 65)).set 12 (cW (tb.take 102))),343,{},#[],{},796,os⟩
theorem YX(w)(os)(D):segRunT treeTable p w 11 ann 1 10 (Cu w.2 os D) (piecesOf ((body.drop 61).take 1) env cd ⟨143,0,169,16⟩ B)=some (.next,Fu w.2 os D,cd,⟨170,0,170,8⟩):=by
 walk_at "w9"
def Ft(P:Params)(os:OsState)(D:Obj):SharedT:=⟨treeOf ((((fin P D).take 416).set 3 (fv ((e1 P "__name__" 165 iz)::((ns P).drop 1).take 65) 66)).set 12 (cW (tb.take 105))),416,{},#[],{},894,os⟩
theorem YW(w)(os)(D):segRunT treeTable p w 11 ann 1 480 (Fu w.2 os D) (piecesOf ((body.drop 62).take 1) env cd ⟨170,0,170,8⟩ B)=some (.next,Ft w.2 os D,cd,⟨171,0,213,105⟩):=by
 walk_at "w9"
def Fs(P:Params)(os:OsState)(D:Obj):SharedT:=⟨treeOf ((((fin P D).take 437).set 3 (fv ((e1 P "__name__" 165 fe)::((ns P).drop 1).take 66) 67)).set 12 (cW (tb.take 108))),437,{},#[],{},931,os⟩
theorem YV(w)(os)(D):segRunT treeTable p w 11 ann 1 238 (Ft w.2 os D) (piecesOf ((body.drop 63).take 2) env cd ⟨171,0,213,105⟩ B)=some (.next,Fs w.2 os D,cd,⟨215,0,221,24⟩):=by
 walk_at "w9"
def Fq(P:Params)(os:OsState)(D:Obj):SharedT:=⟨treeOf ((((fin P D).take 557).set 3 (fv ((e1 P "__name__" 165 fe)::((ns P).drop 1).take 67) 68)).set 12 (cW (tb.take 111))),557,{},#[],{},1101,os⟩
theorem YU(w)(os)(D):segRunT treeTable p w 11 ann 1 718 (Fs w.2 os D) (piecesOf ((body.drop 65).take 1) env cd ⟨215,0,221,24⟩ B)=some (.next,Fq w.2 os D,cd,⟨222,0,303,37⟩):=by
 walk_at "w9"
def Fp(P:Params)(os:OsState)(D:Obj):SharedT:=⟨treeOf ((((fin P D).take 564).set 3 (fv ((e1 P "__name__" 165 cH)::((ns P).drop 1).take 68) 69)).set 12 (cW (tb.take 114))),564,{},#[],{},1115,os⟩
theorem YT(w)(os)(D):segRunT treeTable p w 11 ann 1 44 (Fq w.2 os D) (piecesOf ((body.drop 66).take 2) env cd ⟨222,0,303,37⟩ B)=some (.next,Fp w.2 os D,cd,⟨305,0,307,78⟩):=by
 walk_at "w9"
def Fo(P:Params)(os:OsState)(D:Obj):SharedT:=⟨treeOf ((((fin P D).take 772).set 3 (fv ((e1 P "__name__" 165 cH)::((ns P).drop 1).take 69) 70)).set 12 (cW (tb.take 117))),772,{},#[],{},1437,os⟩
theorem YS(w)(os)(D):segRunT treeTable p w 11 ann 1 1162 (Fp w.2 os D) (piecesOf ((body.drop 68).take 1) env cd ⟨305,0,307,78⟩ B)=some (.next,Fo w.2 os D,cd,⟨308,0,477,19⟩):=by
 walk_at "w9"
def Fn(P:Params)(os:OsState)(D:Obj):SharedT:=⟨treeOf ((((fin P D).take 848).set 3 (fv ((ns P).take 82) 82)).set 12 (cW (tb.take 153))),848,{},#[],{},1536,os⟩
theorem YR(w)(os)(D):segRunT treeTable p w 11 ann 1 363 (Fo w.2 os D) (piecesOf ((body.drop 69).take 13) env cd ⟨308,0,477,19⟩ B)=some (.next,Fn w.2 os D,cd,⟨548,0,552,109⟩):=by
 walk_at "w9"
def Fl(P:Params)(os:OsState)(D:Obj):SharedT:=⟨treeOf ((fin P D).take 855),855,{},#[],{},1558,os⟩
theorem YQ(w)(os)(D):segRunT treeTable p w 11 ann 1 45 (Fn w.2 os D) (piecesOf ((body.drop 82).take 1) env cd ⟨548,0,552,109⟩ B)=some (.next,Fl w.2 os D,cd,⟨553,0,576,38⟩):=by
 walk_at "w9"
def TF:BT:=(Fl P default (DD P)).tree
def H1:Heap:=absHeap (TF P) 855 {}
theorem VG:body=((body.drop 0).take 22)++(((body.drop 22).take 10)++(((body.drop 32).take 5)++(((body.drop 37).take 1)++(((body.drop 38).take 1)++(((body.drop 39).take 9)++(((body.drop 48).take 6)++([st]++(((body.drop 55).take 5)++(((body.drop 60).take 1)++(((body.drop 61).take 1)++(((body.drop 62).take 1)++(((body.drop 63).take 2)++(((body.drop 65).take 1)++(((body.drop 66).take 2)++(((body.drop 68).take 1)++(((body.drop 69).take 13)++(((body.drop 82).take 1)++ []))))))))))))))))):=by kernel_rfl
theorem run_eq(w:World)(os:OsState):topRun treeTable p w 11 ann (12+(1+(391+(315+(362+(214+(214+(388+(170+(11783+(118+(395+(10+(480+(238+(718+(44+(1162+(363+(45+2)))))))))))))))))))) ⟨boot_heap w.2,#[],boot_drawn,boot_toks,os⟩ (topStub p)=some ⟨H1 w.2,#[],{},1558,os⟩:=by
 refine go_top (WM w os) (piece_block (Ui w os) ?_);show topRun treeTable p w 11 ann _ _ (restOf body env cd q0 B)=_;rw[VG];refine piece_app (segRun_of (OE w os)) ?_;refine piece_app (segRun_of (OD w os)) ?_;refine piece_app (segRun_of (OC w os)) ?_;refine piece_app (segRun_of (OB w os)) ?_;refine piece_app (segRun_of (NS w os)) ?_;refine piece_app (segRun_of (NR w os)) ?_;refine piece_app (segRun_of (NQ w os)) ?_;refine piece_app (segRun_of (NP w os)) ?_;refine piece_app (segRun_of (NO w os _)) ?_;refine piece_app (segRun_of (NM w os _)) ?_;refine piece_app (segRun_of (YX w os _)) ?_;refine piece_app (segRun_of (YW w os _)) ?_;refine piece_app (segRun_of (YV w os _)) ?_;refine piece_app (segRun_of (YU w os _)) ?_;refine piece_app (segRun_of (YT w os _)) ?_;refine piece_app (segRun_of (YS w os _)) ?_;refine piece_app (segRun_of (YR w os _)) ?_;refine piece_app (segRun_of (YQ w os _)) ?_;kernel_rfl
noncomputable def q:Program:=view p [0,2,3,4,5,6,7,8,9,10,11,12,13,14,15,16,17,18,19,20,21,22,23,24,25,26,27,28,29,30,31,32,33,34,36,37,38,39,41,42,43,44,45,46,47,48,49,50,51,52,54,55,56,57,58,60,62,64,65,67,68,70,71,72,73,74,75,76,77,78,79,80,81,82]
noncomputable def loose:aE:=["DEEDS","TIME_AT","LINE_STEPS"]
noncomputable def CN:List Addr:=[2,3,4,6,20,21,22,23,24,30,31,37,38,44,45,51,52,58,59,65,66,72,73,79,80,86,87,93,94,95,98,99,105,106,112,113,119,120,126,127,133,134,140,141,147,148,149,155,156,162,163,164,165,166,167,169,170,171,172,173,174,175,176,177,178,179,180,182,183,184,185,186,187,188,189,190,191,192,194,195,196,197,198,199,200,201,202,203,204,206,207,208,209,210,211,212,213,214,215,216,222,223,224,227,228,234,235,241,242,248,249,250,251,252,253,254,255,256,257,258,259,260,261,262,263,264,265,271,272,278,279,285,286,287,288,289,290,292,293,299,300,306,307,313,314,320,321,327,328,334,335,336,337,338,339,340,341,342,343,344,345,346,348,349,355,356,362,363,369,370,376,377,383,384,390,391,397,398,399,402,403,404,407,408,409,410,411,412,413,414,415,416,417,418,419,421,422,428,429,430,431,432,433,434,435,436,437,438,439,440,442,443,449,450,456,457,463,464,465,468,469,475,476,482,483,489,490,496,497,498,501,502,508,509,515,516,522,523,529,530,536,537,543,544,545,548,549,550,551,552,553,554,555,556,562,563,564,565,566,567,569,570,576,577,583,584,590,591,597,598,604,605,611,612,618,619,625,626,632,633,639,640,646,647,648,651,652,658,659,665,666,672,673,679,680,686,687,693,694,700,701,707,708,714,715,721,722,728,729,735,736,742,743,749,750,756,757,763,764,765,766,767,768,769,770,771,777,778,784,785,791,792,798,799,805,806,812,813,819,820,826,827,828,831,832,833,836,837,838,841,842,843,846,847,853,854]
noncomputable def ks:List Addr:=CN++ [546]
def K0:Frag:=CN.zip (boot_o_2 P::fv ((ns P).take 83) 83::boot_o_4 P::boot_o_6 P::zT.co::zT.fn::Mi::Mj::Ml::wM.co::wM.fn::wN.co::wN.fn::wQ.co::wQ.fn::wR.co::wR.fn::wU.co::wU.fn::wV.co::wV.fn::wW.co::wW.fn::wX.co::wX.fn::wY.co::wY.fn::wZ.co::wZ.fn::v7::EU::ET::ku.co::ku.fn::ky.co::ky.fn::kA.co::kA.fn::o7.co::o7.fn::kC.co::kC.fn::o8.co::o8.fn::o9.co::o9.fn::qN P::kD.co::kD.fn::kE.co::kE.fn::ES::gw::ER P::v7::EO::EN::v7::EM P::DC::EL::EK::EJ::su::gw::EI P::v7::Dc::C9::v7::C0 P::CZ::CY::CW::su::gw::CV P::v7::CU::CT::v7::CS P::DH::DG::DE::su::gw::DB P::v7::DA::Dz::v7::Dy P::Dx::Dw::Dv::Du::Dt::Ds::qP P::kF.co::kF.fn::v7::Dr::Dq::kG.co::kG.fn::kH.co::kH.fn::kI.co::kI.fn::DD P::Dp::Dn::Dm::Dl::Dk::Dj::Di::Dh::Dg::Df::D8::D7::D6::D5::D4::kJ.co::kJ.fn::pb.co::pb.fn::kK.co::kK.fn::v7::gw::D3 P::v7::D2::D1::kL.co::kL.fn::pd.co::pd.fn::pf.co::pf.fn::ph.co::ph.fn::pq.co::pq.fn::pv.co::pv.fn::DZ::DY P::DX::DW::DV::DU::DT::v7::gw::DS P::v7::DR::DQ::kM.co::kM.fn::kN.co::kN.fn::kO.co::kO.fn::kQ.co::kQ.fn::kU.co::kU.fn::kW.co::kW.fn::kX.co::kX.fn::v7::DP::DO::v7::DN::DM::DL::DK P::DJ::DI::Lj::Li::Lh::v7::gw::Lg P::v7::Lf::Le::kY.co::kY.fn::Ld::Lc P::Lb::La::LL::LK::LJ::v7::gw::LI P::v7::LH::LG::kZ.co::kZ.fn::k8.co::k8.fn::k9.co::k9.fn::v7::LF::LD::la.co::la.fn::pw.co::pw.fn::lj.co::lj.fn::lu.co::lu.fn::v7::LC::LB::pz.co::pz.fn::lx.co::lx.fn::lz.co::lz.fn::lA.co::lA.fn::lB.co::lB.fn::lD.co::lD.fn::v7::LA::Lz::Ly::Lx P::Lw::Lv::Lu::Ls::Lr::pA.co::pA.fn::v7::gw::Lq P::v7::Lp::Lo::lE.co::lE.fn::lF.co::lF.fn::lG.co::lG.fn::lH.co::lH.fn::pB.co::pB.fn::lJ.co::lJ.fn::pC.co::pC.fn::pE.co::pE.fn::lK.co::lK.fn::pF.co::pF.fn::pG.co::pG.fn::v7::Ln::Lm::pH.co::pH.fn::pI.co::pI.fn::pJ.co::pJ.fn::lL.co::lL.fn::lM.co::lM.fn::lN.co::lN.fn::lQ.co::lQ.fn::lR.co::lR.fn::lS.co::lS.fn::lU.co::lU.fn::lV.co::lV.fn::lW.co::lW.fn::pK.co::pK.fn::pL.co::pL.fn::pM.co::pM.fn::pN.co::pN.fn::Ll::Lk P::L3::L0::LZ::LY::LX::lX.co::lX.fn::lY.co::lY.fn::lZ.co::lZ.fn::ma.co::ma.fn::mh.co::mh.fn::mj.co::mj.fn::ml.co::ml.fn::mm.co::mm.fn::v7::LW::LU::v7::LS::LQ::v7::LP::LO::v7::LN::LM::mn.co::mn.fn::[])
def K:Frag:=K0 P++ [(546,v8)]
theorem iw(P:Params):ks=(K P).map (·.1):=by kernel_rfl
def Hk:Hook:=kHook K ks iw
def Xt(s:Shared):Bool:=xlAt q [] s&&recOk [] s
def NN:Nat:=1000000
theorem size_eq(w:World):((boot_heap w.2).isNs mainGlobals&&(#[]:Array GenState).size==0,(boot_heap w.2).objs.size,(boot_heap w.2).nsMap mainGlobals "__annotations__")=(true,11,ann):=by kernel_rfl
theorem MY:opening p=plainProg p.main.scope.names:=by kernel_rfl
theorem MZ(s:Shared):fenceModules? p s=some s:=by kernel_rfl
theorem ZD(w:World)(os:OsState):(staticsOk (importedModules p.main.body) (boot_heap w.2) (H1 w.2)&&namesBound p (H1 w.2)&&gensDone ⟨H1 w.2,#[],{},1558,os⟩&&laidKept (boot_heap w.2) (H1 w.2))=true:=by kernel_rfl
theorem MD(w:World)(os:OsState):PyProof.Rows.seen (List.map (λx=>x.name) (recsOf q)) (ownsOf q) [] ⟨H1 w.2,#[],{},1558,os⟩=expectedOf q:=by rw[PySem.W.Fast.te5160383126252970620];kernel_rfl
theorem ME(w:World)(os:OsState):(H1 w.2).bltView=bltViewBooted:=by kernel_rfl
theorem MF(w:World)(os:OsState):(H1 w.2).keysOk (looseW q loose) (List.map (λx=>x.name) (recsOf q)) (List.map (λx=>x.fst) (litsOf q)) (List.map (λx=>x.name) (clssOf q (looseW q loose)))=true:=by rw[PySem.W.Fast.te10880121769531294198];kernel_rfl
theorem MG(w:World)(os:OsState):(H1 w.2).accountedOkI (importedModules p.main.body)=true:=by rw[PySem.W.Fast.te14722251495701143533];kernel_rfl
theorem MH(w:World)(os:OsState):((H1 w.2).isNs mainGlobals&&(H1 w.2).isNs builtinsNs)=true:=by kernel_rfl
theorem MI(w:World)(os:OsState):tablesOk q (H1 w.2)=true:=by rw[PySem.W.Fast.te10994771534591457954];kernel_rfl
theorem MJ(w:World)(os:OsState):Xt ⟨H1 w.2,#[],{},1558,os⟩=true:=by kernel_rfl
theorem MK(w:World)(os:OsState):tabsOk q ⟨H1 w.2,#[],{},1558,os⟩=true:=by rw[PySem.W.Fast.te479339242167458305];kernel_rfl
theorem ML(w:World)(os:OsState):pinSeenD q (drecsOf q) ⟨H1 w.2,#[],{},1558,os⟩=pinGoodD (drecsOf q):=by kernel_rfl
theorem MM(w:World)(os:OsState):plainSeenE q (looseW q loose) ⟨H1 w.2,#[],{},1558,os⟩=plainGoodE q (looseW q loose):=by rw[PySem.W.Fast.te2386780881361962483];kernel_rfl
theorem MN(w:World)(os:OsState):plainSeenD q loose ⟨H1 w.2,#[],{},1558,os⟩=plainGoodD q loose:=by rw[PySem.W.Fast.te11698064438423848299];kernel_rfl
theorem MO(w:World)(os:OsState):wideSeen q ⟨H1 w.2,#[],{},1558,os⟩=wideGood q:=by rw[PySem.W.Fast.te7317090234206586261];kernel_rfl
theorem MP(w:World)(os:OsState):clsSeenW q loose ⟨H1 w.2,#[],{},1558,os⟩=clsGoodW q loose:=by rw[PySem.W.Fast.te7369524293546568484];kernel_rfl
theorem ZC(w:World)(os):openSeen q loose (importedModules p.main.body) Xt true ⟨H1 w.2,#[],{},1558,os⟩=openGood q loose:=
 Vd (MD w os) (ME w os) (MF w os) (MG w os) (MH w os) (MI w os) (MJ w os) (MK w os) (ML w os) (MM w os) (MN w os) (MO w os) (MP w os)
theorem ZA(w:World)(os:OsState):Hk.obs ⟨H1 w.2,#[],{},1558,os⟩=Hk.val w:=by kernel_rfl
theorem left:LeftO p q loose Xt Hk.obs Hk.val NN:=
 LeftO.of_pieces (H₀:=boot_heap) (H₁:=H1) (gs₀:=#[]) (gs₁:=#[]) (d₀:=boot_drawn) (d₁:={}) (k₀:=boot_toks) (k₁:=1558) (m₀:=11) (ann:=ann) (M:=12+(1+(391+(315+(362+(214+(214+(388+(170+(11783+(118+(395+(10+(480+(238+(718+(44+(1162+(363+(45+2)))))))))))))))))))) (boot_open MY (by decide) MZ) size_eq run_eq (by decide)
  λw=>funext λos=>Prod.ext (ZD w os) (Prod.ext (ZC w os) (ZA w os))
end
end H09
namespace R
open PySem PySem.Spec PyProof.Rows L2
section
variable {Γ:G}{σ:bD}{M:RM}{Q:ak}{D:RD}{a b c d e t l h o k r it:T}{i n:Nat}{QB:Bool->RM->Prop}{QA:LR->RM->Prop}{QI:LR->(RM->Prop)->(RM->RM)->RM->Prop}{QP:Option Int->RM->Prop}
def Aa(o:Option (Option RV))(Q:RV->Prop):Prop:=match o with|some (some v)=>Q v|_=>False
theorem qoT{v:RV}{Q:RV->Prop}:Aa (some (some v)) Q=Q v:=rfl
theorem t_v:(tr Γ (.v i)).E σ M Q=Aa σ[i]? (λv=>Q v M):=by
 show qC i σ M Q=_;unfold qC Aa;rfl
theorem t_i{n:Int}:(tr Γ (.i n)).E σ M Q=Q (.int n) M:=rfl
theorem t_s{x:Str}:(tr Γ (.s x)).E σ M Q=Q (.str x) M:=rfl
theorem t_b{x:Bool}:(tr Γ (.b x)).E σ M Q=Q (.bl x) M:=rfl
theorem t_n:(tr Γ .n).E σ M Q=Q .aq M:=rfl
theorem oB{x:Str}{i:Int}(h:Γ.S.gi.lookup x=some i):(tr Γ (.g x)).E σ M Q=Q (.int i) M:=by
 show(match Γ.S.gi.lookup x with|some i=>rC (.int i)|none=>ji) σ M Q=_
 rw[h];rfl
theorem qCY{x:String}:(tr Γ (.ty x)).E σ M Q=Q (.ty x) M:=rfl
theorem qC7{o:Operator}:(tr Γ (.op o a b)).E σ M Q=(tr Γ a).E σ M λx M1=>(tr Γ b).E σ M1 λy f=>iy o x y f Q:=rfl
theorem qDq{o:CmpOp}:(tr Γ (.cm o a b)).E σ M Q=(tr Γ a).E σ M λx M1=>(tr Γ b).E σ M1 λy f=>cU o x y f Q:=rfl
def kB(Q:Bool->RM->Prop):ak:=λv M=>match v with| .bl k=>Q k M|_=>False
theorem eQ{k:Bool}:kB QB (.bl k) M=QB k M:=rfl
noncomputable def zZ (p:CmpOp)(Γ:G)(c:T)(σ:bD)(y:RV)(Q:ak):ak:=λz f=>match z with
 | .bl k=>if k=true then(tr Γ c).E σ f λw g=>cU p y w g Q else Q (.bl false) f
 |_=>False
theorem qe{k:Bool}{A B:Prop}:((k=true->A)/\(k=false->B))=if k=true then A else B:=by cases k<;>simp
theorem qDr{o p:CmpOp}:(tr Γ (.ch o p a b c)).E σ M Q=(tr Γ a).E σ M λx M1=>(tr Γ b).E σ M1 λy f=>cU o x y f (zZ p Γ c σ y Q):=by
 show rS _ _ _ _ _ σ M Q=_;unfold rS zZ;simp only[qe]<;>rfl
theorem T4{p:CmpOp}{y:RV}{k:Bool}:zZ p Γ c σ y Q (.bl k) M=if k=true then(tr Γ c).E σ M λw f=>cU p y w f Q else Q (.bl false) M:=rfl
theorem T_v:(tr Γ (.v i)).T σ M QB=(tr Γ (.v i)).E σ M (kB QB):=rfl
theorem qFq{o:CmpOp}:(tr Γ (.cm o a b)).T σ M QB=(tr Γ (.cm o a b)).E σ M (kB QB):=rfl
theorem qFr:(tr Γ (.ca f a)).T σ M QB=(tr Γ (.ca f a)).E σ M (kB QB):=rfl
theorem qFm:(tr Γ (.me f o a)).T σ M QB=(tr Γ (.me f o a)).E σ M (kB QB):=rfl
theorem qFs:(tr Γ (.bf f a)).T σ M QB=(tr Γ (.bf f a)).E σ M (kB QB):=rfl
theorem qFp:(tr Γ (.dn neg k d)).T σ M QB=(tr Γ (.dn neg k d)).E σ M (kB QB):=rfl
theorem qFo{x:Str}:(tr Γ (.ic neg a x)).T σ M QB=(tr Γ (.ic neg a x)).E σ M (kB QB):=rfl
theorem qFj{x:Str}:(tr Γ (.tn x a)).T σ M QB=(tr Γ (.tn x a)).E σ M (kB QB):=rfl
theorem qFt:(tr Γ (.an a b)).T σ M QB=(tr Γ a).T σ M λc M1=>if c=true then(tr Γ b).T σ M1 QB else QB false M1:=by
 show zf _ _ σ M QB=_;unfold zf;simp only[qe]
theorem qFk:(tr Γ (.or a b)).T σ M QB=(tr Γ a).T σ M λc M1=>if c=true then QB true M1 else(tr Γ b).T σ M1 QB:=by
 show zv _ _ σ M QB=_;unfold zv;simp only[qe]
theorem qFl:(tr Γ (.no a)).T σ M QB=(tr Γ a).T σ M λc M1=>QB (!c) M1:=rfl
def xg(N:RM->Prop)(Q:ak):ak:=λx M=>match x with| .bl c=>if c=true then N M else Q (.bl false) M|_=>False
def z7(N:RM->Prop)(Q:ak):ak:=λx M=>match x with| .bl c=>if c=true then Q (.bl true) M else N M|_=>False
theorem jF{N:RM->Prop}{c:Bool}:xg N Q (.bl c) M=if c=true then N M else Q (.bl false) M:=rfl
theorem T6{N:RM->Prop}{c:Bool}:z7 N Q (.bl c) M=if c=true then Q (.bl true) M else N M:=rfl
theorem qDw:(tr Γ (.an a b)).E σ M Q=(tr Γ a).E σ M (xg (λM1=>(tr Γ b).E σ M1 Q) Q):=by
 show yM _ _ σ M Q=_;unfold yM xg;simp only[qe]<;>rfl
theorem qC6:(tr Γ (.or a b)).E σ M Q=(tr Γ a).E σ M (z7 (λM1=>(tr Γ b).E σ M1 Q) Q):=by
 show y8 _ _ σ M Q=_;unfold y8 z7;simp only[qe]<;>rfl
def CK(Q:ak):ak:=λx M=>match x with| .bl c=>Q (.bl (!c)) M|_=>False
theorem quZ{c:Bool}:CK Q (.bl c) M=Q (.bl (!c)) M:=rfl
theorem qC8:(tr Γ (.no a)).E σ M Q=(tr Γ a).E σ M (CK Q):=rfl
theorem qDe:(tr Γ (.ie t a b)).E σ M Q=(tr Γ t).T σ M λc M1=>if c=true then(tr Γ a).E σ M1 Q else(tr Γ b).E σ M1 Q:=by
 show zu _ _ _ σ M Q=_;unfold zu;simp only[qe]
theorem qC0:(tr Γ (.tu a)).E σ M Q=(tr Γ a).A σ M λrs M1=>rs.length<=sizeLine/\Q (.tup rs) M1:=rfl
theorem qDc:(tr Γ (.ll a)).E σ M Q=(tr Γ a).A σ M λrs M1=>rs.length<=sizeLine/\Q (.ls rs) M1:=rfl
theorem qDb:(tr Γ (.lm a)).E σ M Q=(tr Γ a).A σ M λrs M1=>rs.length<=sizeLine/\∀p,M1 p=none->Q (.ref p) (put M1 p (.lst rs)):=rfl
theorem qDh:(tr Γ .e0).A σ M QA=QA [] M:=rfl
theorem qDg:(tr Γ (.ec a r)).A σ M QA=(tr Γ a).E σ M λx M1=>(tr Γ r).A σ M1 λxs M2=>QA (x::xs) M2:=rfl
theorem qDd:(tr Γ (.ix a b)).E σ M Q=(tr Γ a).E σ M λx M1=>(tr Γ b).E σ M1 λy f=>bI x y f Q:=rfl
theorem qC2:(tr Γ (.sl a l h)).E σ M Q=(tr Γ a).E σ M λx M1=>(tr Γ l).P σ M1 λlo M2=>(tr Γ h).P σ M2 λu M3=>oe x lo u M3 Q:=rfl
theorem qC5:(tr Γ .p0).P σ M QP=QP none M:=rfl
def kP(Q:Option Int->RM->Prop):ak:=λx M=>match x with| .int i=>Q (some i) M|_=>False
theorem quY{i:Int}:kP QP (.int i) M=QP (some i) M:=rfl
theorem qC4:(tr Γ (.p1 a)).P σ M QP=(tr Γ a).E σ M (kP QP):=rfl
theorem qDf{c:Nat}{f:Str}:(tr Γ (.fl c f a)).E σ M Q=(tr Γ a).E σ M (q9 (Γ.C c) f Q):=rfl
theorem qDs:(tr Γ (.ca f a)).E σ M Q=(tr Γ a).A σ M λrs M1=>Γ.fn f rs M1 Q:=rfl
theorem cS{f:Nat}{d:FD}(h:Γ.S.fd[f]? =some d):(tr Γ (.me f o a)).E σ M Q=(tr Γ o).E σ M (pT (Γ.C d.cls) d.name (Γ.fn f) (tr Γ a).A σ Q):=by
 show(match Γ.S.fd[f]? with|some d=>qM (Γ.C d.cls) d.name (Γ.fn f) (tr Γ o).E (tr Γ a).A|none=>ji) σ M Q=_
 rw[h];rfl
theorem vR{f:Nat}{d:FD}(h:Γ.S.fd[f]? =some d):(tr Γ (.mk f a)).E σ M Q=(tr Γ a).A σ M λrs M1=>∀x,M1 x=none->Γ.nE f (.ref x::rs) (put M1 x (.ins (Γ.C d.cls) [])) λv g=>v= .aq/\Q (.ref x) g:=by
 show(match Γ.S.fd[f]? with|some d=>sg (Γ.C d.cls) (Γ.nE f) (tr Γ a).A|none=>ji) σ M Q=_
 rw[h];rfl
theorem qDu:(tr Γ (.bf f a)).E σ M Q=(tr Γ a).A σ M λrs M1=>gF f rs M1 Q:=rfl
theorem qDt:(tr Γ (.bt f a)).E σ M Q=(tr Γ a).A σ M λrs M1=>tm f rs M1 Q:=rfl
theorem qDn:(tr Γ (.dg d k)).E σ M Q=(tr Γ d).E σ M λx M1=>(tr Γ k).E σ M1 λy f=>vP Q x y f:=rfl
theorem qDk:(tr Γ (.dn neg k d)).E σ M Q=(tr Γ k).E σ M λy M1=>(tr Γ d).E σ M1 λx f=>zA neg Q x y f:=rfl
theorem qDo:(tr Γ (.d1 d k)).E σ M Q=(tr Γ d).E σ M λx M1=>tL M1 x/\(tr Γ k).E σ M1 λy f=>vw Q x y .aq f:=rfl
theorem qDl:(tr Γ .dk).E σ M Q= ∀p,M p=none->Q (.ref p) (put M p (.dk [])):=rfl
theorem qDj:(tr Γ .dt).E σ M Q= ∀p,M p=none->Q (.ref p) (put M p (.dt [])):=rfl
theorem sA{x:Str}(h:Γ.S.gt.lookup x=some f):(tr Γ (.ic neg a x)).E σ M Q=(tr Γ a).E σ M λx M1=>aF 15 x=true/\Q (.bl (if neg then !inR x (f.map RV.str)else inR x (f.map RV.str))) M1:=by
 show(match Γ.S.gt.lookup x with|some f=>sD neg f (tr Γ a).E|none=>ji) σ M Q=_
 rw[h];rfl
theorem gb:(tr Γ (.se a b)).S D σ M=(tr Γ a).S { D with nx:=(tr Γ b).S D } σ M:=rfl
theorem qDZ:(tr Γ .en).S D σ M=D.nx σ M:=rfl
theorem iC:(tr Γ (.set i a)).S D σ M=(tr Γ a).E σ M λx M1=>D.nx (σ.set i (some x)) M1:=rfl
theorem qDT:(tr Γ (.re a)).S D σ M=(tr Γ a).E σ M D.rt:=rfl
theorem qDW:(tr Γ (.bc t a b)).S D σ M=(tr Γ t).T σ M λc M1=>if c=true then(tr Γ a).S D σ M1 else(tr Γ b).S D σ M1:=by
 show zd _ _ _ D σ M=_;unfold zd;simp only[qe]
theorem qDY:(tr Γ (.ex a)).S D σ M=(tr Γ a).E σ M λ_ M1=>D.nx σ M1:=rfl
theorem qDS{c:Nat}{f:Str}:(tr Γ (.sf c f o a)).S D σ M=(tr Γ a).E σ M λy M1=>(tr Γ o).E σ M1 (rf (Γ.C c) f y (D.nx σ)):=rfl
theorem qD0:(tr Γ (.dp d k a)).S D σ M=(tr Γ a).E σ M λv M1=>(tr Γ d).E σ M1 λx f=>(tr Γ k).E σ f λy g=>tH g x y v (D.nx σ):=rfl
def CM(is:List Nat)(σ:bD)(N:bD->RM->Prop):ak:=λx M=>match x with| .tup xs=>xs.length=is.length/\N (uP σ is xs) M|_=>False
theorem qrG{is:List Nat}:CM is σ N (.tup xs) M=(xs.length=is.length/\N (uP σ is xs) M):=rfl
theorem qDQ{is:List Nat}:(tr Γ (.un is a)).S D σ M=(tr Γ a).E σ M (CM is σ D.nx):=rfl
theorem qp{i j:Int}:iy .Add (.int i) (.int j) M Q=Q (.int (i+j)) M:=rfl
theorem qx5{i j:Int}:iy .Sub (.int i) (.int j) M Q=Q (.int (i-j)) M:=rfl
theorem qE4{i j:Int}:cU .Lt (.int i) (.int j) M Q=Q (.bl (decide (i<j))) M:=rfl
theorem K9{i j:Int}:cU .LtE (.int i) (.int j) M Q=Q (.bl (decide (i<=j))) M:=rfl
theorem Ng{i j:Int}:cU .Gt (.int i) (.int j) M Q=Q (.bl (decide (j<i))) M:=rfl
theorem qE6{i j:Int}:cU .GtE (.int i) (.int j) M Q=Q (.bl (decide (j<=i))) M:=rfl
theorem qE5{x:RV}:cU .Is x .aq M Q=Q (.bl (iN x)) M:=rfl
theorem qss{x:RV}:cU .IsNot x .aq M Q=Q (.bl (!iN x)) M:=rfl
theorem Ke{i j:Int}:cU .Eq (.int i) (.int j) M Q=Q (.bl (i==j)) M:=by
 show(_/\_/\Q (.bl (bh (.int i) (.int j))) M)=_;simp[fP,aF,bh]
theorem Br{i j:Str}:cU .Eq (.str i) (.str j) M Q=Q (.bl (i==j)) M:=by
 show(_/\_/\Q (.bl (bh (.str i) (.str j))) M)=_;simp[fP,aF,bh]
theorem qyV{i j:Int}:cU .NotEq (.int i) (.int j) M Q=Q (.bl (!(i==j))) M:=by
 show(_/\_/\Q (.bl (!bh (.int i) (.int j))) M)=_;simp[fP,aF,bh]
theorem qyU{i j:Str}:cU .NotEq (.str i) (.str j) M Q=Q (.bl (!(i==j))) M:=by
 show(_/\_/\Q (.bl (!bh (.str i) (.str j))) M)=_;simp[fP,aF,bh]
end
section
variable {Γ:G}{σ:bD}{M:RM}{Q:ak}{D:RD}{a b c d e t l h o k r it:T}{i n:Nat}{QB:Bool->RM->Prop}{QA:LR->RM->Prop}{QI:LR->(RM->Prop)->(RM->RM)->RM->Prop}{x:Addr}{f:Str}{C:Addr}{N:RM->Prop}{y v z:RV}
def wO(o:Option α)(Q:α->Prop):Prop:=match o with|some v=>Q v|none=>False
theorem x9{v:α}{Q:α->Prop}:wO (some v) Q=Q v:=rfl
def fO(C:Addr)(f:Str)(Q:ak)(M:RM)(o:Option RO):Prop:=match o with
 |some (.ins C' fs)=>C'=C/\wO (fs.lookup f) λv=>Q v M
 |_=>False
theorem qrN:q9 C f Q (.ref x) M=fO C f Q M (M x):=by
 show(match M x with|some (.ins j g)=>j=C/\(match g.lookup f with|some v=>Q v M|none=>False)|_=>False)=_
 unfold fO;cases M x with
 |none=>rfl
 |some u=>
  cases u<;>first|rfl|skip
  rename_i j g;show(j=C/\(match g.lookup f with|some v=>Q v M|none=>False))=(j=C/\wO (g.lookup f) λv=>Q v M)
  cases g.lookup f<;>rfl
theorem XB:fO C f Q M (some (.ins C fs))=wO (fs.lookup f) λv=>Q v M:=by
 show(C=C/\_)=_;rw[eq_self_iff_true,true_and]
def sO(C:Addr)(f:Str)(y:RV)(N:RM->Prop)(x:Addr)(M:RM)(o:Option RO):Prop:=match o with
 |some (.ins C' fs)=>C'=C/\fs.length<1000/\N (put M x (.ins C (j7 f y fs)))
 |_=>False
theorem qrI:rf C f y N (.ref x) M=sO C f y N x M (M x):=rfl
theorem Wg:sO C f y N x M (some (.ins C fs))=(fs.length<1000/\N (put M x (.ins C (j7 f y fs)))):=by
 show(C=C/\_)=_;rw[eq_self_iff_true,true_and]
def mO(C:Addr)(m:Str)(sp:cu)(t:bX)(σ:bD)(Q:ak)(x:Addr)(M:RM)(o:Option RO):Prop:=match o with
 |some (.ins C' fs)=>C'=C/\fs.lookup m=none/\t σ M λrs g=>sp (.ref x::rs) g Q
 |_=>False
theorem qrK{sp:cu}{t:bX}:pT C m sp t σ Q (.ref x) M=mO C m sp t σ Q x M (M x):=rfl
theorem WB{sp:cu}{t:bX}:mO C m sp t σ Q x M (some (.ins C fs))=(fs.lookup m=none/\t σ M λrs g=>sp (.ref x::rs) g Q):=by
 show(C=C/\_)=_;rw[eq_self_iff_true,true_and]
def gO(Q:ak)(y:RV)(M:RM)(o:Option RO):Prop:=match o.bind (sI . y)with
 |some (some v)=>Q v M
 |_=>False
theorem qnW:vP Q (.ref x) y M=gO Q y M (M x):=rfl
def iO(neg:Bool)(Q:ak)(y:RV)(M:RM)(o:Option RO):Prop:=match o.bind (sI . y)with
 |some r=>Q (.bl (if neg then !r.isSome else r.isSome)) M
 |none=>False
theorem qqv:zA neg Q (.ref x) y M=iO neg Q y M (M x):=rfl
def dO(Q:ak)(y z:RV)(M:RM)(o:Option RO):Prop:=match o.bind (sI . y)with
 |some r=>Q (r.getD z) M
 |none=>False
theorem Qa:vw Q (.ref x) y z M=dO Q y z M (M x):=rfl
def qO(o:Option RO):Prop:=match o with
 |some (.dk _)=>True
 |some (.dt _)=>True
 |some (.fk _)=>True
 |some (.ft _)=>True
 |_=>False
theorem qr5:tL M (.ref x)=qO (M x):=rfl
theorem qxN:qO (some (.dk kvs))=True:=rfl
theorem qxM:qO (some (.dt kvs))=True:=rfl
theorem qyA:gO Q (.int m) M (some (.dk kvs))=wO (lk kvs (.inl m)) λv=>Q v M:=by
 show(match some (lk kvs (.inl m))with|some (some v)=>Q v M|_=>False)=_
 cases lk kvs (.inl m)<;>rfl
theorem qyt:iO neg Q (.int m) M (some (.dk kvs))=Q (.bl (if neg then !(lk kvs (.inl m)).isSome else(lk kvs (.inl m)).isSome)) M:=rfl
theorem qyL:dO Q (.int m) z M (some (.dk kvs))=Q ((lk kvs (.inl m)).getD z) M:=rfl
theorem BN{s:TK}(h:cI y=some s):dO Q y z M (some (.dt kvs))=Q ((lk kvs s).getD z) M:=by
 show(match(cI y).map (lk kvs)with|some r=>Q (r.getD z) M|none=>False)=_
 rw[h];rfl
def pO(y v:RV)(N:RM->Prop)(x:Addr)(M:RM)(o:Option RO):Prop:=match o with
 |some (.dk kvs)=>match fR y with
  |some k=>kvs.length<sizeLine/\N (put M x (.dk (pt kvs k v)))
  |none=>False
 |some (.dt kvs)=>match cI y with
  |some k=>kvs.length<sizeLine/\N (put M x (.dt (pt kvs k v)))
  |none=>False
 |_=>False
noncomputable def xa (y:RV)(N:RM->Prop)(x:Addr)(M:RM):Option RO->Prop
 |some (.dk kvs)=>match fR y with
  |some k=>(lk kvs k).isSome=true/\N (put M x (.dk (dr kvs k)))
  |none=>False
 |some (.dt kvs)=>match cI y with
  |some k=>(lk kvs k).isSome=true/\N (put M x (.dt (dr kvs k)))
  |none=>False
 |_=>False
theorem qsp:q8 M (.ref x) y N=xa y N x M (M x):=rfl
theorem qvn:xa (.int m) N x M (some (.dk kvs))=((lk kvs (.inl m)).isSome=true/\N (put M x (.dk (dr kvs (.inl m))))):=rfl
theorem vf{s:TK}(h:cI y=some s):xa y N x M (some (.dt kvs))=((lk kvs s).isSome=true/\N (put M x (.dt (dr kvs s)))):=by
 unfold xa;simp only[h]
theorem qsl:tH M (.ref x) y v N=pO y v N x M (M x):=rfl
theorem WX:pO (.int m) v N x M (some (.dk kvs))=(kvs.length<sizeLine/\N (put M x (.dk (pt kvs (.inl m) v)))):=rfl
theorem qw{s:TK}(h:cI y=some s):pO y v N x M (some (.dt kvs))=(kvs.length<sizeLine/\N (put M x (.dt (pt kvs s v)))):=by
 show(match cI y with|some k=>kvs.length<sizeLine/\N (put M x (.dt (pt kvs k v)))|none=>False)=_
 rw[h]
def aO(t:bX)(σ:bD)(Q:ak)(x:Addr)(M:RM)(o:Option RO):Prop:=match o with
 |some (.lst _)=>t σ M λrs j=>∃g y,rs= [y]/\j x=some (.lst g)/\g.length<sizeLine/\Q .aq (put j x (.lst (g++ [y])))
 |_=>False
def CG(t:bX)(σ:bD)(Q:ak):ak:=λv M=>match v with
 | .ref x=>aO t σ Q x M (M x)
 |_=>False
theorem qDv:(tr Γ (.ap o a)).E σ M Q=(tr Γ o).E σ M (CG (tr Γ a).A σ Q):=by
 show ze _ _ σ M Q=_;unfold ze;congr 1;funext v M1;cases v<;>try rfl
 rename_i p;show((∃g,M1 p=some (.lst g))/\_)=aO _ _ _ p M1 (M1 p);cases e:M1 p with
 |none=>exact propext ⟨λz=>(by obtain⟨⟨_,z⟩,_⟩:=z;cases z),λz=>z.elim⟩
 |some u=>cases u<;>first|exact propext ⟨λz=>(by obtain⟨⟨_,z⟩,_⟩:=z;cases z),λz=>z.elim⟩|exact propext ⟨λz=>z.2,λz=>⟨⟨_,rfl⟩,z⟩⟩
theorem qrP{t:bX}:CG t σ Q (.ref x) M=aO t σ Q x M (M x):=rfl
theorem qvZ{t:bX}:aO t σ Q x M (some (.lst xs))=t σ M λrs j=>∃g y,rs= [y]/\j x=some (.lst g)/\g.length<sizeLine/\Q .aq (put j x (.lst (g++ [y]))):=rfl
theorem bz:bI (.tup xs) (.int m) M Q=wO (bQ xs m) λv=>Q v M:=by
 show(match bQ xs m with|some v=>Q v M|none=>False)=_
 cases bQ xs m<;>rfl
theorem Vt:bI (.ls xs) (.int m) M Q=wO (bQ xs m) λv=>Q v M:=by
 show(match bQ xs m with|some v=>Q v M|none=>False)=_
 cases bQ xs m<;>rfl
def xO(m:Int)(Q:ak)(M:RM)(o:Option RO):Prop:=match o with
 |some (.lst xs)=>wO (bQ xs m) λv=>Q v M
 |_=>False
theorem qsS:bI (.ref x) (.int m) M Q=xO m Q M (M x):=by
 show(match M x with|some (.lst g)=>(match bQ g m with|some v=>Q v M|none=>False)|_=>False)=_
 unfold xO;cases M x with
 |none=>rfl
 |some u=>
  cases u<;>first|rfl|skip
  rename_i g;show(match bQ g m with|some v=>Q v M|none=>False)=wO (bQ g m) λv=>Q v M
  cases bQ g m<;>rfl
theorem qsU:xO m Q M (some (.lst xs))=wO (bQ xs m) λv=>Q v M:=rfl
theorem qvy{g hi:Option Int}:oe (.tup xs) g hi M Q=Q (.tup (gy xs g hi)) M:=rfl
theorem qyO{g hi:Option Int}:oe (.ls xs) g hi M Q=Q (.ls (gy xs g hi)) M:=rfl
theorem qC9:(tr Γ (.lv md a)).E σ M Q=(tr Γ a).E σ M (tQ md Q):=rfl
def vO(md:Bool)(Q:ak)(M:RM)(o:Option RO):Prop:=wO (o.bind vJ) λxs=>mQ md xs M Q
theorem qrL:tQ md Q (.ref x) M=vO md Q M (M x):=by
 show(match(M x).bind vJ with|some g=>mQ md g M Q|none=>False)=_
 unfold vO;cases(M x).bind vJ<;>rfl
theorem qwE:vO md Q M (some (.dt kvs))=mQ md (kvs.map (·.2)) M Q:=rfl
theorem nT:mQ false xs M Q=Q (.ls xs) M:=rfl
def CL(i j:Nat)(σ:bD)(N:bD->RM->Prop):LR->RM->Prop:=λrs M1=>match rs with
 | [v,w]=>N ((σ.set i (some v)).set j (some w)) M1
 |_=>False
theorem qDV:(tr Γ (.pr i j a)).S D σ M=(tr Γ a).A σ M (CL i j σ D.nx):=rfl
theorem qrJ{j:Nat}{N:bD->RM->Prop}:CL i j σ N [v,y] M=N ((σ.set i (some v)).set j (some y)) M:=rfl
theorem NK{c:Nat}:(tr Γ (.af c f o a)).S D σ M=(tr Γ o).E σ M (tN (Γ.C c) f (tr Γ a).E σ (D.nx σ)):=rfl
theorem qDR:(tr Γ (.sp l k a)).S D σ M=(tr Γ a).E σ M λv M1=>(tr Γ l).E σ M1 λo M2=>(tr Γ k).E σ M2 λi M3=>qx o i v M3 λM4=>D.nx σ M4:=rfl
theorem qDX{tup:Bool}{is:List Nat}:(tr Γ (.fo tup is it b)).S D σ M=(tr Γ it).I σ M λxs ok un M1=>jK (match tup,is with|true,is=>wg is|false,[i]=>kc i|_,_=>λ_ _ _ _=>False) (tr Γ b).S D ok un xs σ M1:=rfl
noncomputable def kS (Q:LR->(RM->Prop)->(RM->RM)->RM->Prop):ak:=λv M1=>match v with
 | .tup xs=>Q xs eM id M1
 | .ls xs=>Q xs eM id M1
 | .ref a=>match M1 a with
  |some (.lst xs)=>Q xs (λM=>M a=some (.lst xs)) id M1
  |_=>False
 |_=>False
theorem qEJ:(tr Γ (.is a)).I σ M QI=(tr Γ a).E σ M (kS QI):=rfl
theorem vi:kS QI (.ls xs) M=QI xs eM id M:=rfl
theorem quX:kS QI (.tup xs) M=QI xs eM id M:=rfl
theorem qEH:(tr Γ (.r1 a)).I σ M QI=(tr Γ a).E σ M λv M1=>vj QI [v] M1:=rfl
theorem qxF:vj QI [.int m] M=(-(2 ^ 62)<=m/\m<2 ^ 62/\QI (nums m.toNat) eM id M):=rfl
theorem qEL:(tr Γ (.ik a)).I σ M QI=(tr Γ a).E σ M (mS true QI):=rfl
theorem qEI:(tr Γ (.iv a)).I σ M QI=(tr Γ a).E σ M (mS false QI):=rfl
theorem qEK:(tr Γ (.im a)).I σ M QI=(tr Γ a).E σ M (sF QI):=rfl
theorem yU{md tup:Bool}:(tr Γ (.cp md tup nm cap it t a)).E σ M Q=(tr Γ it).I σ M λxs ok un M1=>xs.length<sizeLine/\gr (fW tup nm.length) md ok un (tr Γ t).T (tr Γ a).E ((cap.map Prod.fst).map λi=>(σ[i]?).join) xs [] M1 Q:=rfl
theorem vS{md tup:Bool}:(tr Γ (.sc i md tup nm cap it t a)).S D σ M=(tr Γ (.cp md tup nm cap it t a)).E σ M λx M1=>D.nx (σ.set i (some x)) M1:=rfl
theorem jg{un:RM->RM}{tt:ee}{te:ar}{base:List (Option RV)}{Q:ak}(p:RV->Bool)(g:RV->RV)(av:ok M):∀(xs acc:LR),
 (∀x∈xs,∃bs,bd x=some bs/\(∀K:Bool->RM->Prop,K (p x) M->tt (bs.map some++base) M K)/\(p x=true->∀K:ak,K (g x) M->te (bs.map some++base) M K))->
 mQ md (acc++(xs.filter p).map g) (un M) Q->gr bd md ok un tt te base xs acc M Q
 | [],acc,_,h=>⟨av,by simpa using h⟩
 |x::xs,acc,hx,h=>by
  obtain⟨bs,h1,h2,h3⟩:=hx x (.head _);have hx':=λy hy=>hx y (gJ x hy)
  refine⟨av,?_⟩;rw[h1];refine h2 _ ⟨λhp=>h3 hp _ (jg p g av xs _ hx' ?_),λhp=>jg p g av xs _ hx' ?_⟩
  . rw[wx hp,bF]at h
    simpa using h
  . rw[wy (by simp[hp])]at h
    exact h
theorem Ji{g:js}{tb:d9}{ok:RM->Prop}{un:RM->RM}(I:LR->bD->RM->Prop)(av:∀xs σ M,I xs σ M->ok M)(hend:∀σ M,I [] σ M->D.nx σ (un M))
 (hstep:∀x xs σ M (W:LR->bD->RM->Prop),I (x::xs) σ M->(∀σ' M',I xs σ' M'->W xs σ' M')->g x σ M λσ2 M2=>tb { D with nx:=W xs,ct:=W xs,bk:=λσ M=>ok M/\D.nx σ (un M),rt:=λv M=>ok M/\D.rt v (un M) } σ2 M2):∀xs σ M,I xs σ M->jK g tb D ok un xs σ M
 | [],σ,M,h=>⟨av _ _ _ h,hend _ _ h⟩
 |x::xs,σ,M,h=>⟨av _ _ _ h,hstep x xs σ M (λxs=>jK g tb D ok un xs) h λσ' M' h'=>Ji I av hend hstep xs σ' M' h'⟩
theorem qvU{i:Int}:gF "isinstance" [.int i,.ty "int"] M Q=Q (.bl true) M:=rfl
theorem qvV{i:Int}:gF "isinstance" [.int i,.ty "bool"] M Q=Q (.bl false) M:=rfl
theorem qsB{b:Bool}:gF "isinstance" [.bl b,.ty "bool"] M Q=Q (.bl true) M:=rfl
theorem qvT{x:Str}:gF "isinstance" [.str x,.ty "str"] M Q=Q (.bl true) M:=rfl
theorem qvS:gF "isinstance" [.tup xs,.ty "tuple"] M Q=Q (.bl true) M:=rfl
theorem qsy:gF "len" [.tup xs] M Q=Q (.int xs.length) M:=rfl
theorem qsz{x:Str}:gF "len" [.str x] M Q=(x.length<=sizeLine/\Q (.int x.length) M):=rfl
theorem qsA:gF "len" [.ls xs] M Q=Q (.int xs.length) M:=rfl
theorem qvR{i j:Int}:gF "max" [.int i,.int j] M Q=Q (.int (if j > i then j else i)) M:=rfl
theorem J1{bs:List Bool}:gF "all" [.ls (bs.map RV.bl)] M Q=Q (.bl (bs.all id)) M:=by
 refine propext ⟨λh=>?_,λh=>⟨bs,rfl,h⟩⟩
 obtain⟨g,e,h⟩:=h;have e:bs.map RV.bl=g.map RV.bl:=by injection e with e1 _;injection e1
 have:bs=g:=List.map_inj_right (λa b z=>by cases z;rfl)|>.mp e
 subst this;exact h
theorem KQ{a b:Bool}:(if a=true then Q (.bl b) M else Q (.bl false) M)=Q (.bl (a&&b)) M:=by cases a<;>rfl
theorem qDU:(tr Γ .ra).S D σ M=False:=rfl
theorem Oa{ks:aE}:(tr Γ (.dy ks a)).E σ M Q= ∀p,M p=none->yL (ks.zip (tr Γ a).L) σ (put M p (.dk [])) λps M2=>M2 p=some (.dk [])/\Q (.ref p) (put M2 p (.dk ps)):=rfl
theorem Xr{bs:List Bool}:gF "any" [.ls (bs.map RV.bl)] M Q=Q (.bl (bs.any id)) M:=by
 refine propext ⟨λh=>?_,λh=>⟨bs,rfl,h⟩⟩
 obtain⟨g,e,h⟩:=h;have e:bs.map RV.bl=g.map RV.bl:=by injection e with e1 _;injection e1
 have:bs=g:=List.map_inj_right (λa b z=>by cases z;rfl)|>.mp e
 subst this;exact h
theorem qEG:(tr Γ (.st a)).I σ M QI=(tr Γ a).E σ M λv M1=>match v with| .str x=>QI (mE x) eM id M1|_=>False:=rfl
theorem qr1:iN .aq=true:=rfl
theorem qrZ{x:Str}:iN (.str x)=false:=rfl
theorem qr2{i:Int}:iN (.int i)=false:=rfl
theorem qr0:iN (.ref x)=false:=rfl
theorem qrY:iN (.tup xs)=false:=rfl
theorem qvG{x:Str}:cU .Eq .aq (.str x) M Q=Q (.bl false) M:=by
 show(_/\_/\Q (.bl (bh .aq (.str x))) M)=_;simp[fP,aF,bh]
theorem jk{g:Type}{xs:List g}{k:Nat}{v:g}(h:xs[k]? =some v):bQ xs (k:Int)=some v:=by
 have j:k<xs.length:=(ke.mp h).1;have e:f7 xs.length (k:Int)=some k:=by
  unfold f7;simp;omega
 unfold bQ;rw[e];exact h
theorem yV{j:Type}{g:j}{r:List j}:bQ (g::r) 0=some g:=jk (k:=0) rfl
theorem K8{j:Type}{m g:j}{r:List j}:bQ (m::g::r) 1=some g:=jk (k:=1) rfl
theorem K7{j:Type}{m s g:j}{r:List j}:bQ (m::s::g::r) 2=some g:=jk (k:=2) rfl
theorem Nf{j:Type}{m s u g:j}{r:List j}:bQ (m::s::u::g::r) 3=some g:=jk (k:=3) rfl
theorem qFg{j:Type}{m s u w g:j}{r:List j}:bQ (m::s::u::w::g::r) 4=some g:=jk (k:=4) rfl
theorem Nb{j:Type}{m s u w A g:j}{r:List j}:bQ (m::s::u::w::A::g::r) 5=some g:=jk (k:=5) rfl
theorem Na{j:Type}{m s u w A E g:j}{r:List j}:bQ (m::s::u::w::A::E::g::r) 6=some g:=jk (k:=6) rfl
theorem K6{j:Type}{m s u w A E F g:j}{r:List j}:bQ (m::s::u::w::A::E::F::g::r) 7=some g:=jk (k:=7) rfl
theorem z_0:(0<=sizeLine)=True:=eq_true (by decide)
theorem qCz:(0<sizeLine)=True:=eq_true (by decide)
theorem qE3:((0:Nat):Int)=0:=rfl
theorem z_1:(1<=sizeLine)=True:=eq_true (by decide)
theorem qE2:((1:Nat):Int)=1:=rfl
theorem z_2:(2<=sizeLine)=True:=eq_true (by decide)
theorem qE1:((2:Nat):Int)=2:=rfl
theorem z_3:(3<=sizeLine)=True:=eq_true (by decide)
theorem z_4:(4<=sizeLine)=True:=eq_true (by decide)
theorem qE0:((4:Nat):Int)=4:=rfl
theorem z_5:(5<=sizeLine)=True:=eq_true (by decide)
theorem qEZ:((6:Nat):Int)=6:=rfl
theorem z_7:(7<=sizeLine)=True:=eq_true (by decide)
theorem qEY:((7:Nat):Int)=7:=rfl
theorem z_8:(8<=sizeLine)=True:=eq_true (by decide)
theorem qEX:((8:Nat):Int)=8:=rfl
theorem WE{k:Nat}:(((k+1:Nat):Int)==0)=false:=by simp;omega
theorem oo{x:RV}{r:LR}:gy (x::r) (some 1) none=r:=by
 unfold gy;rw[show HT.aQ (x::r).length 0 (some 1)=1 from by show min 1 (r.length+1)=1;omega,HT.jQ]
 simp
def tO(g:Option Key)(kvs:bP)(Q:ak)(M:RM):Prop:=match g with
 |some k=>wO (et kvs k) λv=>Q v M
 |none=>False
theorem qCZ{x:Str}:(tr Γ (.tx x a)).E σ M Q=(tr Γ a).E σ M λy M1=>tO (fR y) (Γ.tb x) Q M1:=by
 show y7 (Γ.tb x) _ σ M Q=_;unfold y7;congr 1;funext y M1;unfold tO wO;generalize fR y=q;cases q with
 |none=>rfl
 |some k=>
  dsimp only;cases et (Γ.tb x) k<;>rfl
theorem qtf{x:Str}:tO (fR (.str x)) kvs Q M=wO (et kvs (.inr x)) λv=>Q v M:=rfl
theorem qC1{x:Str}:(tr Γ (.tn x a)).E σ M Q=(tr Γ a).E σ M (yk (Γ.tb x) Q):=rfl
theorem qrH{x:Str}:yk kvs Q (.str x) M=Q (.bl (!(et kvs (.inr x)).isSome)) M:=rfl
noncomputable def CI (j:List (Addr×cu))(t:bX)(σ:bD)(Q:ak):ak:=λv M1=>match v with
 | .ref f=>∃sp,(f,sp)∈j/\t σ M1 λrs g=>sp rs g Q
 |_=>False
theorem qDp:(tr Γ (.cv i a)).E σ M Q=(tr Γ (.v i)).E σ M (CI Γ.iK (tr Γ a).A σ Q):=rfl
theorem ym{t:bX}:CI iK t σ Q (.ref x) M= ∃sp,(x,sp)∈iK/\t σ M λrs g=>sp rs g Q:=rfl
theorem qDa:(tr Γ (.lr a b)).E σ M Q=(tr Γ a).E σ M λx M1=>(tr Γ b).E σ M1 λy g=>tP Q [x,y] g:=rfl
theorem qrM{i j:Int}:tP Q [.int i,.int j] M=((-1000000<=i/\i<=1000000/\-1000000<=j/\j<=1000000)/\(j-i).toNat<=1000/\Q (.ls (yg i (j-i).toNat)) M):=rfl
theorem qC3{c:Nat}{f:Str}{a:T}:(tr Γ (.sk c f a)).E σ M Q=(tr Γ a).E σ M (z8 (Γ.C c) f Γ.lP Γ.S.lp Γ.S.lq Q):=rfl
theorem qD1:(tr Γ (.dd d k)).S D σ M=(tr Γ d).E σ M λx M1=>(tr Γ k).E σ M1 λy g=>q8 g x y (D.nx σ):=rfl
theorem T5:iy .Add (.ls xs) (.ls ys) M Q=(xs.length+ys.length<=sizeLine/\Q (.ls (xs++ys)) M):=rfl
theorem IV:iy .Add (.tup xs) (.tup ys) M Q=(xs.length+ys.length<=sizeLine/\Q (.tup (xs++ys)) M):=rfl
theorem V8{ns:List Int}(h:M x=some (.dk kvs))(hk:kvs.map (·.1)=ns.map Sum.inl)(j:ns.length<64)(m:∀g:List Int,g.Perm ns->g.Pairwise (. <= ·)->Q (.ls (g.map RV.int)) M):gF "sorted" [.ref x] M Q:=by
 exact⟨x,kvs,ns,rfl,h,hk,j,m⟩
theorem qx8{i j:Int}:iy .Mod (.int i) (.int j) M Q=(0<j/\Q (.int (i % j)) M):=rfl
theorem qx9{i j:Int}:iy .FloorDiv (.int i) (.int j) M Q=((0<j/\j<1073741824)/\Q (.int (i / j)) M):=rfl
theorem qx6{i j:Int}:iy .Pow (.int i) (.int j) M Q=((0<=j/\j<=1000000/\i.natAbs<2 ^ 64)/\Q (.int (i ^ j.toNat)) M):=rfl
theorem qx7{i j:Int}:iy .Mult (.int i) (.int j) M Q=(iI i j/\Q (.int (i*j)) M):=rfl
def lO(k:Int)(v:RV)(N:RM->Prop)(x:Addr)(M:RM)(o:Option RO):Prop:=match o with
 |some (.lst xs)=>wO (f7 xs.length k) λj=>N (put M x (.lst (xs.set j v)))
 |_=>False
theorem qqE:qx (.ref x) (.int m) v M N=lO m v N x M (M x):=by
 show(match M x with|some (.lst g)=>(match f7 g.length m with|some j=>N (put M x (.lst (g.set j v)))|none=>False)|_=>False)=_
 unfold lO;cases M x with
 |none=>rfl
 |some u=>
  cases u<;>first|rfl|skip
  rename_i g;show(match f7 g.length m with|some j=>N (put M x (.lst (g.set j v)))|none=>False)=wO (f7 g.length m) λj=>N (put M x (.lst (g.set j v)))
  cases f7 g.length m<;>rfl
theorem quN:lO m v N x M (some (.lst xs))=wO (f7 xs.length m) λj=>N (put M x (.lst (xs.set j v))):=rfl
theorem qyn:f7 3 0=some 0:=rfl
theorem qym:f7 3 1=some 1:=rfl
theorem qyl:f7 3 2=some 2:=rfl
end
end R
namespace K09
open PySem PySem.Spec PyProof.Rows L2 R
def top(i:Nat):Stmt:=PySem.Challenge.pw_lentgate_k09_strangers_notes_and_the_sie.main.body.getD i (.Pass ⟨0,0,0,0⟩)
section
local macro_rules | `($a ^ $b) => `(T.ec $a $b)
local macro_rules | `($a >=> $b) => `(T.se $a $b)
noncomputable def xI:FD:=⟨0,0,"is_whole",["thing"],["thing"],.re (.an (.bf "isinstance" (.v 0^.ty "int"^.e0)) (.no (.bf "isinstance" (.v 0^.ty "bool"^.e0))))>=>.en⟩
noncomputable def xN:FD:=⟨0,0,"is_house",["thing"],["thing"],.re (.ca 48 (.v 0^.i 0^.g "GREATEST_HOUSE"^.e0))>=>.en⟩
noncomputable def xZ:FD:=⟨0,0,"is_door",["thing"],["thing"],.re (.ca 48 (.v 0^.i 1^.g "GREATEST_DOOR"^.e0))>=>.en⟩
noncomputable def xM:FD:=⟨0,0,"is_place",["thing"],["thing"],.re (.ca 48 (.v 0^.i 0^.g "GREATEST_PLACE"^.e0))>=>.en⟩
noncomputable def xk:FD:=⟨0,0,"is_outer_place",["thing"],["thing"],.re (.ca 48 (.v 0^.i 1^.g "GREATEST_PLACE"^.e0))>=>.en⟩
noncomputable def xK:FD:=⟨0,0,"is_ticks",["thing"],["thing"],.re (.ca 48 (.v 0^.i 0^.g "GREATEST_TICKS"^.e0))>=>.en⟩
noncomputable def rA:FD:=⟨0,0,"is_kind",["thing"],["thing"],.re (.ic false (.v 0) "KINDS")>=>.en⟩
noncomputable def Hl:FD:=⟨0,0,"is_sign",["sign"],["sign","at"],.set 1 (.bf "ord" (.v 0^.e0))>=>.re (.an (.ch .LtE .LtE (.g "FIRST_SIGN") (.v 1) (.g "LAST_SIGN")) (.cm .NotEq (.v 1) (.g "PERCENT_SIGN")))>=>.en⟩
noncomputable def xW:FD:=⟨0,0,"is_text",["thing"],["thing"],.bc (.or (.no (.bf "isinstance" (.v 0^.ty "str"^.e0))) (.cm .Gt (.bf "len" (.v 0^.e0)) (.g "MOST_SIGNS"))) (.re (.b false)>=>.en) .en>=>.re (.bf "all" (.cp false false ["sign"] [] (.st (.v 0)) (.b true) (.ca 7 (.v 0^.e0))^.e0))>=>.en⟩
noncomputable def uN:FD:=⟨0,0,"is_out",["parts"],["parts","kind","house","door","place","far","word","text"],.bc (.cm .NotEq (.bf "len" (.v 0^.e0)) (.i 7)) (.re (.b false)>=>.en) .en>=>.un [1,2,3,4,5,6,7] (.v 0)>=>.re (.an (.ca 1 (.v 2^.e0)) (.an (.ca 2 (.v 3^.e0)) (.an (.ca 3 (.v 4^.e0)) (.an (.ca 2 (.v 5^.e0)) (.ca 49 (.v 1^.v 6^.v 7^.e0))))))>=>.en⟩
noncomputable def qb:FD:=⟨0,0,"is_come",["parts"],["parts","kind","place","far","number","word","text"],.bc (.cm .NotEq (.bf "len" (.v 0^.e0)) (.i 6)) (.re (.b false)>=>.en) .en>=>.un [1,2,3,4,5,6] (.v 0)>=>.re (.an (.ca 4 (.v 2^.e0)) (.an (.ca 2 (.v 3^.e0)) (.an (.ca 2 (.v 4^.e0)) (.ca 49 (.v 1^.v 5^.v 6^.e0)))))>=>.en⟩
noncomputable def uI:FD:=⟨0,0,"is_wait",["parts"],["parts"],.re (.an (.cm .Eq (.bf "len" (.v 0^.e0)) (.i 1)) (.ca 5 (.ix (.v 0) (.i 0)^.e0)))>=>.en⟩
noncomputable def xV:FD:=⟨0,0,"name_of",["thing"],["thing"],.bc (.or (.no (.bf "isinstance" (.v 0^.ty "tuple"^.e0))) (.or (.cm .Eq (.bf "len" (.v 0^.e0)) (.i 0)) (.no (.bf "isinstance" (.ix (.v 0) (.i 0)^.ty "str"^.e0))))) (.re .n>=>.en) .en>=>.re (.ix (.v 0) (.i 0))>=>.en⟩
noncomputable def j0:FD:=⟨0,0,"is_deed",["thing"],["thing","name","has_parts"],.set 1 (.ca 12 (.v 0^.e0))>=>.bc (.tn "DEEDS" (.v 1)) (.re (.b false)>=>.en) .en>=>.set 2 (.tx "DEEDS" (.v 1))>=>.re (.cv 2 (.sl (.v 0) (.p1 (.i 1)) .p0^.e0))>=>.en⟩
noncomputable def xJ:FD:=⟨0,0,"is_times",["thing"],["thing","lives"],.bc (.or (.no (.bf "isinstance" (.v 0^.ty "tuple"^.e0))) (.cm .NotEq (.bf "len" (.v 0^.e0)) (.i 4))) (.re (.b false)>=>.en) .en>=>.set 1 (.bf "all" (.cp false false ["time"] [] (.is (.sl (.v 0) .p0 (.p1 (.i 3)))) (.b true) (.ca 48 (.v 0^.i 1^.g "GREATEST_TIME"^.e0))^.e0))>=>.re (.an (.v 1) (.ca 48 (.ix (.v 0) (.i 3)^.i 0^.g "GREATEST_TIME"^.e0)))>=>.en⟩
noncomputable def xY:FD:=⟨0,0,"is_form",["thing"],["thing","low","high","lending","sieve","pick","most","renew","times"],.bc (.or (.no (.bf "isinstance" (.v 0^.ty "tuple"^.e0))) (.cm .NotEq (.bf "len" (.v 0^.e0)) (.i 8))) (.re (.b false)>=>.en) .en>=>.un [1,2,3,4,5,6,7,8] (.v 0)>=>.bc (.or (.ic true (.v 3) "LENDINGS") (.or (.ic true (.v 4) "SIEVES") (.ic true (.v 5) "PICKS"))) (.re (.b false)>=>.en) .en>=>.bc (.or (.no (.ca 48 (.v 6^.i 1^.g "GREATEST_MOST"^.e0))) (.no (.bf "isinstance" (.v 7^.ty "bool"^.e0)))) (.re (.b false)>=>.en) .en>=>.re (.an (.ca 26 (.v 1^.v 2^.e0)) (.ca 14 (.v 8^.e0)))>=>.en⟩
noncomputable def uD:FD:=⟨2,0,"__init__",["self"],["self"],.sf 0 "many_told" (.v 0) (.i 0)>=>.sf 0 "standing" (.v 0) .dk>=>.en⟩
noncomputable def ue:FD:=⟨1,1,"from_mark",["self"],["self"],.re (.op .Add (.lr (.fl 1 "mark" (.v 0)) (.op .Add (.fl 1 "high" (.v 0)) (.i 1))) (.lr (.fl 1 "low" (.v 0)) (.fl 1 "mark" (.v 0))))>=>.en⟩
noncomputable def t6:FD:=⟨1,3,"living",["self"],["self"],.re (.lv false (.fl 3 "by_inner" (.v 0)))>=>.en⟩
noncomputable def uy:FD:=⟨1,4,"moment",["self"],["self"],.re (.fl 3 "now" (.fl 4 "table" (.v 0)))>=>.en⟩
noncomputable def xC:FD:=⟨0,0,"_law_whole",["found"],["found"],.re (.an (.bf "isinstance" (.v 0^.ty "int"^.e0)) (.no (.bf "isinstance" (.v 0^.ty "bool"^.e0))))>=>.en⟩
noncomputable def FG:T:=.re (.op .Add (.sl (.v 2) .p0 (.p1 (.i 7))) (.tu (.op .Add (.tu (.op .Add (.i 1) (.ca 45 (.v 0^.i 12^.e0))^.e0)) (.sl (.ix (.v 2) (.i 7)) (.p1 (.i 1)) .p0)^.e0)))>=>.en
def FH:T:=.set 2 (.ca 63 (.v 0^.v 1^.ix (.ll (.s "all"^.s "place"^.s "talk"^.e0)) (.ca 45 (.v 0^.i 3^.e0))^.e0))>=>FG
def FI:T:=.set 1 (.ix (.ll (.s "door"^.s "place"^.s "talk"^.e0)) (.ca 45 (.v 0^.i 3^.e0)))>=>FH
noncomputable def xG:FD:=⟨0,0,"_law_a_form",["bag"],["bag","lending","form"],FI⟩
noncomputable def xE:FD:=⟨0,0,"_law_living",["own"],["own"],.re (.cp false false ["inner"] [(0,"own")] (.ik (.dg (.v 0) (.s "ends"))) (.cm .Gt (.ix (.dg (.dg (.v 1) (.s "ends")) (.v 0)) (.i 1)) (.dg (.v 1) (.s "now"))) (.v 0))>=>.en⟩
noncomputable def Fy:T:=.re (.tu (.v 1^.ll (.v 2^.op .Add (.v 2) (.i 1)^.op .Add (.i 1) (.ca 45 (.v 0^.i 1000000^.e0))^.e0)^.ll (.v 3^.op .Add (.v 3) (.i 1)^.op .Add (.i 1) (.ca 45 (.v 0^.i 9999^.e0))^.e0)^.e0))>=>.en
def FC:T:=.set 3 (.op .Add (.i 1) (.ca 45 (.v 0^.i 9990^.e0)))>=>Fy
def FE:T:=.set 2 (.op .Add (.i 1) (.ca 45 (.v 0^.i 999990^.e0)))>=>FC
noncomputable def FF:T:=.sc 1 false false ["k"] [(0,"bag")] (.r1 (.i 3)) (.b true) (.tu (.s "note"^.ca 45 (.v 1^.i 100^.e0)^.op .Add (.i 1) (.ca 45 (.v 1^.i 9999^.e0))^.e0))>=>FE
noncomputable def xD:FD:=⟨0,0,"_law_a_world",["bag"],["bag","doors","place","far"],FF⟩
noncomputable def B8:T:=.re (.cm .Eq (.me 19 (.v 2) .e0) (.dg (.v 3) (.s "now")))>=>.en
noncomputable def AG:T:=.bc (.no (.ca 68 (.v 3^.v 2^.v 1^.op .Add (.ix (.v 6) (.ca 45 (.v 9^.i 3^.e0))) (.tu (.v 11^.v 12^.e0))^.e0))) (.re (.b false)>=>.en) .en>=>.en
noncomputable def FU:T:=.bc (.no (.ca 73 (.v 3^.v 2^.v 1^.v 14^.v 11^.v 12^.ix (.v 13) (.ca 45 (.v 9^.bf "len" (.v 13^.e0)^.e0))^.e0))) (.re (.b false)>=>.en) .en>=>.en
noncomputable def An:T:=.set 14 (.ix (.ll (.s "note"^.s "note"^.s "note"^.s "line"^.e0)) (.ca 45 (.v 9^.i 4^.e0)))>=>FU
noncomputable def FR:T:=.ex (.me 40 (.v 2) (.v 15^.e0))>=>.en
def FT:T:=.dp (.v 3) (.s "now") (.op .Add (.dg (.v 3) (.s "now")) (.v 15))>=>FR
noncomputable def Am:T:=.set 15 (.op .Add (.i 1) (.ca 45 (.v 9^.i 8^.e0)))>=>FT
noncomputable def Hg:T:=.bc (.cm .Lt (.v 10) (.i 8)) An Am>=>.en
noncomputable def yD:T:=.bc (.or (.cm .Lt (.v 10) (.i 4)) (.cm .Eq (.v 5) (.i 0))) AG Hg>=>.en
noncomputable def J2:T:=.set 13 (.op .Add (.bf "sorted" (.dg (.v 3) (.s "had")^.e0)) (.ll (.op .Add (.ix (.v 1) (.i 0)) (.ca 45 (.v 9^.i 200^.e0))^.e0)))>=>yD
noncomputable def J3:T:=.set 12 (.ix (.v 8) (.ca 45 (.v 9^.i 3^.e0)))>=>J2
def J4:T:=.set 11 (.ix (.v 7) (.ca 45 (.v 9^.i 3^.e0)))>=>J3
noncomputable def J5:T:=.set 10 (.ca 45 (.v 9^.i 9^.e0))>=>J4
noncomputable def Bn:T:=.set 9 (.ca 46 (.v 4^.v 5^.e0))>=>J5
noncomputable def B9:T:=.fo false [5] (.r1 (.bf "max" (.i 8^.bf "len" (.v 4^.e0)^.e0))) Bn>=>B8
noncomputable def zt:T:=.set 4 (.op .Add (.sl (.v 0) (.p1 (.i 2)) (.p1 (.i 62))) (.ll (.i 0^.e0)))>=>B9
noncomputable def Ca:T:=.set 3 (.dy ["now","ends","had"] (.i 0^.dt^.dk^.e0))>=>zt
def Fg:T:=.set 2 (.mk 38 (.v 1^.e0))>=>Ca
noncomputable def Fh:T:=.un [6,7,8] (.ca 23 (.ca 44 (.ca 43 (.v 0^.i 1^.e0)^.i 0^.e0)^.e0))>=>Fg
noncomputable def Fi:T:=.set 1 (.ca 21 (.ca 44 (.ca 43 (.v 0^.i 0^.e0)^.i 0^.e0)^.e0))>=>Fh
noncomputable def r8:FD:=⟨0,0,"law",["script"],["script","form","gate","own","cells","k","doors","places","fars","bag","way","place","far","numbers","kind","ticks"],Fi⟩
noncomputable def rm:FD:=⟨0,0,"is_word",["kind","thing"],["kind","thing"],.bc (.cm .Eq (.v 0) (.s "note")) (.re (.ic false (.v 1) "NOTE_WORDS")>=>.en) .en>=>.re (.ic false (.v 1) "LINE_WORDS")>=>.en⟩
noncomputable def xX:FD:=⟨0,0,"is_pool",["low","high"],["low","high"],.re (.an (.ca 2 (.v 0^.e0)) (.an (.ca 2 (.v 1^.e0)) (.ch .LtE .LtE (.v 0) (.v 1) (.op .Add (.v 0) (.g "WIDEST_STEP")))))>=>.en⟩
noncomputable def xq:FD:=⟨0,0,"holder_of",["form","inner"],["form","inner","lending","kind","house","door","place","far"],.un [3,4,5,6,7] (.v 1)>=>.set 2 (.ix (.v 0) (.i 2))>=>.bc (.cm .Eq (.v 2) (.s "door")) (.re (.tu (.v 3^.v 4^.v 5^.n^.n^.e0))>=>.en) .en>=>.bc (.cm .Eq (.v 2) (.s "place")) (.re (.tu (.v 3^.v 4^.v 5^.v 6^.n^.e0))>=>.en) .en>=>.re (.tu (.v 3^.v 4^.v 5^.v 6^.v 7^.e0))>=>.en⟩
noncomputable def xU:FD:=⟨0,0,"time_of",["form","state"],["form","state","times"],.set 2 (.ix (.v 0) (.i 7))>=>.re (.ix (.v 2) (.tx "TIME_AT" (.v 1)))>=>.en⟩
noncomputable def xy:FD:=⟨0,0,"note_state",["state","word"],["state","word"],.bc (.an (.cm .Eq (.v 1) (.s "say")) (.or (.cm .Is (.v 0) .n) (.cm .Eq (.v 0) (.s "note")))) (.re (.s "note")>=>.en) .en>=>.re .n>=>.en⟩
noncomputable def uu:FD:=⟨1,1,"has",["self","number"],["self","number"],.re (.ch .LtE .LtE (.fl 1 "low" (.v 0)) (.v 1) (.fl 1 "high" (.v 0)))>=>.en⟩
noncomputable def ui:FD:=⟨1,1,"take",["self","number"],["self","number"],.dp (.fl 1 "taken" (.v 0)) (.v 1) (.b true)>=>.bc (.dn false (.v 1) (.fl 1 "until" (.v 0))) (.dd (.fl 1 "until" (.v 0)) (.v 1)>=>.en) .en>=>.sf 1 "mark" (.v 0) (.ie (.cm .Eq (.v 1) (.fl 1 "high" (.v 0))) (.fl 1 "low" (.v 0)) (.op .Add (.v 1) (.i 1)))>=>.en⟩
noncomputable def uB:FD:=⟨2,3,"__init__",["self","form"],["self","form"],.sf 3 "form" (.v 0) (.v 1)>=>.sf 3 "pool" (.v 0) (.mk 50 (.ix (.v 1) (.i 0)^.ix (.v 1) (.i 1)^.e0))>=>.sf 3 "now" (.v 0) (.i 0)>=>.sf 3 "by_inner" (.v 0) .dt>=>.sf 3 "by_number" (.v 0) .dk>=>.sf 3 "holders" (.v 0) .dk>=>.sf 3 "numbers" (.v 0) .dt>=>.en⟩
noncomputable def uc:FD:=⟨1,3,"of_inner",["self","inner"],["self","inner"],.re (.d1 (.fl 3 "by_inner" (.v 0)) (.v 1))>=>.en⟩
noncomputable def t9:FD:=⟨1,3,"number_of",["self","inner"],["self","inner"],.re (.d1 (.fl 3 "numbers" (.v 0)) (.ca 27 (.fl 3 "form" (.v 0)^.v 1^.e0)))>=>.en⟩
noncomputable def ua:FD:=⟨1,3,"holder_at",["self","number"],["self","number"],.re (.d1 (.fl 3 "holders" (.v 0)) (.v 1))>=>.en⟩
noncomputable def uC:FD:=⟨1,3,"held",["self","house"],["self","house"],.re (.cp false true ["number","holder"] [(1,"house")] (.im (.fl 3 "holders" (.v 0))) (.cm .Eq (.ix (.v 1) (.i 1)) (.v 2)) (.v 0))>=>.en⟩
noncomputable def aI:FD:=⟨1,3,"pass_by",["self","ticks"],["self","ticks","ended","talk"],.af 3 "now" (.v 0) (.v 1)>=>.sc 2 false false ["talk"] [(0,"self")] (.is (.me 18 (.v 0) .e0)) (.cm .LtE (.fl 2 "over" (.v 0)) (.fl 3 "now" (.v 1))) (.v 0)>=>.fo false [3] (.is (.sk 2 "over" (.v 2))) (.ex (.me 57 (.v 0) (.v 3^.fl 2 "over" (.v 3)^.e0))>=>.en)>=>.en⟩
noncomputable def uq:FD:=⟨2,4,"__init__",["self","form"],["self","form"],.bc (.no (.ca 15 (.v 1^.e0))) (.ra>=>.en) .en>=>.sf 4 "form" (.v 0) (.v 1)>=>.sf 4 "table" (.v 0) (.mk 32 (.v 1^.e0))>=>.sf 4 "strangers" (.v 0) (.mk 16 .e0)>=>.sf 4 "done" (.v 0) (.lm .e0)>=>.sf 4 "wish" (.v 0) .n>=>.en⟩
noncomputable def jC:FD:=⟨1,4,"deed",["self","deed"],["self","deed","answer"],.bc (.no (.ca 13 (.v 1^.e0))) (.ra>=>.en) .en>=>.set 2 (.me 58 (.v 0) (.ix (.v 1) (.i 0)^.sl (.v 1) (.p1 (.i 1)) .p0^.e0))>=>.ex (.ap (.fl 4 "done" (.v 0)) (.tu (.v 1^.v 2^.e0)^.e0))>=>.re (.v 2)>=>.en⟩
noncomputable def um:FD:=⟨1,4,"wait",["self","ticks"],["self","ticks"],.re (.me 39 (.v 0) (.tu (.s "wait"^.v 1^.e0)^.e0))>=>.en⟩
noncomputable def uo:FD:=⟨1,4,"sent",["self","parts"],["self","parts","answer","number","kind","house","door","place","far","word","text"],.un [4,5,6,7,8,9,10] (.v 1)>=>.set 2 (.me 59 (.v 0) (.tu (.v 4^.v 5^.v 6^.v 7^.v 8^.e0)^.v 9^.e0))>=>.bc (.or (.cm .NotEq (.v 7) (.i 0)) (.cm .Eq (.ix (.v 2) (.i 0)) (.s "kept"))) (.re (.v 2)>=>.en) .en>=>.ra⟩
noncomputable def ub:FD:=⟨1,4,"picked_for",["self","door"],["self","door","pool","now"],.pr 2 3 (.fl 3 "pool" (.fl 4 "table" (.v 0))^.fl 3 "now" (.fl 4 "table" (.v 0))^.e0)>=>.bc (.an (.cm .IsNot (.fl 4 "wish" (.v 0)) .n) (.me 51 (.v 2) (.fl 4 "wish" (.v 0)^.v 3^.e0))) (.re (.fl 4 "wish" (.v 0))>=>.en) .en>=>.re (.me 65 (.v 2) (.ix (.fl 4 "form" (.v 0)) (.i 4)^.v 1^.v 3^.e0))>=>.en⟩
noncomputable def xu:FD:=⟨0,0,"_law_cell",["script","k"],["script","k"],.bc (.cm .Lt (.v 1) (.bf "len" (.v 0^.e0))) (.re (.ix (.v 0) (.v 1))>=>.en) .en>=>.re (.i 0)>=>.en⟩
noncomputable def xt:FD:=⟨0,0,"_law_well",["cell","turn"],["cell","turn"],.bc (.cm .GtE (.v 0) (.op .Pow (.i 10) (.i 18))) (.re (.lm (.op .Sub (.v 0) (.op .Pow (.i 10) (.i 18))^.op .Mod (.v 0) (.i 2305843009213693951)^.v 1^.e0))>=>.en) .en>=>.re (.lm (.i 0^.op .Mod (.v 0) (.i 2305843009213693951)^.v 1^.e0))>=>.en⟩
noncomputable def rD:FD:=⟨0,0,"_law_take",["bag","many"],["bag","many","p","n","found"],.bc (.cm .Gt (.ix (.v 0) (.i 0)) (.i 0)) (.set 4 (.op .Mod (.ix (.v 0) (.i 0)) (.v 1))>=>.sp (.v 0) (.i 0) (.op .FloorDiv (.ix (.v 0) (.i 0)) (.v 1))>=>.re (.v 4)>=>.en) .en>=>.sp (.v 0) (.i 2) (.op .Add (.ix (.v 0) (.i 2)) (.i 1))>=>.set 2 (.i 2305843009213693951)>=>.set 3 (.op .Mod (.op .Add (.ix (.v 0) (.i 1)) (.op .Mult (.i 1000003) (.ix (.v 0) (.i 2)))) (.v 2))>=>.set 3 (.op .Mod (.op .Add (.op .Add (.op .Mult (.v 3) (.v 3)) (.op .Mult (.i 7919) (.op .Pow (.ix (.v 0) (.i 2)) (.i 2)))) (.i 5)) (.v 2))>=>.re (.op .Mod (.op .FloorDiv (.op .Mod (.op .Pow (.v 3) (.i 3)) (.v 2)) (.i 13)) (.v 1))>=>.en⟩
noncomputable def xF:FD:=⟨0,0,"_law_bag_at",["cells","k"],["cells","k","bag"],.bc (.cm .Lt (.v 1) (.bf "len" (.v 0^.e0))) (.re (.ca 44 (.ix (.v 0) (.v 1)^.i 0^.e0))>=>.en) .en>=>.set 2 (.ca 44 (.op .Mod (.ix (.v 0) (.op .Mod (.v 1) (.bf "len" (.v 0^.e0)))) (.op .Pow (.i 10) (.i 18))^.i 0^.e0))>=>.sp (.v 2) (.i 1) (.op .Mod (.op .Add (.op .Add (.ix (.v 2) (.i 1)) (.op .Mult (.op .Mult (.i 7919) (.v 1)) (.v 1))) (.op .Mult (.i 31) (.v 1))) (.i 2305843009213693951))>=>.re (.v 2)>=>.en⟩
noncomputable def xl:FD:=⟨0,0,"_law_holder_of",["form","inner"],["form","inner","seen"],.set 2 (.di [("door",3),("place",4),("talk",5)] (.ix (.v 0) (.i 2)))>=>.re (.op .Add (.sl (.v 1) .p0 (.p1 (.v 2))) (.bt "tuple" (.op .Mult (.lm (.n^.e0)) (.op .Sub (.i 5) (.v 2))^.e0)))>=>.en⟩
noncomputable def xm:FD:=⟨0,0,"is_whole_within",["thing","least","greatest"],["thing","least","greatest"],.re (.an (.ca 0 (.v 0^.e0)) (.ch .LtE .LtE (.v 1) (.v 0) (.v 2)))>=>.en⟩
noncomputable def rB:FD:=⟨0,0,"is_letter",["kind","word","text"],["kind","word","text"],.re (.an (.ca 6 (.v 0^.e0)) (.an (.ca 25 (.v 0^.v 1^.e0)) (.ca 8 (.v 2^.e0))))>=>.en⟩
noncomputable def uj:FD:=⟨2,1,"__init__",["self","low","high"],["self","low","high"],.sf 1 "low" (.v 0) (.v 1)>=>.sf 1 "high" (.v 0) (.v 2)>=>.sf 1 "mark" (.v 0) (.v 1)>=>.sf 1 "taken" (.v 0) .dk>=>.sf 1 "until" (.v 0) .dk>=>.en⟩
noncomputable def t7:FD:=⟨1,1,"is_free",["self","number","moment"],["self","number","moment"],.bc (.or (.no (.me 30 (.v 0) (.v 1^.e0))) (.dn false (.v 1) (.fl 1 "taken" (.v 0)))) (.re (.b false)>=>.en) .en>=>.re (.or (.dn true (.v 1) (.fl 1 "until" (.v 0))) (.cm .LtE (.dg (.fl 1 "until" (.v 0)) (.v 1)) (.v 2)))>=>.en⟩
noncomputable def uk:FD:=⟨1,1,"give",["self","number","until"],["self","number","until"],.dd (.fl 1 "taken" (.v 0)) (.v 1)>=>.dp (.fl 1 "until" (.v 0)) (.v 1) (.v 2)>=>.en⟩
noncomputable def uf:FD:=⟨1,3,"is_with",["self","number","place"],["self","number","place"],.re (.bf "any" (.cp false false ["talk"] [(2,"place")] (.iv (.dg (.fl 3 "by_number" (.v 0)) (.v 1))) (.b true) (.cm .Eq (.ix (.fl 2 "inner" (.v 0)) (.i 3)) (.v 1))^.e0))>=>.en⟩
noncomputable def uz:FD:=⟨1,3,"lend",["self","number","inner"],["self","number","inner","holder"],.set 3 (.ca 27 (.fl 3 "form" (.v 0)^.v 2^.e0))>=>.ex (.me 31 (.fl 3 "pool" (.v 0)) (.v 1^.e0))>=>.dp (.fl 3 "holders" (.v 0)) (.v 1) (.v 3)>=>.dp (.fl 3 "numbers" (.v 0)) (.v 3) (.v 1)>=>.en⟩
noncomputable def uA:FD:=⟨1,3,"lead",["self","talk","state"],["self","talk","state"],.bc (.cm .Eq (.v 2) (.s "shut")) .ra .en>=>.sf 2 "state" (.v 1) (.v 2)>=>.sf 2 "over" (.v 1) (.op .Add (.fl 3 "now" (.v 0)) (.ca 28 (.fl 3 "form" (.v 0)^.v 2^.e0)))>=>.en⟩
noncomputable def ud:FD:=⟨1,3,"end_lend",["self","number","moment"],["self","number","moment"],.dd (.fl 3 "numbers" (.v 0)) (.dg (.fl 3 "holders" (.v 0)) (.v 1))>=>.dd (.fl 3 "holders" (.v 0)) (.v 1)>=>.ex (.me 52 (.fl 3 "pool" (.v 0)) (.v 1^.op .Add (.v 2) (.ix (.ix (.fl 3 "form" (.v 0)) (.i 7)) (.i 3))^.e0))>=>.en⟩
noncomputable def pZ:FD:=⟨1,3,"end",["self","talk","moment"],["self","talk","moment","number","kind","house","door","place","far"],.un [4,5,6,7,8] (.fl 2 "inner" (.v 1))>=>.set 3 (.fl 2 "number" (.v 1))>=>.dd (.fl 3 "by_inner" (.v 0)) (.fl 2 "inner" (.v 1))>=>.dd (.dg (.fl 3 "by_number" (.v 0)) (.v 3)) (.tu (.v 4^.v 7^.v 8^.e0))>=>.bc (.cm .Gt (.bf "len" (.dg (.fl 3 "by_number" (.v 0)) (.v 3)^.e0)) (.i 0)) (.r0>=>.en) .en>=>.dd (.fl 3 "by_number" (.v 0)) (.v 3)>=>.bc (.dn false (.v 3) (.fl 3 "holders" (.v 0))) (.ex (.me 56 (.v 0) (.v 3^.v 2^.e0))>=>.en) .en>=>.en⟩
noncomputable def jB:FD:=⟨1,4,"answered",["self","name","parts"],["self","name","parts","kind","place","far","number","word","text"],.bc (.cm .Eq (.v 1) (.s "out")) (.re (.me 41 (.v 0) (.v 2^.e0))>=>.en) .en>=>.bc (.cm .Eq (.v 1) (.s "come")) (.un [3,4,5,6,7,8] (.v 2)>=>.re (.me 71 (.v 0) (.v 3^.v 4^.v 5^.v 6^.v 7^.e0))>=>.en) .en>=>.bc (.cm .Eq (.v 1) (.s "lost")) .ra .en>=>.bc (.cm .Eq (.v 1) (.s "wait")) (.ex (.me 37 (.fl 4 "table" (.v 0)) (.ix (.v 2) (.i 0)^.e0))>=>.re .n>=>.en) .en>=>.ra⟩
noncomputable def p9:FD:=⟨1,4,"lead_out",["self","inner","word"],["self","inner","word","talk","state"],.set 3 (.me 33 (.fl 4 "table" (.v 0)) (.v 1^.e0))>=>.set 4 (.ca 64 (.ix (.v 1) (.i 0)^.ie (.cm .Is (.v 3) .n) .n (.fl 2 "state" (.v 3))^.s "house"^.v 2^.e0))>=>.bc (.cm .Is (.v 4) .n) (.re (.tu (.s "kept"^.s "astray"^.e0))>=>.en) .en>=>.bc (.cm .Is (.v 3) .n) (.re (.me 60 (.v 0) (.v 1^.v 4^.e0))>=>.en) .en>=>.ex (.me 55 (.fl 4 "table" (.v 0)) (.v 3^.v 4^.e0))>=>.re (.tu (.s "led"^.fl 2 "number" (.v 3)^.e0))>=>.en⟩
noncomputable def jA:FD:=⟨1,4,"begin_out",["self","inner","state"],["self","inner","state","number"],.set 3 (.me 34 (.fl 4 "table" (.v 0)) (.v 1^.e0))>=>.bc (.cm .Is (.v 3) .n) (.bc (.cm .GtE (.bf "len" (.me 36 (.fl 4 "table" (.v 0)) (.ix (.v 1) (.i 1)^.e0)^.e0)) (.ix (.fl 4 "form" (.v 0)) (.i 5))) (.re (.tu (.s "kept"^.s "most"^.e0))>=>.en) .en>=>.set 3 (.me 42 (.v 0) (.ix (.v 1) (.i 2)^.e0))>=>.bc (.cm .Is (.v 3) .n) (.re (.tu (.s "kept"^.s "full"^.e0))>=>.en) .en>=>.ex (.me 54 (.fl 4 "table" (.v 0)) (.v 3^.v 1^.e0))>=>.en) .en>=>.ex (.me 66 (.fl 4 "table" (.v 0)) (.v 1^.v 3^.v 2^.e0))>=>.re (.tu (.s "led"^.v 3^.e0))>=>.en⟩
noncomputable def t8:FD:=⟨1,4,"lead_in",["self","talk","word"],["self","talk","word","state","renew","kind","house","door","place","far"],.un [5,6,7,8,9] (.fl 2 "inner" (.v 1))>=>.set 3 (.ca 64 (.v 5^.fl 2 "state" (.v 1)^.s "far"^.v 2^.e0))>=>.bc (.cm .Is (.v 3) .n) (.re (.tu (.s "kept"^.s "astray"^.e0))>=>.en) .en>=>.set 4 (.ix (.fl 4 "form" (.v 0)) (.i 6))>=>.bc (.or (.v 4) (.cm .NotEq (.v 3) (.fl 2 "state" (.v 1)))) (.ex (.me 55 (.fl 4 "table" (.v 0)) (.v 1^.v 3^.e0))>=>.en) .en>=>.re (.tu (.s "in"^.v 6^.v 7^.e0))>=>.en⟩
noncomputable def ug:FD:=⟨1,4,"lets_note_in",["self","place","number"],["self","place","number","sieve"],.set 3 (.ix (.fl 4 "form" (.v 0)) (.i 3))>=>.re (.or (.cm .Eq (.v 3) (.s "all")) (.an (.cm .Eq (.v 3) (.s "place")) (.me 53 (.fl 4 "table" (.v 0)) (.v 2^.v 1^.e0))))>=>.en⟩
noncomputable def xr:FD:=⟨0,0,"_law_wide",["bag","lending","sieve"],["bag","lending","sieve","low","times","pick"],.set 3 (.op .Add (.i 1) (.ca 45 (.v 0^.i 9800^.e0)))>=>.set 4 (.tu (.op .Add (.i 1) (.ca 45 (.v 0^.i 30^.e0))^.op .Add (.i 1) (.ca 45 (.v 0^.i 30^.e0))^.op .Add (.i 1) (.ca 45 (.v 0^.i 30^.e0))^.ca 45 (.v 0^.i 30^.e0)^.e0))>=>.set 5 (.ix (.ll (.s "next"^.s "keep"^.e0)) (.ca 45 (.v 0^.i 2^.e0)))>=>.re (.tu (.v 3^.op .Add (.v 3) (.i 199)^.v 1^.v 2^.v 5^.i 200^.cm .Eq (.ca 45 (.v 0^.i 2^.e0)) (.i 1)^.v 4^.e0))>=>.en⟩
noncomputable def xA:FD:=⟨0,0,"next_state",["kind","state","side","word"],["kind","state","side","word"],.bc (.cm .Eq (.v 0) (.s "note")) (.re (.ca 29 (.v 1^.v 3^.e0))>=>.en) .en>=>.ra⟩
noncomputable def ux:FD:=⟨1,1,"picked",["self","pick","door","moment"],["self","pick","door","moment","number"],.bc (.an (.cm .Eq (.v 1) (.s "keep")) (.me 51 (.v 0) (.v 2^.v 3^.e0))) (.re (.v 2)>=>.en) .en>=>.fo false [4] (.is (.me 17 (.v 0) .e0)) (.bc (.me 51 (.v 0) (.v 4^.v 3^.e0)) (.re (.v 4)>=>.en) .en>=>.en)>=>.re .n>=>.en⟩
noncomputable def p6:FD:=⟨1,3,"begin",["self","inner","number","state"],["self","inner","number","state","talk","kind","house","door","place","far"],.un [5,6,7,8,9] (.v 1)>=>.set 4 (.mk 69 (.v 1^.v 2^.v 3^.op .Add (.fl 3 "now" (.v 0)) (.ca 28 (.fl 3 "form" (.v 0)^.v 3^.e0))^.e0))>=>.dp (.fl 3 "by_inner" (.v 0)) (.v 1) (.v 4)>=>.bc (.dn true (.v 2) (.fl 3 "by_number" (.v 0))) (.dp (.fl 3 "by_number" (.v 0)) (.v 2) .dt>=>.en) .en>=>.dp (.dg (.fl 3 "by_number" (.v 0)) (.v 2)) (.tu (.v 5^.v 8^.v 9^.e0)) (.v 4)>=>.en⟩
noncomputable def p7:FD:=⟨1,4,"sifted",["self","kind","place","number"],["self","kind","place","number","holder"],.set 4 (.me 35 (.fl 4 "table" (.v 0)) (.v 3^.e0))>=>.bc (.or (.cm .Is (.v 4) .n) (.cm .NotEq (.ix (.v 4) (.i 0)) (.v 1))) (.re (.tu (.s "kept"^.s "nobody"^.e0))>=>.en) .en>=>.bc (.or (.cm .Eq (.v 1) (.s "line")) (.no (.me 62 (.v 0) (.v 2^.v 3^.e0)))) (.re (.tu (.s "kept"^.s "sieve"^.e0))>=>.en) .en>=>.re (.tu (.s "in"^.ix (.v 4) (.i 1)^.ix (.v 4) (.i 2)^.e0))>=>.en⟩
noncomputable def Ef:T:=.re (.ch .LtE .LtE (.ix (.v 2) (.i 0)) (.ix (.v 5) (.i 1)) (.ix (.v 2) (.i 1)))>=>.en
noncomputable def Fd:T:=.dp (.dg (.v 0) (.s "had")) (.ix (.v 5) (.i 1)) (.b true)>=>Ef
noncomputable def zp:T:=.dp (.dg (.v 0) (.s "ends")) (.v 3) (.tu (.ix (.v 5) (.i 1)^.op .Add (.dg (.v 0) (.s "now")) (.ix (.ix (.v 2) (.i 7)) (.i 0))^.e0))>=>Fd
noncomputable def zq:T:=.bc (.an (.cm .Eq (.v 4) (.ll .e0)) (.cm .In (.ix (.v 5) (.i 1)) (.cp false false ["end"] [(0,"own")] (.is (.ca 22 (.v 0^.e0))) (.b true) (.ix (.dg (.dg (.v 1) (.s "ends")) (.v 0)) (.i 0))))) (.re (.b false)>=>.en) .en>=>zp
def Fe:T:=.bc (.an (.cm .NotEq (.v 4) (.ll .e0)) (.cm .NotEq (.ix (.v 5) (.i 1)) (.ix (.v 4) (.i 0)))) (.re (.b false)>=>.en) .en>=>zq
noncomputable def Ff:T:=.bc (.or (.no (.bf "isinstance" (.v 5^.ty "tuple"^.e0))) (.or (.cm .NotEq (.bf "len" (.v 5^.e0)) (.i 2)) (.or (.cm .NotEq (.ix (.v 5) (.i 0)) (.s "led")) (.no (.ca 20 (.ix (.v 5) (.i 1)^.e0)))))) (.re (.b false)>=>.en) .en>=>Fe
def zr:T:=.set 5 (.me 74 (.v 1) (.s "note"^.ix (.v 3) (.i 1)^.ix (.v 3) (.i 2)^.ix (.v 3) (.i 3)^.ix (.v 3) (.i 4)^.s "say"^.s ""^.e0))>=>Ff
noncomputable def B7:T:=.sc 4 false false ["end"] [(0,"own"),(2,"form"),(3,"inner")] (.is (.ca 22 (.v 0^.e0))) (.cm .Eq (.ca 47 (.v 2^.v 0^.e0)) (.ca 47 (.v 2^.v 3^.e0))) (.ix (.dg (.dg (.v 1) (.s "ends")) (.v 0)) (.i 0))>=>zr
noncomputable def xB:FD:=⟨0,0,"_law_wrote",["own","gate","form","inner"],["own","gate","form","inner","mine","found"],B7⟩
noncomputable def uh:FD:=⟨2,2,"__init__",["self","inner","number","state","over"],["self","inner","number","state","over"],.sf 2 "inner" (.v 0) (.v 1)>=>.sf 2 "number" (.v 0) (.v 2)>=>.sf 2 "state" (.v 0) (.v 3)>=>.sf 2 "over" (.v 0) (.v 4)>=>.en⟩
noncomputable def p8:FD:=⟨1,3,"of_outer",["self","kind","number","place","far"],["self","kind","number","place","far"],.bc (.dn true (.v 2) (.fl 3 "by_number" (.v 0))) (.re .n>=>.en) .en>=>.re (.d1 (.dg (.fl 3 "by_number" (.v 0)) (.v 2)) (.tu (.v 1^.v 3^.v 4^.e0)))>=>.en⟩
noncomputable def p5:FD:=⟨1,4,"come_in",["self","kind","place","far","number","word"],["self","kind","place","far","number","word","talk"],.set 6 (.me 70 (.fl 4 "table" (.v 0)) (.v 1^.v 4^.v 2^.v 3^.e0))>=>.bc (.cm .IsNot (.v 6) .n) (.re (.me 61 (.v 0) (.v 6^.v 5^.e0))>=>.en) .en>=>.bc (.me 30 (.fl 3 "pool" (.fl 4 "table" (.v 0))) (.v 4^.e0)) (.re (.me 67 (.v 0) (.v 1^.v 2^.v 4^.e0))>=>.en) .en>=>.ra⟩
noncomputable def p4:FD:=⟨1,4,"come",["self","kind","place","far","number","word","text"],["self","kind","place","far","number","word","text"],.re (.me 39 (.v 0) (.tu (.s "come"^.v 1^.v 2^.v 3^.v 4^.v 5^.v 6^.e0)^.e0))>=>.en⟩
noncomputable def B2:T:=.re (.cm .Eq (.v 8) (.tu (.s "in"^.ix (.ix (.v 9) (.i 0)) (.i 1)^.ix (.ix (.v 9) (.i 0)) (.i 2)^.e0)))>=>.en
noncomputable def Ec:T:=.bc (.an (.ix (.v 2) (.i 6)) (.cm .NotEq (.v 11) (.ll .e0))) (.dp (.dg (.v 0) (.s "ends")) (.ix (.v 11) (.i 0)) (.tu (.v 6^.op .Add (.dg (.v 0) (.s "now")) (.ix (.ix (.v 2) (.i 7)) (.i 0))^.e0))>=>.en) .en>=>B2
def Ed:T:=.sc 11 false false ["inner"] [(4,"place"),(5,"far")] (.is (.v 9)) (.cm .Eq (.sl (.v 0) (.p1 (.i 3)) .p0) (.tu (.v 1^.v 2^.e0))) (.v 0)>=>Ec
def zo:T:=.bc (.cm .Eq (.v 10) (.ll .e0)) (.re (.cm .Eq (.v 8) (.tu (.s "kept"^.s "sieve"^.e0)))>=>.en) .en>=>Ed
noncomputable def Ee:T:=.bc (.an (.cm .Eq (.v 10) (.ll .e0)) (.cm .Eq (.ix (.v 2) (.i 3)) (.s "place"))) (.sc 10 false false ["inner"] [(4,"place")] (.is (.v 9)) (.cm .Eq (.ix (.v 0) (.i 3)) (.v 1)) (.v 0)>=>.en) (.bc (.cm .Eq (.ix (.v 2) (.i 3)) (.s "all")) (.set 10 (.v 9)>=>.en) .en>=>.en)>=>zo
def B3:T:=.sc 10 false false ["inner"] [(4,"place"),(5,"far")] (.is (.v 9)) (.cm .Eq (.sl (.v 0) (.p1 (.i 3)) .p0) (.tu (.v 1^.v 2^.e0))) (.v 0)>=>Ee
def vY:T:=.bc (.or (.cm .Eq (.v 9) (.ll .e0)) (.cm .Eq (.v 3) (.s "line"))) (.re (.cm .Eq (.v 8) (.tu (.s "kept"^.s "nobody"^.e0)))>=>.en) .en>=>B3
noncomputable def B4:T:=.sc 9 false false ["inner"] [(6,"number"),(0,"own")] (.is (.ca 22 (.v 0^.e0))) (.cm .Eq (.ix (.dg (.dg (.v 2) (.s "ends")) (.v 0)) (.i 0)) (.v 1)) (.v 0)>=>vY
def B5:T:=.set 8 (.me 72 (.v 1) (.v 3^.v 4^.v 5^.v 6^.v 7^.s ""^.e0))>=>B4
def B6:T:=.set 7 (.ie (.cm .Eq (.v 3) (.s "note")) (.s "say") (.s "open"))>=>B5
noncomputable def xx:FD:=⟨0,0,"_law_came",["own","gate","form","kind","place","far","number"],["own","gate","form","kind","place","far","number","word","found","mine","known","talks"],B6⟩
noncomputable def uw:FD:=⟨1,4,"out",["self","kind","house","door","place","far","word","text"],["self","kind","house","door","place","far","word","text"],.re (.me 39 (.v 0) (.tu (.s "out"^.v 1^.v 2^.v 3^.v 4^.v 5^.v 6^.v 7^.e0)^.e0))>=>.en⟩
end
noncomputable def S:SI where
 gi:=[("GREATEST_HOUSE",99),("GREATEST_DOOR",9999),("GREATEST_PLACE",1000000),("GREATEST_TICKS",1000000),("MOST_SIGNS",40),("FIRST_SIGN",32),("LAST_SIGN",126),("PERCENT_SIGN",37),("WIDEST_STEP",199),("GREATEST_MOST",200),("GREATEST_TIME",1000000)]
 gt:=[("KINDS",["note","line"]),("NOTE_WORDS",["say"]),("LINE_WORDS",["open","say","close","break"]),("LENDINGS",["door","place","talk"]),("SIEVES",["all","place","talk"]),("PICKS",["next","keep"])]
 tb:=["DEEDS","TIME_AT"]
 tt:=[]
 cl:=["Rules","Pool","Talk","Talks","Gate"]
 fs:=[(0,"many_told"),(0,"standing"),(1,"low"),(1,"high"),(1,"mark"),(1,"taken"),(1,"until"),(2,"inner"),(2,"number"),(2,"state"),(2,"over"),(3,"form"),(3,"pool"),(3,"now"),(3,"by_inner"),(3,"by_number"),(3,"holders"),(3,"numbers"),(4,"form"),(4,"table"),(4,"strangers"),(4,"done"),(4,"wish")]
 bl:=["all","any","bool","int","isinstance","len","list","max","ord","range","sorted","str","tuple"]
 fd:=[xI,xN,xZ,xM,xk,xK,rA,Hl,xW,uN,qb,uI,xV,j0,xJ,xY,uD,ue,t6,uy,xC,xG,xE,xD,r8,rm,xX,xq,xU,xy,uu,ui,uB,uc,t9,ua,uC,aI,uq,jC,um,uo,ub,xu,xt,rD,xF,xl,xm,rB,uj,t7,uk,uf,uz,uA,ud,pZ,jB,p9,jA,t8,ug,xr,xA,ux,p6,p7,xB,uh,p8,p5,p4,xx,uw]
 ln:=aI.N
 lp:=⟨302,38,302,58⟩
 lq:="Talks.pass_by.<locals>.<lambda>"
abbrev Ry:Stmt:=top 24
abbrev Rf:Stmt:=top 49
abbrev PN:Stmt:=top 78
abbrev Pp:Stmt:=top 81
abbrev YK:Stmt:=top 82
abbrev Qe:Stmt:=inClass (top 65) 8
abbrev Pj:Stmt:=inClass (top 65) 15
abbrev Pk:Stmt:=inClass (top 65) 3
abbrev Qd:Stmt:=top 79
abbrev Qj:Stmt:=top 80
structure Env where
 tb:Str->bP
 C:Nat->Addr
 cv:List (Addr×Nat)
 lP:Addr:=0
def P(e:Env):jb:=⟨S,e.tb,e.C,e.cv,e.lP⟩
def rd(Q:ak):RD:={ nx:=λ_ a=>Q .aq a,rt:=Q }
section
variable {e:Env}{n:Nat}{M:RM}{Q:ak}{σ:bD}{rs:LR}
theorem qxs{x:RV}:jh (y::N) (x::rs)=some x::jh N rs:=by unfold jh;rw[cY,cY,Nat.add_sub_add_right];rfl
theorem qxq:jh (y::N) []=none::jh N []:=rfl
theorem qxr:jh [] []= []:=rfl
theorem Ky{A B C:Prop}(h:A)(k:B=C):(A/\B)=C:=by rw[eq_true h,true_and,k]
theorem qxB:(rd Q).nx σ M=Q .aq M:=rfl
theorem qxA:(rd Q).rt=Q:=rfl
theorem qEQ{i:Nat}:((P e).Gn n).fn i rs M Q=aA (P e) n i rs M Q:=rfl
theorem qEO{x:Str}:((P e).Gn n).tb x=e.tb x:=rfl
theorem qyy:((P e).Gn n).iK=e.cv.map λq=>(q.1,aA (P e) n q.2):=rfl
theorem g_C{i:Nat}:((P e).Gn n).C i=e.C i:=rfl
theorem qEP:((P e).Gn n).lP=e.lP:=rfl
theorem us{i:Nat}{rs:LR}(h:S.fd[i]? =some d):aA (P e) (n+1) i rs M Q=(rs.length=d.ps.length/\(tr ((P e).Gn n) d.body).S (rd Q) (jh d.N rs) M):=by rw[HL (p:=P e) h];rfl
end
noncomputable def AX(e:Env)(a b:RV):RO:=.ins (e.C 0) [("many_told",a),("standing",b)]
noncomputable def eO(e:Env)(a b c d f:RV):RO:=.ins (e.C 1) [("low",a),("high",b),("mark",c),("taken",d),("until",f)]
noncomputable def bU(e:Env)(a b c d:RV):RO:=.ins (e.C 2) [("inner",a),("number",b),("state",c),("over",d)]
noncomputable def bE (e:Env)(a b c d f g h:RV):RO:=.ins (e.C 3) [("form",a),("pool",b),("now",c),("by_inner",d),("by_number",f),("holders",g),("numbers",h)]
noncomputable def cy(e:Env)(a b c d f:RV):RO:=.ins (e.C 4) [("form",a),("table",b),("strangers",c),("done",d),("wish",f)]
section
variable {e:Env}{n:Nat}{M:RM}{Q:ak}{σ:bD}{rs:LR}{x:Addr}{y:RV}{N:RM->Prop}{t:bX}{sp:cu}{o a:T}
theorem lI{e:Env}{v:RV}{b:List (Str×RV)}(h:b.lookup f=some v):fO (e.C c) f Q M (some (.ins (e.C c) b))=Q v M:=by rw[XB,h];rfl
theorem wI{b:List (Str×RV)}(h:Nat.ble (b.length+1) 1000=true):sO (e.C c) f y N x M (some (.ins (e.C c) b))=N (put M x (.ins (e.C c) (j7 f y b))):=by rw[Wg];exact Ky (Nat.le_of_ble_eq_true h) rfl
theorem mI{b:List (Str×RV)}(h:b.lookup f=none):mO (e.C c) f sp t σ Q x M (some (.ins (e.C c) b))=t σ M λrs d=>sp (.ref x::rs) d Q:=by rw[WB];exact Ky h rfl
abbrev lT(e:Env)(c:Nat)(r:RO)(f:Str)(v:RV):Prop:=∀{Q:ak} {M:RM},fO (e.C c) f Q M (some r)=Q v M
abbrev wT(e:Env)(c:Nat)(y:RV)(r r1:RO)(f:Str):Prop:=∀{N:RM->Prop} {x:Addr} {M:RM},sO (e.C c) f y N x M (some r)=N (put M x r1)
abbrev mT(e:Env)(c:Nat)(r:RO)(f:Str):Prop:=∀{sp:cu} {t:bX} {σ:bD} {Q:ak} {x:Addr} {M:RM},mO (e.C c) f sp t σ Q x M (some r)=t σ M λrs b=>sp (.ref x::rs) b Q
abbrev tT(i c:Nat)(f:Str):Prop:=∀{e:Env} {n:Nat} {M:RM} {Q:ak} {σ:bD} {o a:T},(tr ((P e).Gn n) (.me i o a)).E σ M Q=(tr ((P e).Gn n) o).E σ M (pT (e.C c) f (aA (P e) n i) (tr ((P e).Gn n) a).A σ Q)
abbrev kT(i c:Nat):Prop:=∀{e:Env} {n:Nat} {M:RM} {Q:ak} {σ:bD} {a:T},(tr ((P e).Gn (n+1)) (.mk i a)).E σ M Q=(tr ((P e).Gn (n+1)) a).A σ M λrs M1=>∀x,M1 x=none->aA (P e) n i (.ref x::rs) (put M1 x (.ins (e.C c) [])) λv b=>v= .aq/\Q (.ref x) b
abbrev gT(f:Str)(i:Int):Prop:=∀{e:Env} {n:Nat} {M:RM} {Q:ak} {σ:bD},(tr ((P e).Gn n) (.g f)).E σ M Q=Q (.int i) M
abbrev cT(f:Str)(l:aE):Prop:=∀{e:Env} {n:Nat} {M:RM} {Q:ak} {σ:bD} {a:T} {neg:Bool},(tr ((P e).Gn n) (.ic neg a f)).E σ M Q=(tr ((P e).Gn n) a).E σ M λx M1=>aF 15 x=true/\Q (.bl (if neg then !inR x (l.map RV.str)else inR x (l.map RV.str))) M1
theorem qk1:wT e 0 y (.ins (e.C 0) []) (.ins (e.C 0) [("many_told",y)]) "many_told":=wI rfl
theorem qk0:wT e 0 y (.ins (e.C 0) [("many_told",v0)]) (AX e v0 y) "standing":=wI rfl
theorem qrF:kT 16 0:=vR (d:=uD) rfl
theorem qkK:lT e 1 (eO e v0 v1 v2 v3 v4) "low" v0:=lI rfl
theorem qjf:lT e 1 (eO e v0 v1 v2 v3 v4) "high" v1:=lI rfl
theorem qje:lT e 1 (eO e v0 v1 v2 v3 v4) "mark" v2:=lI rfl
theorem qiD:wT e 1 y (eO e v0 v1 v2 v3 v4) (eO e v0 v1 y v3 v4) "mark":=wI rfl
theorem qhZ:lT e 1 (eO e v0 v1 v2 v3 v4) "taken" v3:=lI rfl
theorem qhY:lT e 1 (eO e v0 v1 v2 v3 v4) "until" v4:=lI rfl
theorem qm3:wT e 1 y (.ins (e.C 1) []) (.ins (e.C 1) [("low",y)]) "low":=wI rfl
theorem qm2:wT e 1 y (.ins (e.C 1) [("low",v0)]) (.ins (e.C 1) [("low",v0),("high",y)]) "high":=wI rfl
theorem qm1:wT e 1 y (.ins (e.C 1) [("low",v0),("high",v1)]) (.ins (e.C 1) [("low",v0),("high",v1),("mark",y)]) "mark":=wI rfl
theorem qm0:wT e 1 y (.ins (e.C 1) [("low",v0),("high",v1),("mark",v2)]) (.ins (e.C 1) [("low",v0),("high",v1),("mark",v2),("taken",y)]) "taken":=wI rfl
theorem qmZ:wT e 1 y (.ins (e.C 1) [("low",v0),("high",v1),("mark",v2),("taken",v3)]) (eO e v0 v1 v2 v3 y) "until":=wI rfl
theorem Pe:mT e 1 (eO e v0 v1 v2 v3 v4) "from_mark":=mI rfl
theorem qeb:tT 17 1 "from_mark":=cS (d:=ue) rfl
theorem qhP:mT e 1 (eO e v0 v1 v2 v3 v4) "has":=mI rfl
theorem qkn:tT 30 1 "has":=cS (d:=uu) rfl
theorem Pg:mT e 1 (eO e v0 v1 v2 v3 v4) "take":=mI rfl
theorem qiH:tT 31 1 "take":=cS (d:=ui) rfl
theorem quV:kT 50 1:=vR (d:=uj) rfl
theorem qef:mT e 1 (eO e v0 v1 v2 v3 v4) "is_free":=mI rfl
theorem qfC:tT 51 1 "is_free":=cS (d:=t7) rfl
theorem Ph:mT e 1 (eO e v0 v1 v2 v3 v4) "give":=mI rfl
theorem qiI:tT 52 1 "give":=cS (d:=uk) rfl
theorem qe0:mT e 1 (eO e v0 v1 v2 v3 v4) "picked":=mI rfl
theorem qgr:tT 65 1 "picked":=cS (d:=ux) rfl
theorem qhX:lT e 2 (bU e v0 v1 v2 v3) "inner" v0:=lI rfl
theorem qgQ:lT e 2 (bU e v0 v1 v2 v3) "number" v1:=lI rfl
theorem qhW:lT e 2 (bU e v0 v1 v2 v3) "state" v2:=lI rfl
theorem qhd:wT e 2 y (bU e v0 v1 v2 v3) (bU e v0 v1 y v3) "state":=wI rfl
theorem qjd:lT e 2 (bU e v0 v1 v2 v3) "over" v3:=lI rfl
theorem qiC:wT e 2 y (bU e v0 v1 v2 v3) (bU e v0 v1 v2 y) "over":=wI rfl
theorem qmY:wT e 2 y (.ins (e.C 2) []) (.ins (e.C 2) [("inner",y)]) "inner":=wI rfl
theorem qmX:wT e 2 y (.ins (e.C 2) [("inner",v0)]) (.ins (e.C 2) [("inner",v0),("number",y)]) "number":=wI rfl
theorem qmW:wT e 2 y (.ins (e.C 2) [("inner",v0),("number",v1)]) (.ins (e.C 2) [("inner",v0),("number",v1),("state",y)]) "state":=wI rfl
theorem qmV:wT e 2 y (.ins (e.C 2) [("inner",v0),("number",v1),("state",v2)]) (bU e v0 v1 v2 y) "over":=wI rfl
theorem quU:kT 69 2:=vR (d:=uh) rfl
theorem qhV:lT e 3 (bE e v0 v1 v2 v3 v4 v5 v6) "form" v0:=lI rfl
theorem qhU:lT e 3 (bE e v0 v1 v2 v3 v4 v5 v6) "pool" v1:=lI rfl
theorem qjc:lT e 3 (bE e v0 v1 v2 v3 v4 v5 v6) "now" v2:=lI rfl
theorem qej:lT e 3 (bE e v0 v1 v2 v3 v4 v5 v6) "by_inner" v3:=lI rfl
theorem qdO:lT e 3 (bE e v0 v1 v2 v3 v4 v5 v6) "by_number" v4:=lI rfl
theorem qe7:lT e 3 (bE e v0 v1 v2 v3 v4 v5 v6) "holders" v5:=lI rfl
theorem qe6:lT e 3 (bE e v0 v1 v2 v3 v4 v5 v6) "numbers" v6:=lI rfl
theorem qkZ:wT e 3 y (.ins (e.C 3) []) (.ins (e.C 3) [("form",y)]) "form":=wI rfl
theorem qkY:wT e 3 y (.ins (e.C 3) [("form",v0)]) (.ins (e.C 3) [("form",v0),("pool",y)]) "pool":=wI rfl
theorem qkX:wT e 3 y (.ins (e.C 3) [("form",v0),("pool",v1)]) (.ins (e.C 3) [("form",v0),("pool",v1),("now",y)]) "now":=wI rfl
theorem qkW:wT e 3 y (.ins (e.C 3) [("form",v0),("pool",v1),("now",v2)]) (.ins (e.C 3) [("form",v0),("pool",v1),("now",v2),("by_inner",y)]) "by_inner":=wI rfl
theorem qkV:wT e 3 y (.ins (e.C 3) [("form",v0),("pool",v1),("now",v2),("by_inner",v3)]) (.ins (e.C 3) [("form",v0),("pool",v1),("now",v2),("by_inner",v3),("by_number",y)]) "by_number":=wI rfl
theorem qkU:wT e 3 y (.ins (e.C 3) [("form",v0),("pool",v1),("now",v2),("by_inner",v3),("by_number",v4)]) (.ins (e.C 3) [("form",v0),("pool",v1),("now",v2),("by_inner",v3),("by_number",v4),("holders",y)]) "holders":=wI rfl
theorem qkT:wT e 3 y (.ins (e.C 3) [("form",v0),("pool",v1),("now",v2),("by_inner",v3),("by_number",v4),("holders",v5)]) (bE e v0 v1 v2 v3 v4 v5 y) "numbers":=wI rfl
theorem qee:mT e 3 (bE e v0 v1 v2 v3 v4 v5 v6) "living":=mI rfl
theorem qfB:tT 18 3 "living":=cS (d:=t6) rfl
theorem qrE:kT 32 3:=vR (d:=uB) rfl
theorem qdg:mT e 3 (bE e v0 v1 v2 v3 v4 v5 v6) "of_inner":=mI rfl
theorem qd9:tT 33 3 "of_inner":=cS (d:=uc) rfl
theorem qcV:mT e 3 (bE e v0 v1 v2 v3 v4 v5 v6) "number_of":=mI rfl
theorem qdD:tT 34 3 "number_of":=cS (d:=t9) rfl
theorem qcW:mT e 3 (bE e v0 v1 v2 v3 v4 v5 v6) "holder_at":=mI rfl
theorem qdE:tT 35 3 "holder_at":=cS (d:=ua) rfl
theorem qfO:mT e 3 (bE e v0 v1 v2 v3 v4 v5 v6) "held":=mI rfl
theorem qhk:tT 36 3 "held":=cS (d:=uC) rfl
theorem qdK:mT e 3 (bE e v0 v1 v2 v3 v4 v5 v6) "pass_by":=mI rfl
theorem qeB:tT 37 3 "pass_by":=cS (d:=aI) rfl
theorem qdL:mT e 3 (bE e v0 v1 v2 v3 v4 v5 v6) "is_with":=mI rfl
theorem qeC:tT 53 3 "is_with":=cS (d:=uf) rfl
theorem qfM:mT e 3 (bE e v0 v1 v2 v3 v4 v5 v6) "lend":=mI rfl
theorem qhi:tT 54 3 "lend":=cS (d:=uz) rfl
theorem qfN:mT e 3 (bE e v0 v1 v2 v3 v4 v5 v6) "lead":=mI rfl
theorem qhj:tT 55 3 "lead":=cS (d:=uA) rfl
theorem qdh:mT e 3 (bE e v0 v1 v2 v3 v4 v5 v6) "end_lend":=mI rfl
theorem qea:tT 56 3 "end_lend":=cS (d:=ud) rfl
theorem qgL:mT e 3 (bE e v0 v1 v2 v3 v4 v5 v6) "end":=mI rfl
theorem qiG:tT 57 3 "end":=cS (d:=pZ) rfl
theorem qeZ:mT e 3 (bE e v0 v1 v2 v3 v4 v5 v6) "begin":=mI rfl
theorem qgq:tT 66 3 "begin":=cS (d:=p6) rfl
theorem qdf:mT e 3 (bE e v0 v1 v2 v3 v4 v5 v6) "of_outer":=mI rfl
theorem qd8:tT 70 3 "of_outer":=cS (d:=p8) rfl
theorem qjh:lT e 4 (cy e v0 v1 v2 v3 v4) "form" v0:=lI rfl
theorem qh0:lT e 4 (cy e v0 v1 v2 v3 v4) "table" v1:=lI rfl
theorem qji:lT e 4 (cy e v0 v1 v2 v3 v4) "done" v3:=lI rfl
theorem qjg:lT e 4 (cy e v0 v1 v2 v3 v4) "wish" v4:=lI rfl
theorem qm8:wT e 4 y (.ins (e.C 4) []) (.ins (e.C 4) [("form",y)]) "form":=wI rfl
theorem qm7:wT e 4 y (.ins (e.C 4) [("form",v0)]) (.ins (e.C 4) [("form",v0),("table",y)]) "table":=wI rfl
theorem qm6:wT e 4 y (.ins (e.C 4) [("form",v0),("table",v1)]) (.ins (e.C 4) [("form",v0),("table",v1),("strangers",y)]) "strangers":=wI rfl
theorem qm5:wT e 4 y (.ins (e.C 4) [("form",v0),("table",v1),("strangers",v2)]) (.ins (e.C 4) [("form",v0),("table",v1),("strangers",v2),("done",y)]) "done":=wI rfl
theorem qm4:wT e 4 y (.ins (e.C 4) [("form",v0),("table",v1),("strangers",v2),("done",v3)]) (cy e v0 v1 v2 v3 y) "wish":=wI rfl
theorem qe2:mT e 4 (cy e v0 v1 v2 v3 v4) "moment":=mI rfl
theorem qgt:tT 19 4 "moment":=cS (d:=uy) rfl
theorem quW:kT 38 4:=vR (d:=uq) rfl
theorem qgO:mT e 4 (cy e v0 v1 v2 v3 v4) "deed":=mI rfl
theorem qiL:tT 39 4 "deed":=cS (d:=jC) rfl
theorem qgM:mT e 4 (cy e v0 v1 v2 v3 v4) "wait":=mI rfl
theorem qiJ:tT 40 4 "wait":=cS (d:=um) rfl
theorem qgN:mT e 4 (cy e v0 v1 v2 v3 v4) "sent":=mI rfl
theorem qiK:tT 41 4 "sent":=cS (d:=uo) rfl
theorem qcX:mT e 4 (cy e v0 v1 v2 v3 v4) "picked_for":=mI rfl
theorem qdF:tT 42 4 "picked_for":=cS (d:=ub) rfl
theorem qdN:mT e 4 (cy e v0 v1 v2 v3 v4) "answered":=mI rfl
theorem qeE:tT 58 4 "answered":=cS (d:=jB) rfl
theorem qdM:mT e 4 (cy e v0 v1 v2 v3 v4) "lead_out":=mI rfl
theorem qeD:tT 59 4 "lead_out":=cS (d:=p9) rfl
theorem qdk:mT e 4 (cy e v0 v1 v2 v3 v4) "begin_out":=mI rfl
theorem qec:tT 60 4 "begin_out":=cS (d:=jA) rfl
theorem qeg:mT e 4 (cy e v0 v1 v2 v3 v4) "lead_in":=mI rfl
theorem qfD:tT 61 4 "lead_in":=cS (d:=t8) rfl
theorem qcq:mT e 4 (cy e v0 v1 v2 v3 v4) "lets_note_in":=mI rfl
theorem qcT:tT 62 4 "lets_note_in":=cS (d:=ug) rfl
theorem qe1:mT e 4 (cy e v0 v1 v2 v3 v4) "sifted":=mI rfl
theorem qgs:tT 67 4 "sifted":=cS (d:=p7) rfl
theorem qeh:mT e 4 (cy e v0 v1 v2 v3 v4) "come_in":=mI rfl
theorem qfE:tT 71 4 "come_in":=cS (d:=p5) rfl
theorem qgP:mT e 4 (cy e v0 v1 v2 v3 v4) "come":=mI rfl
theorem qiM:tT 72 4 "come":=cS (d:=p4) rfl
theorem qhQ:mT e 4 (cy e v0 v1 v2 v3 v4) "out":=mI rfl
theorem qko:tT 74 4 "out":=cS (d:=uw) rfl
theorem qem:gT "GREATEST_HOUSE" 99:=oB rfl
theorem qfn:gT "GREATEST_DOOR" 9999:=oB rfl
theorem qel:gT "GREATEST_PLACE" 1000000:=oB rfl
theorem qek:gT "GREATEST_TICKS" 1000000:=oB rfl
theorem qie:gT "MOST_SIGNS" 40:=oB rfl
theorem qgX:gT "WIDEST_STEP" 199:=oB rfl
theorem qfm:gT "GREATEST_MOST" 200:=oB rfl
theorem qfl:gT "GREATEST_TIME" 1000000:=oB rfl
theorem qsv:cT "KINDS" ["note","line"]:=sA rfl
theorem qiv:cT "NOTE_WORDS" ["say"]:=sA rfl
theorem qiw:cT "LINE_WORDS" ["open","say","close","break"]:=sA rfl
theorem qld:cT "LENDINGS" ["door","place","talk"]:=sA rfl
theorem qpp:cT "SIEVES" ["all","place","talk"]:=sA rfl
theorem qsu:cT "PICKS" ["next","keep"]:=sA rfl
end
local macro_rules | `(tactic| walk_at "ev") => do
 let f:=fun(t:String)=>(t.splitOn "|").toArray.map fun s=>Lean.mkIdent s.toName
 let a<-(f "qk1|qk0|qrF|qkK|qjf|qje|qiD|qhZ|qhY|qm3|qm2|qm1|qm0|qmZ|Pe|qeb|qhP|qkn|Pg|qiH|quV|qef|qfC|Ph|qiI|qe0|qgr|qhX|qgQ|qhW|qhd|qjd|qiC|qmY|qmX|qmW|qmV|quU|qhV|qhU|qjc|qej|qdO|qe7|qe6|qkZ|qkY|qkX|qkW|qkV|qkU|qkT|qee|qfB|qrE|qdg|qd9|qcV|qdD|qcW|qdE|qfO|qhk|qdK|qeB|qdL|qeC|qfM|qhi|qfN|qhj|qdh|qea|qgL|qiG|qeZ|qgq|qdf|qd8|qjh|qh0|qji|qjg|qm8|qm7|qm6|qm5|qm4|qe2|qgt|quW|qgO|qiL|qgM|qiJ|qgN|qiK|qcX|qdF|qdN|qeE|qdM|qeD|qdk|qec|qeg|qfD|qcq|qcT|qe1|qgs|qeh|qfE|qgP|qiM|qhQ|qko|qem|qfn|qel|qek|qie|qgX|qfm|qfl|qsv|qiv|qiw|qld|qpp|qsu|qxs|qxq|qxr|qxB|qxA|qEQ|g_C|qEP|qEO|qyy|x9|qrN|qrI|qrK|qnW|qqv|Qa|qr5|qxN|qxM|qyA|qyt|qyL|qsl|WX|qsp|qvn|qC3|qDv|qrP|qvZ|bz|Vt|qsS|qsU|qvy|qyO|qC9|qrL|qwE|nT|qDV|qrJ|qDR|qDX|qEJ|vi|quX|qEH|qxF|qEL|qEK|yU|vS|qvU|qvV|qsB|qvT|qvS|qsy|qsz|qsA|qvR|qDU|qEG|qr1|qrZ|qr2|qr0|qrY|qvG|yV|K8|K7|Nf|qFg|Nb|Na|K6|qCZ|qtf|qC1|qrH|qDp|ym|qDa|qrM|qD1|T5|IV|qx8|qx9|qx6|qx7|qqE|quN|qyn|qym|qyl|reduceIte|qEI|qoT|t_v|t_i|t_s|t_b|t_n|qCY|qC7|qDq|eQ|qDr|T4|T_v|qFq|qFr|qFm|qFs|qFp|qFo|qFj|qFt|qFk|qFl|jF|T6|qDw|qC6|quZ|qC8|qDe|qC0|qDc|qDb|qDh|qDg|qDd|qC2|qC5|quY|qC4|qDf|qDs|qDu|qDt|qDn|qDk|qDo|qDl|qDj|qDZ|iC|qDT|qDW|qDY|qDS|qD0|qrG|qDQ|qp|qx5|qE4|K9|Ng|qE6|qE5|qss|Ke|Br|qyV|qyU|gb").mapM fun s=>`(Lean.Parser.Tactic.simpLemma| ↓$s:ident)
 let b<-(f "List.getElem?_cons_zero|List.getElem?_cons_succ|true_and|Bool.not_true|Bool.not_false|jr|Bool.true_and|Bool.false_and|Bool.and_true|Bool.true_or|Bool.false_or|List.set_cons_zero|List.set_cons_succ|uP|cY|List.length_nil|bF|oJ|List.cons_append|jU|Option.join_some|Ck|Option.isSome_none|bw|gq|Nat.reduceAdd|Nat.zero_add|Int.reduceBEq|beq_self_eq_true|Int.reduceLE|Int.reduceLT|decide_true|decide_false|z_0|qCz|qE3|z_1|qE2|z_2|qE1|z_3|z_4|qE0|z_5|qEZ|z_7|qEY|z_8|qEX|and_true").mapM fun s=>`(Lean.Parser.Tactic.simpLemma| $s:ident)
 let c:=a++b
 `(tactic|simp -implicitDefEqProofs only[$c,*])
local macro_rules | `(tactic| walk_at "evs") => do
 let some s<-Lean.Macro.expandMacro? (<-`(tactic|walk_at "ev"))|Lean.Macro.throwUnsupported
 match s with
 | `(tactic|simp -implicitDefEqProofs only[$ls,*])=>`(tactic|simp -implicitDefEqProofs only[*,ao,ne_eq,not_false_eq_true,$ls,*])
 |_=>Lean.Macro.throwUnsupported
section
variable {e:Env}{n:Nat}{M:RM}{Q:ak}
theorem QO{i:Int}:aA (P e) (n+1) 0 [.int i] M Q=Q (.bl true) M:=by
 rw[us (i:=0) (d:=xI) rfl];simp only[xI];walk_at "ev"
theorem nH{i j k:Int}:aA (P e) (n+2) 48 [.int i,.int j,.int k] M Q=Q (.bl (decide (j<=i)&&decide (i<=k))) M:=by
 rw[us (i:=48) (d:=xm) rfl];simp only[xm];walk_at "ev";simp only[↓QO];walk_at "ev";simp only[KQ]
theorem QS{i:Int}:aA (P e) (n+3) 1 [.int i] M Q=Q (.bl (decide (0<=i)&&decide (i<=99))) M:=by
 rw[us (i:=1) (d:=xN) rfl];simp only[xN];walk_at "ev";rw[nH]
theorem uJ{i:Int}:aA (P e) (n+3) 2 [.int i] M Q=Q (.bl (decide (1<=i)&&decide (i<=9999))) M:=by
 rw[us (i:=2) (d:=xZ) rfl];simp only[xZ];walk_at "ev";rw[nH]
theorem QR{i:Int}:aA (P e) (n+3) 3 [.int i] M Q=Q (.bl (decide (0<=i)&&decide (i<=1000000))) M:=by
 rw[us (i:=3) (d:=xM) rfl];simp only[xM];walk_at "ev";rw[nH]
theorem GG{i:Int}:aA (P e) (n+3) 4 [.int i] M Q=Q (.bl (decide (1<=i)&&decide (i<=1000000))) M:=by
 rw[us (i:=4) (d:=xk) rfl];simp only[xk];walk_at "ev";rw[nH]
theorem Q5:inR (.str "note") [.str "note",.str "line"]=true:=by decide+kernel
theorem RP:inR (.str "say") [.str "say"]=true:=by decide+kernel
theorem uZ{x:Str}:(aF k (.str x)=true)=True:=by cases k<;>exact eq_true rfl
theorem Pw:aA (P e) (n+1) 6 [.str "note"] M Q=Q (.bl true) M:=by
 rw[us (i:=6) (d:=rA) rfl];simp only[rA];walk_at "ev";rw[Q5,uZ,true_and]
theorem Pz:aA (P e) (n+1) 25 [.str "note",.str "say"] M Q=Q (.bl true) M:=by
 rw[us (i:=25) (d:=rm) rfl];simp only[rm];walk_at "ev";rw[RP,uZ,true_and]
theorem hR:eM M:=trivial
theorem Zg:Str.length "" =0:=by decide+kernel
theorem Vy:mE "" = []:=by decide+kernel
theorem Gd(h:Q (.bl true) M):aA (P e) (n+2) 8 [.str ""] M Q:=by
 rw[us (i:=8) (d:=xW) rfl];simp only[xW];walk_at "ev";rw[Zg,Vy];walk_at "ev";refine(jg (bd:=fW false 1) (λ_=>true) (λ_=>.bl true) hR _ _ (λx hx=>by cases hx) ?_)
 exact(J1 (bs:=[])).mpr h
theorem Ge(h:Q (.bl true) M):aA (P e) (n+3) 49 [.str "note",.str "say",.str ""] M Q:=by
 rw[us (i:=49) (d:=rB) rfl];simp only[rB];walk_at "ev";rw[Pw,jF,ai rfl,Pz,jF,ai rfl];exact Gd h
theorem ib{a b c d:Int}(f:a<=b)(g:c<=d):(decide (a<=b)&&decide (c<=d))=true:=by simp[f,g]
theorem Tx{a b c d:Int}(f:0<=a/\a<=99)(g:1<=b/\b<=9999)(j:0<=c/\c<=1000000)(k:1<=d/\d<=9999)(h:Q (.bl true) M):aA (P e) (n+4) 9 [.tup [.str "note",.int a,.int b,.int c,.int d,.str "say",.str ""]] M Q:=by
 rw[us (i:=9) (d:=uN) rfl];simp only[uN];walk_at "ev";simp only[↓QS,↓uJ,↓QR,↓jF,ib f.1 f.2,ib g.1 g.2,ib j.1 j.2,ib k.1 k.2,↓reduceIte];exact Ge h
theorem x8{x:Str}:aA (P e) (n+1) 12 [.tup (.str x::r)] M Q=Q (.str x) M:=by
 rw[us (i:=12) (d:=xV) rfl];simp only[xV];walk_at "ev";simp only[WE,jr,↓reduceIte]
structure Tb(e:Env):Prop where
 out:∃a,et (e.tb "DEEDS") (.inr "out")=some (.ref a)/\(a,9)∈e.cv
 come:∃a,et (e.tb "DEEDS") (.inr "come")=some (.ref a)/\(a,10)∈e.cv
 wait:∃a,et (e.tb "DEEDS") (.inr "wait")=some (.ref a)/\(a,11)∈e.cv
 time:et (e.tb "TIME_AT") (.inr "note")=some (.int 0)
theorem RG(tb:Tb e){a b c d:Int}(k:0<=a/\a<=99)(l:1<=b/\b<=9999)(m:0<=c/\c<=1000000)(o:1<=d/\d<=9999)(h:Q (.bl true) M):aA (P e) (n+5) 13 [.tup [.str "out",.str "note",.int a,.int b,.int c,.int d,.str "say",.str ""]] M Q:=by
 rw[us (i:=13) (d:=j0) rfl];simp only[j0];walk_at "ev";rw[x8];walk_at "ev";obtain⟨f,g,j⟩:=tb.out;rw[g,x9,ym,ae (by simp)]
 refine⟨_,aP.mpr ⟨_,j,rfl⟩,?_⟩;walk_at "ev";rw[oo];exact Tx k l m o h
theorem RH{a b c:Int}(f:1<=a/\a<=1000000)(g:1<=b/\b<=9999)(j:1<=c/\c<=9999)(h:Q (.bl true) M):aA (P e) (n+4) 10 [.tup [.str "note",.int a,.int b,.int c,.str "say",.str ""]] M Q:=by
 rw[us (i:=10) (d:=qb) rfl];simp only[qb];walk_at "ev";simp only[↓GG,↓uJ,↓jF,ib f.1 f.2,ib g.1 g.2,ib j.1 j.2,↓reduceIte];exact Ge h
theorem Qm(tb:Tb e){a b c:Int}(k:1<=a/\a<=1000000)(l:1<=b/\b<=9999)(m:1<=c/\c<=9999)(h:Q (.bl true) M):aA (P e) (n+5) 13 [.tup [.str "come",.str "note",.int a,.int b,.int c,.str "say",.str ""]] M Q:=by
 rw[us (i:=13) (d:=j0) rfl];simp only[j0];walk_at "ev";rw[x8];walk_at "ev";obtain⟨f,g,j⟩:=tb.come;rw[g,x9,ym,ae (by simp)]
 refine⟨_,aP.mpr ⟨_,j,rfl⟩,?_⟩;walk_at "ev";rw[oo];exact RH k l m h
theorem QQ:aA (P e) (n+3) 5 [.int k] M Q=Q (.bl (decide (0<=k)&&decide (k<=1000000))) M:=by
 rw[us (i:=5) (d:=xK) rfl];simp only[xK];walk_at "ev";rw[nH]
theorem Qk(tb:Tb e)(c:0<=k)(g:k<=1000000)(h:Q (.bl true) M):aA (P e) (n+5) 13 [.tup [.str "wait",.int k]] M Q:=by
 rw[us (i:=13) (d:=j0) rfl];simp only[j0];walk_at "ev";rw[x8];walk_at "ev";obtain⟨f,a,b⟩:=tb.wait;rw[a,x9,ym,ae (by simp)]
 refine⟨_,aP.mpr ⟨_,b,rfl⟩,?_⟩;walk_at "ev";rw[oo];rw[us (i:=11) (d:=uI) rfl];simp only[uI];walk_at "ev";rw[QQ];simp only[c,g,decide_true,Bool.and_true];exact h
theorem Ak(tb:Tb e){l h b f c mo re a g j k:RV}:aA (P e) (n+1) 28 [.tup [l,h,b,f,c,mo,re,.tup [a,g,j,k]],.str "note"] M Q=Q a M:=by
 rw[us (i:=28) (d:=xU) rfl];simp only[xU];walk_at "ev";rw[tb.time];walk_at "ev"
theorem Qt{s:RV}(h:s= .aq∨s= .str "note"):aA (P e) (n+1) 29 [s,.str "say"] M Q=Q (.str "note") M:=by
 rcases h with rfl|rfl<;>(rw[us (i:=29) (d:=xy) rfl];simp only[xy];walk_at "ev")
theorem Ar{s a:RV}(h:s= .aq∨s= .str "note"):aA (P e) (n+2) 64 [.str "note",s,a,.str "say"] M Q=Q (.str "note") M:=by
 rw[us (i:=64) (d:=xA) rfl];simp only[xA];walk_at "ev";rw[Qt h]
theorem SY{a:Str}{l h m k mo re o g ho b pl j:RV}:aA (P e) (n+1) 27 [.tup [l,h,.str a,m,k,mo,re,o],.tup [g,ho,b,pl,j]] M Q=
 Q (if a= "door" then .tup [g,ho,b,.aq,.aq]else if a= "place" then .tup [g,ho,b,pl,.aq]else .tup [g,ho,b,pl,j]) M:=by
 rw[us (i:=27) (d:=xq) rfl];simp only[xq];walk_at "ev";simp only[fM]
 by_cases c:a= "door"
 . rw[ai c,ai c]
 . rw[ae c,ae c]
   by_cases f:a= "place"
   . rw[ai f,ai f]
   . rw[ae f,ae f]
theorem SJ{l h:Int}(a:1<=l)(b:l<=h)(c:h<=9999)(f:h<=l+199):aA (P e) (n+4) 26 [.int l,.int h] M Q=Q (.bl true) M:=by
 rw[us (i:=26) (d:=xX) rfl];simp only[xX];walk_at "ev";rw[uJ,ib a (by omega),jF,ai rfl,uJ,ib (by omega) c,jF,ai rfl]
 rw[d8 b,d8 f];rfl
theorem Rj{a b c d:Int}(k:1<=a/\a<=1000000)(l:1<=b/\b<=1000000)(m:1<=c/\c<=1000000)(f:0<=d/\d<=1000000)(h:Q (.bl true) M):aA (P e) (n+3) 14 [.tup [.int a,.int b,.int c,.int d]] M Q:=by
 rw[us (i:=14) (d:=xJ) rfl];simp only[xJ];walk_at "ev";rw[show gy [RV.int a,RV.int b,RV.int c,RV.int d] none (some 3)= [RV.int a,RV.int b,RV.int c]from rfl]
 refine⟨(by decide:3<sizeLine),jg (bd:=fW false 1) (λ_=>true) (λ_=>.bl true) hR _ _ (λx hx=>⟨[x],rfl,λK h=>h,λ_ K h=>?_⟩) ?_⟩
 . have:∃i:Int,x= .int i/\1<=i/\i<=1000000:=by
    simp only[eY,qR,or_false]at hx;rcases hx with rfl|rfl|rfl
    . exact⟨a,rfl,k⟩
    . exact⟨b,rfl,l⟩
    . exact⟨c,rfl,m⟩
   obtain⟨i,rfl,g,j⟩:=this;walk_at "ev";rw[nH,ib g j];exact h
 . refine(J1 (bs:=[true,true,true])).mpr ?_
   show xg _ Q (.bl true) M;rw[jF,ai rfl,nH,ib f.1 f.2];exact h
theorem UY{x:Str}(h:x= "door"∨x= "place"∨x= "talk"):inR (.str x) [.str "door",.str "place",.str "talk"]=true:=by rcases h with rfl|rfl|rfl<;>decide+kernel
theorem Si{x:Str}(h:x= "all"∨x= "place"∨x= "talk"):inR (.str x) [.str "all",.str "place",.str "talk"]=true:=by rcases h with rfl|rfl|rfl<;>decide+kernel
theorem U6{x:Str}(h:x= "next"∨x= "keep"):inR (.str x) [.str "next",.str "keep"]=true:=by rcases h with rfl|rfl<;>decide+kernel
structure Fm where
 low:Int
 high:Int
 lend:Str
 sieve:Str
 pick:Str
 most:Int
 renew:Bool
 t0:Int
 t1:Int
 t2:Int
 t3:Int
def Fm.times(f:Fm):RV:=.tup [.int f.t0,.int f.t1,.int f.t2,.int f.t3]
noncomputable def Fm.r(f:Fm):RV:=.tup [.int f.low,.int f.high,.str f.lend,.str f.sieve,.str f.pick,.int f.most,.bl f.renew,f.times]
structure Fm.Ok(f:Fm):Prop where
 lo:1<=f.low
 le:f.low<=f.high
 hi:f.high<=9999
 wide:f.high<=f.low+199
 lend:f.lend= "door"∨f.lend= "place"∨f.lend= "talk"
 sieve:f.sieve= "all"∨f.sieve= "place"∨f.sieve= "talk"
 pick:f.pick= "next"∨f.pick= "keep"
 most:1<=f.most/\f.most<=200
 t0:1<=f.t0/\f.t0<=1000000
 t1:1<=f.t1/\f.t1<=1000000
 t2:1<=f.t2/\f.t2<=1000000
 t3:0<=f.t3/\f.t3<=1000000
theorem RF{f:Fm}(a:f.Ok)(h:Q (.bl true) M):aA (P e) (n+5) 15 [f.r] M Q:=by
 unfold Fm.r;rw[us (i:=15) (d:=xY) rfl];simp only[xY];walk_at "ev";simp only[UY a.lend,Si a.sieve,U6 a.pick,uZ,↓reduceIte,Bool.not_true,jr,true_and];rw[nH,ib a.most.1 a.most.2];walk_at "ev";rw[SJ a.lo a.le a.hi a.wide,jF,ai rfl];exact Rj a.t0 a.t1 a.t2 a.t3 h
end
section
variable {κ κ' β:Type}[DecidableEq κ][DecidableEq κ']{g:κ->κ'}{v:β->RV}
def enc(g:κ->κ')(v:β->RV)(l:List (κ×β)):List (κ'×RV):=l.map λx=>(g x.1,v x.2)
theorem nS(c:∀a b,g a=g b->a=b):∀{l:List (κ×β)},lk (enc g v l) (g k)=(lk l k).map v
 | []=>rfl
 |(j,x)::r=>by
  show lk ((g j,v x)::enc g v r) (g k)=_;rw[fB,fB]
  by_cases h:j=k
  . rw[ai h,ai (by rw[h])];rfl
  . rw[ae h,ae (λz=>h (c _ _ z))];exact nS c
theorem jG(hg:∀a b,g a=g b->a=b){l:List (κ×β)}:pt (enc g v l) (g k) (v y)=enc g v (pt l k y):=by
 have e1:((enc g v l).any λkv=>decide (kv.1=g k))=(l.any λkv=>decide (kv.1=k)):=by
  unfold enc;rw[List.any_map];congr 1;funext x;exact oT.mpr ⟨λz=>hg _ _ z,λz=>by show g x.1=g k;rw[z]⟩
 unfold pt;rw[e1];split
 . unfold enc
   rw[bG,bG];refine iG λx _=>?_
   show(if g x.1=g k then(g x.1,v y)else(g x.1,v x.2))=(g (if x.1=k then(x.1,y)else x).1,v (if x.1=k then(x.1,y)else x).2)
   by_cases h:x.1=k
   . rw[ai h,ai (by rw[h])]
   . rw[ae h,ae (λz=>h (hg _ _ z))]
 . unfold enc;rw[fF];rfl
theorem mJ(c:∀a b,g a=g b->a=b){l:List (κ×β)}:dr (enc g v l) (g k)=enc g v (dr l k):=by
 unfold dr enc;rw[m9];congr 2;funext x;exact oT.mpr ⟨λz q=>z (by rw[<-q]),λz q=>z (c _ _ q)⟩
theorem Vz{l:List (κ×β)}(h:lk l k=none):dr l k=l:=by
 unfold dr;refine qV.mpr λx hx=>?_
 unfold lk at h;rw[Option.map_eq_none_iff,il]at h;have:=h x hx;simpa using this
theorem hO{l:List (κ×β)}:(enc g v l).length=l.length:=by simp[enc]
theorem uY{l:List (κ×β)}:(pt l k y).length<=l.length+1:=by
 unfold pt;split<;>simp
theorem nO{l:List (κ×β)}(h:lk l k=none):pt l k y=l++ [(k,y)]:=by
 unfold pt;rw[ae];intro z;obtain⟨x,hx,e⟩:=gL.mp z;unfold lk at h;rw[Option.map_eq_none_iff,il]at h;exact h x hx e
theorem iV(a b)(h:(Sum.inl a:Key)= .inl b):a=b:=Sum.inl.inj h
theorem iA(a b:TK)(h:id a=id b):a=b:=h
end
section
variable {e:Env}{n:Nat}{M:RM}{Q:ak}
structure aw where
 low:Int
 high:Int
 mark:Int
 taken:List (Int×Unit)
 bL:List (Int×Int)
def eT(l:List (Int×Unit)):bP:=enc Sum.inl (λ_=>.bl true) l
def eU(l:List (Int×Int)):bP:=enc Sum.inl RV.int l
structure iB(e:Env)(M:RM)(a ta un:Addr)(p:aw):Prop where
 o:M a=some (eO e (.int p.low) (.int p.high) (.int p.mark) (.ref ta) (.ref un))
 t:M ta=some (.dk (eT p.taken))
 u:M un=some (.dk (eU p.bL))
def aw.has(p:aw)(i:Int):Bool:=decide (p.low<=i)&&decide (i<=p.high)
noncomputable def aw.free(p:aw)(i m:Int):Bool:=p.has i&& !(lk p.taken i).isSome&&(match lk p.bL i with|none=>true|some u=>decide (u<=m))
theorem KD{l:List (Int×Unit)}{i:Int}:(lk (eT l) (.inl i)).isSome=(lk l i).isSome:=by
 unfold eT;rw[nS iV];simp
theorem KC{l:List (Int×Int)}{i:Int}:lk (eU l) (.inl i)=(lk l i).map RV.int:=nS iV
theorem yH{a:Addr}{l h i:Int}{mk ta un:RV}(o:M a=some (eO e (.int l) (.int h) mk ta un)):aA (P e) (n+1) 30 [.ref a,.int i] M Q=Q (.bl (decide (l<=i)&&decide (i<=h))) M:=by
 rw[us (i:=30) (d:=uu) rfl];simp only[uu];walk_at "ev";rw[o];walk_at "ev";rw[o];walk_at "ev";exact KQ
theorem Hn{a ta un:Addr}{p:aw}{i m:Int}(h:iB e M a ta un p):aA (P e) (n+2) 51 [.ref a,.int i,.int m] M Q=Q (.bl (p.free i m)) M:=by
 obtain⟨ho,b,c⟩:=h;rw[us (i:=51) (d:=t7) rfl];simp only[t7];walk_at "evs";rw[yH ho];walk_at "evs";rw[KD,KC];unfold aw.free aw.has;cases(decide (p.low<=i)&&decide (i<=p.high))<;>cases(lk p.taken i).isSome<;>cases lk p.bL i<;>simp[wO,T6,cU]<;>rfl
noncomputable def aw.line (p:aw):List Int:=(List.range (p.high+1-p.mark).toNat).map (λ(i:Nat)=>p.mark+(i:Int))++(List.range (p.mark-p.low).toNat).map λ(i:Nat)=>p.low+(i:Int)
structure aw.Ok(p:aw):Prop where
 lo:1<=p.low
 mlo:p.low<=p.mark
 mhi:p.mark<=p.high
 hi:p.high<=9999
 wide:p.high<=p.low+199
theorem HY{a:Int}:yg a k=((List.range k).map λ(i:Nat)=>a+(i:Int)).map RV.int:=by unfold yg;rw[bG];rfl
theorem Tg(p:aw)(a:p.Ok):p.line.length<=200:=by
 obtain⟨o1,b,c,d,f⟩:=a;unfold aw.line;simp;omega
theorem QL{a ta un:Addr}{p:aw}(c:p.Ok)(h:iB e M a ta un p)(f:Q (.ls (p.line.map RV.int)) M):aA (P e) (n+1) 17 [.ref a] M Q:=by
 have b:=Tg p c;obtain⟨ho,g,j⟩:=h;obtain⟨o1,k,l,m,o⟩:=c;rw[us (i:=17) (d:=ue) rfl];simp only[ue];walk_at "evs";rw[HY,HY,<-fF];refine⟨by omega,by omega,by omega,by omega,?_,f⟩
 unfold aw.line at b;simp only[bo,eF]at b ⊢;exact cq b (by decide)
def aw.pick(p:aw)(b:Bool)(a m:Int):Option Int:=if(b&&p.free a m)=true then some a else p.line.find? λi=>p.free i m
def qF:Option Int->RV
 |some i=>.int i
 |none=>.aq
theorem Tu{a ta un:Addr}{p:aw}{pick:Str}(ok:p.Ok)(h:iB e M a ta un p)(hq:Q (qF (p.pick (pick== "keep") d m)) M):aA (P e) (n+3) 65 [.ref a,.str pick,.int d,.int m] M Q:=by
 obtain⟨ho,ht,hu⟩:=id h;have rest:∀(xs:List Int) (z:Option RV),Q (qF (xs.find? λi=>p.free i m)) M->jK (kc 4) (tr ((P e).Gn (n+2)) (.se (.bc (.me 51 (.v 0) (.ec (.v 4) (.ec (.v 3) .e0))) (.se (.re (.v 4)) .en) .en) .en)).S
  { nx:=(tr ((P e).Gn (n+2)) (.se (.re .n) .en)).S (rd Q),rt:=Q,bk:=(rd Q).bk,ct:=(rd Q).ct } eM id (xs.map RV.int) [some (.ref a),some (.str pick),some (.int d),some (.int m),z] M:=by
  intro xs
  induction xs with
  |nil=>intro z hq;refine⟨hR,?_⟩;show Q .aq M;exact hq
  |cons x xs ih=>
   intro z hq;refine⟨hR,?_⟩;unfold kc;walk_at "evs";rw[Hn h,eQ];rw[i7]at hq;cases e1:p.free x m with
   |true=>rw[e1]at hq;rw[ai rfl];first|exact hq|exact And.intro hR hq
   |false=>rw[e1]at hq;rw[ae (by simp)];exact ih _ hq
 have tail:Q (qF (p.line.find? λi=>p.free i m)) M->aA (P e) (n+2) 17 [.ref a] M (kS λxs ok un M1=>jK (kc 4) (tr ((P e).Gn (n+2)) (.se (.bc (.me 51 (.v 0) (.ec (.v 4) (.ec (.v 3) .e0))) (.se (.re (.v 4)) .en) .en) .en)).S
  { nx:=(tr ((P e).Gn (n+2)) (.se (.re .n) .en)).S (rd Q),rt:=Q,bk:=(rd Q).bk,ct:=(rd Q).ct } ok un xs [some (.ref a),some (.str pick),some (.int d),some (.int m),none] M1):=λhq=>QL ok h (rest _ _ hq)
 rw[us (i:=65) (d:=ux) rfl];simp only[ux];walk_at "evs";unfold aw.pick at hq;cases e1:(pick== "keep")with
 |false=>
  rw[e1]at hq;simp only[Bool.false_and,jr,↓reduceIte]at hq ⊢;exact tail hq
 |true=>
  rw[e1]at hq;simp only[Bool.true_and,↓reduceIte]at hq ⊢;rw[Hn h,eQ];cases e2:p.free d m with
  |true=>rw[e2]at hq;rw[ai rfl];exact hq
  |false=>
   rw[e2]at hq;simp only[jr,↓reduceIte]at hq ⊢;rw[ho,Pe];exact tail hq
def aw.take(p:aw)(i:Int):aw:={ p with taken:=pt p.taken i (),bL:=dr p.bL i,mark:=if i=p.high then p.low else i+1 }
theorem rF{a:Addr}(h:M a=some o):put M a o=M:=by
 funext b;unfold put;by_cases z:b=a
 . rw[ai z,z,h]
 . rw[ae z]
theorem AD{a b:Addr}{o:RO}(c:M a=some (.ins C fs))(d:M b=some (.dk kvs)):a≠b:=λz=>by rw[z,d]at c;cases c
theorem V0{a ta un:Addr}{p:aw}{i:Int}(h:iB e M a ta un p)(g:p.taken.length<1000)(k:un≠ta)
 (b:Q .aq (put (put (put M ta (.dk (eT (p.take i).taken))) un (.dk (eU (p.take i).bL))) a (eO e (.int p.low) (.int p.high) (.int (p.take i).mark) (.ref ta) (.ref un)))):aA (P e) (n+1) 31 [.ref a,.int i] M Q:=by
 obtain⟨ho,j,c⟩:=h;have m:a≠ta:=AD (o:=.dk []) ho j;have r:a≠un:=AD (o:=.dk []) ho c;have e1:pt (eT p.taken) (Sum.inl i) (RV.bl true)=eT (p.take i).taken:=jG (v:=λ_:Unit=>RV.bl true) iV (y:=())
 have l:dr (eU p.bL) (Sum.inl i)=eU (p.take i).bL:=mJ iV;have fin:∀M1,M1=put (put M ta (.dk (eT (p.take i).taken))) un (.dk (eU (p.take i).bL))->if(i==p.high)=true then Q .aq (put M1 a (eO e (.int p.low) (.int p.high) (.int p.low) (.ref ta) (.ref un)))else Q .aq (put M1 a (eO e (.int p.low) (.int p.high) (.int (i+1)) (.ref ta) (.ref un))):=λM1 f=>by
  subst f;unfold aw.take at b ⊢
  by_cases z:i=p.high
  . rw[ai (by simpa using z)];simp only[ai z]at b;exact b
  . rw[ae (by simpa using z)];simp only[ae z]at b;exact b
 rw[us (i:=31) (d:=ui) rfl];simp only[ui];walk_at "evs";rw[KC];refine⟨by unfold eT;rw[hO];exact fq g (by decide),?_⟩
 cases e3:lk p.bL i with
 |none=>
  rw[ae (by simp)]
  refine fin _ ?_;have:(p.take i).bL=p.bL:=Vz e3;rw[this];exact(rF ((ao k).trans c)).symm
 |some v=>
  simp only[Option.map_some,Ck,if_true,true_and]
  all_goals exact fin _ rfl
end
section
variable {e:Env}{n:Nat}{M:RM}{Q:ak}
structure ay where
 kind:Str
 house:Int
 door:Int
 place:Int
 far:Int
noncomputable def ay.k(i:ay):TK:=[some (.inr i.kind),some (.inl i.house),some (.inl i.door),some (.inl i.place),some (.inl i.far)]
def ay.r(i:ay):RV:=.tup [.str i.kind,.int i.house,.int i.door,.int i.place,.int i.far]
theorem ay.Cc(i:ay):i.r=cz i.k:=rfl
theorem IU:∀k,sE (k.map oR)=some k
 | []=>rfl
 |x::r=>by
  have e1:zj (oR x)=some x:=by cases x with|none=>rfl|some k=>cases k<;>rfl
  show(match zj (oR x),sE (r.map oR)with|some k,some ks=>some (k::ks)|_,_=>none)=_
  rw[e1,IU r]
theorem hZ(k):cI (cz k)=some k:=IU k
noncomputable def aS (f:Fm)(i:ay):TK:=if f.lend= "door" then [some (.inr i.kind),some (.inl i.house),some (.inl i.door),none,none]else if f.lend= "place" then [some (.inr i.kind),some (.inl i.house),some (.inl i.door),some (.inl i.place),none]else i.k
theorem Gu{f:Fm}{i:ay}:aA (P e) (n+1) 27 [f.r,i.r] M Q=Q (cz (aS f i)) M:=by
 unfold Fm.r ay.r aS;rw[SY]
 by_cases a:f.lend= "door"
 . rw[ai a,ai a];rfl
 . rw[ae a,ae a]
   by_cases b:f.lend= "place"
   . rw[ai b,ai b];rfl
   . rw[ae b,ae b];rfl
def eA(l:List (TK×Addr)):List (TK×RV):=enc id RV.ref l
def eB(l:List (Int×Addr)):bP:=enc Sum.inl RV.ref l
def eH(l:List (Int×TK)):bP:=enc Sum.inl cz l
def eN(l:List (TK×Int)):List (TK×RV):=enc id RV.int l
theorem sm{l:List (TK×Addr)}:lk (eA l) k=(lk l k).map RV.ref:=nS (g:=id) iA
theorem nU{l:List (Int×Addr)}{i:Int}:lk (eB l) (.inl i)=(lk l i).map RV.ref:=nS iV
theorem KG{l:List (TK×Int)}:lk (eN l) k=(lk l k).map RV.int:=nS (g:=id) iA
theorem BH{l:List (Int×TK)}{i:Int}:lk (eH l) (.inl i)=(lk l i).map cz:=nS iV
def og:Option Addr->RV
 |some a=>.ref a
 |none=>.aq
variable {t pl bi bn ho nu:Addr}{fr now:RV}
theorem QN{l:List (TK×Addr)}(b:M t=some (bE e fr rp now (.ref bi) rbn rho rnu))(a:M bi=some (.dt (eA l))):aA (P e) (n+1) 33 [.ref t,cz k] M Q=Q (og (lk l k)) M:=by
 rw[us (i:=33) (d:=uc) rfl];simp only[uc];walk_at "evs";rw[BN (hZ k),sm];cases lk l k<;>rfl
theorem xP{f:Fm}{i:ay}{l:List (TK×Int)}(b:M t=some (bE e f.r rp now rbi rbn rho (.ref nu)))(a:M nu=some (.dt (eN l))):aA (P e) (n+2) 34 [.ref t,i.r] M Q=Q (qF (lk l (aS f i))) M:=by
 rw[us (i:=34) (d:=t9) rfl];simp only[t9];walk_at "evs";rw[Gu];first|rw[Qa]|skip
 rw[a,BN (hZ _),KG];cases lk l (aS f i)<;>rfl
def jM(l:List (Int×TK))(h:Int):List Int:=(l.filter λx=>decide (x.2[1]? =some (some (.inl h)))).map (·.1)
def tag:RO->Nat
 | .dk _=>0
 | .dt _=>1
 | .lst _=>2
 | .fk _=>3
 | .ft _=>4
 | .tb _ _ _=>5
 | .ins _ fs=>10+fs.length
theorem br{a b:Addr}(c:M a=some o)(d:M b=some o')(h:(tag o==tag o')=false:=by rfl):a≠b:=λz=>by
 rw[z,d]at c;cases c;simp at h
theorem KA[DecidableEq κ]{l:List (κ×β)}:lk (pt l k y) k=some y:=by
 induction l with
 |nil=>show lk [(k,y)] k=_;rw[fB,ai rfl]
 |cons x r ih=>
  obtain⟨j,z⟩:=x;unfold pt at ih ⊢;rw[jX]
  by_cases h:j=k
  . rw[ai (by simp[h])]
    show lk ((if(j,z).1=k then((j,z).1,y)else(j,z))::_) k=_
    rw[ai h,fB,ai h]
  . rw[show(decide ((j,z).1=k)||r.any λkv=>decide (kv.1=k))=r.any λkv=>decide (kv.1=k) by simp[h]]
    split
    . rename_i h2
      rw[ai h2]at ih;show lk ((if(j,z).1=k then((j,z).1,y)else(j,z))::_) k=_
      rw[ae h,fB,ae h];exact ih
    . rename_i h2
      rw[ae h2]at ih;show lk ((j,z)::(r++ [(k,y)])) k=_;rw[fB,ae h];exact ih
theorem eR{x a:Addr}(hx:M x=none)(h:M a=some o):a≠x:=λz=>by
 rw[z,hx]at h;cases h
theorem bb{x a:Addr}(h:put M a o x=none):M x=none/\x≠a:=by
 unfold put at h
 by_cases z:x=a
 . rw[ai z]at h;cases h
 . rw[ae z]at h;exact⟨h,z⟩
theorem yd{a b:Addr}(h:a≠b):put (put M a o) b o'=put (put M b o') a o:=by
 funext c;unfold put
 by_cases d:c=b
 . rw[ai d,ae (by rw[d];exactλz=>h z.symm),ai d]
 . rw[ae d,ae d]
noncomputable def tM(h:Int):RV->Bool
 | .tup [_,.tup (_::.int j::_)]=>j==h
 |_=>false
def xf:RV->RV
 | .tup [k,_]=>k
 |_=>.aq
theorem held_eq:∀{l:List (Int×TK)},(∀x∈l,∃k j r,x.2=k::some (.inl j)::r)->((jj (eH l)).filter (tM h)).map xf=(jM l h).map RV.int
 | [],_=>rfl
 |(m,y)::l,hh=>by
  obtain⟨k,j,r,e1⟩:=hh (m,y) (.head _);have e1:y=k::some (.inl j)::r:=e1;subst e1;have a:=held_eq (h:=h) (l:=l) λx hx=>hh x (.tail _ hx)
  show List.map xf (List.filter (tM h) (.tup [.int m,cz (k::some (.inl j)::r)]::jj (eH l)))=_;have p1:tM h (.tup [.int m,cz (k::some (.inl j)::r)])=(j==h):=rfl;unfold jM at a ⊢
  by_cases z:j=h
  . rw[wx (by rw[p1];simpa using z),wx (by simpa using z),bF,bF,bF,a];rfl
  . rw[wy (by rw[p1];simpa using z),wy (by simpa using z),a]
theorem Bf{l:List (Int×TK)}(v:M t=some (bE e fr rp now rbi rbn (.ref ho) rnu))(c:M ho=some (.dk (eH l)))(f:∀x∈l,∃k j r,x.2=k::some (.inl j)::r)(o:l.length<1000)(s:Q (.ls ((jM l h).map RV.int)) M):
 aA (P e) (n+1) 36 [.ref t,.int h] M Q:=by
 rw[us (i:=36) (d:=uC) rfl];simp only[uC];walk_at "evs";unfold sF;simp only[c];refine⟨by unfold jj eH;rw[bo,hO];exact fq o (by decide),jg (tM h) xf bw _ _ (λx hx=>?_) ?_⟩
 . obtain⟨w,b,rfl⟩:=aP.mp hx
   obtain⟨y,u,rfl⟩:=aP.mp b;obtain⟨k,j,r,e1⟩:=f y u;have m:cz y.2= .tup (oR k::.int j::r.map oR):=by rw[e1];rfl
   show ∃g,fW true 2 (.tup [.int y.1,cz y.2])=some g/\_;rw[m];refine⟨_,rfl,λK a=>?_,λ_ K a=>?_⟩
   . walk_at "ev";exact a
   . walk_at "ev";exact a
 . show Q (.ls (([]++((jj (eH l)).filter (tM h)).map xf))) (put (put M ho (.fk (eH l))) ho (.dk (eH l)))
   rw[gq,rF c,jU,held_eq f];exact s
theorem V2{pl ta un:Addr}{f:Fm}{i:ay}{p:aw}{hs:List (Int×TK)}{ns:List (TK×Int)}(c:M t=some (bE e f.r (.ref pl) now rbi rbn (.ref ho) (.ref nu)))(a:iB e M pl ta un p)(h:M ho=some (.dk (eH hs)))(b:M nu=some (.dt (eN ns)))
 (j:p.taken.length<1000) (l1:hs.length<1000) (l2:ns.length<1000) (k:un≠ta) (C:ho≠ta) (D:ho≠un)
 (A:Q .aq (put (put (put (put (put M ta (.dk (eT (p.take m).taken))) un (.dk (eU (p.take m).bL))) pl (eO e (.int p.low) (.int p.high) (.int (p.take m).mark) (.ref ta) (.ref un))) ho (.dk (eH (pt hs m (aS f i))))) nu (.dt (eN (pt ns (aS f i) m))))):
 aA (P e) (n+2) 54 [.ref t,.int m,i.r] M Q:=by
 have l:t≠ta:=br c a.t;have o:t≠pl:=br c a.o;have r:ho≠pl:=br h a.o;have s:nu≠pl:=br b a.o;have u:nu≠ta:=br b a.t;have v:nu≠ho:=br b h;have w:t≠ho:=br c h;have x:t≠un:=br c a.u;have y:nu≠un:=br b a.u;have e1:pt (eH hs) (Sum.inl m) (cz (aS f i))=eH (pt hs m (aS f i)):=jG iV;have z:pt (eN ns) (aS f i) (RV.int m)=eN (pt ns (aS f i) m):=jG (g:=id) iA;rw[us (i:=54) (d:=uz) rfl];simp only[uz];walk_at "evs";rw[Gu];walk_at "evs";rw[a.o,Pg];walk_at "ev";refine V0 a j k ?_;walk_at "evs";rw[qw (hZ _)];walk_at "evs";unfold eH eN;rw[hO,hO];exact⟨fq l1 (by decide),fq l2 (by decide)⟩
theorem Gf{x:Addr}{a b c d:RV}(f:Q .aq (put M x (bU e a b c d))):aA (P e) (n+1) 69 [.ref x,a,b,c,d] (put M x (.ins (e.C 2) [])) Q:=by
 rw[us (i:=69) (d:=uh) rfl];simp only[uh];walk_at "evs"
theorem P9{x:Addr}(hx:M x=none)(f:∀s,M s=none->s≠x->Q .aq (put (put M s (.dk [])) x (AX e (.int 0) (.ref s)))):aA (P e) (n+1) 16 [.ref x] (put M x (.ins (e.C 0) [])) Q:=by
 rw[us (i:=16) (d:=uD) rfl];simp only[uD];walk_at "ev";intro s hs;obtain⟨c,a⟩:=bb hs;have b:x≠s:=aY a;have q:=f s c a;rw[ao b];walk_at "ev";rw[yd b,gq];exact q
theorem Qp{x:Addr}{l h:Int}(hx:M x=none)(w:∀ta un,M ta=none->M un=none->ta≠x->un≠x->un≠ta->Q .aq (put (put (put M ta (.dk [])) un (.dk [])) x (eO e (.int l) (.int h) (.int l) (.ref ta) (.ref un)))):aA (P e) (n+1) 50 [.ref x,.int l,.int h] (put M x (.ins (e.C 1) [])) Q:=by
 rw[us (i:=50) (d:=uj) rfl];simp only[uj];walk_at "ev";intro ta c;obtain⟨v,k⟩:=bb c;have m:x≠ta:=aY k;rw[ao m];walk_at "ev";intro un f;obtain⟨o,g⟩:=bb f;obtain⟨r,s⟩:=bb o;obtain⟨u,_⟩:=bb r;have j:x≠un:=aY g;have q:=w ta un v u k g s;rw[ao j];walk_at "ev";rw[yd (a:=x) (b:=ta) m,gq,yd (a:=x) (b:=un) j,gq];exact q
theorem Qn{f:Fm}{i:ay}{b:Addr}(tb:Tb e)(c:M t=some (bE e f.r rp (.int nw) (.ref bi) (.ref bn) rho rnu))(a:M bi=some (.dt (eA li)))(h:M bn=some (.dk (eB lb)))(o:lk lb m=some b)(l:M b=some (.dt (eA lb')))
 (l1:li.length<1000) (l2:lb'.length<1000) (C:b≠bi)
 (r:∀x,M x=none->Q .aq (put (put (put M x (bU e i.r (.int m) (.str "note") (.int (nw+f.t0)))) bi (.dt (eA (pt li i.k x)))) b (.dt (eA (pt lb' [some (.inr i.kind),some (.inl i.place),some (.inl i.far)] x))))):
 aA (P e) (n+3) 66 [.ref t,i.r,.int m,.str "note"] M Q:=by
 have e0:i.r= .tup [.str i.kind,.int i.house,.int i.door,.int i.place,.int i.far]:=rfl;have s:cI (.tup [.str i.kind,.int i.house,.int i.door,.int i.place,.int i.far])=some i.k:=hZ i.k;have u:cI (.tup [.str i.kind,.int i.place,.int i.far])=some [some (.inr i.kind),some (.inl i.place),some (.inl i.far)]:=rfl;have y:t≠bi:=br c a;have z:bn≠bi:=br h a;have e1:∀x,pt (eA li) i.k (RV.ref x)=eA (pt li i.k x):=λx=>jG (g:=id) iA
 have j:∀k x,pt (eA lb') k (RV.ref x)=eA (pt lb' k x):=λk x=>jG (g:=id) iA
 have A:lk (eB lb) (.inl m)=some (.ref b):=by rw[nU,o];rfl
 have v:(eA li).length<sizeLine:=by unfold eA;rw[hO];exact fq l1 (by decide)
 have w:(eA lb').length<sizeLine:=by unfold eA;rw[hO];exact fq l2 (by decide)
 rw[us (i:=66) (d:=p6) rfl];simp only[p6];rw[e0];walk_at "evs";unfold Fm.r Fm.times;rw[Ak tb,qp];intro x hx;have b1:=eR hx c;have b2:=eR hx a;have b3:=eR hx h;have b4:=eR hx l;have q:=r x hx;refine Gf ⟨rfl,?_⟩;rw[ao b1,c];walk_at "ev";rw[ao b2,a,qw s,e1];refine⟨v,?_⟩;walk_at "evs";rw[qw u,j];refine⟨w,?_⟩;walk_at "ev";exact q
theorem Qo{f:Fm}{i:ay}(tb:Tb e)(a:M t=some (bE e f.r rp (.int nw) (.ref bi) (.ref bn) rho rnu))(b:M bi=some (.dt (eA li)))(c:M bn=some (.dk (eB lb)))(h:lk lb m=none)
 (l1:li.length<1000) (l2:lb.length<1000)
 (l:∀x y,M x=none->M y=none->y≠x->Q .aq (put (put (put (put M x (bU e i.r (.int m) (.str "note") (.int (nw+f.t0)))) bi (.dt (eA (pt li i.k x)))) y (.dt (eA [([some (.inr i.kind),some (.inl i.place),some (.inl i.far)],x)]))) bn (.dk (eB (lb++ [(m,y)]))))):
 aA (P e) (n+3) 66 [.ref t,i.r,.int m,.str "note"] M Q:=by
 have e0:i.r= .tup [.str i.kind,.int i.house,.int i.door,.int i.place,.int i.far]:=rfl;have r:cI (.tup [.str i.kind,.int i.house,.int i.door,.int i.place,.int i.far])=some i.k:=hZ i.k;have s:cI (.tup [.str i.kind,.int i.place,.int i.far])=some [some (.inr i.kind),some (.inl i.place),some (.inl i.far)]:=rfl;have z:t≠bi:=br a b;have A:bn≠bi:=br c b;have C:t≠bn:=br a c;have e1:∀x,pt (eA li) i.k (RV.ref x)=eA (pt li i.k x):=λx=>jG (g:=id) iA
 have F:∀x,pt (eB lb) (.inl m) (RV.ref x)=eB (lb++ [(m,x)]):=λx=>by rw[<-nO h];exact jG iV
 have H:lk (eB lb) (.inl m)=none:=by rw[nU,h];rfl
 have I:∀y,lk (eB (lb++ [(m,y)])) (.inl m)=some (.ref y):=λy=>by
  rw[nU,<-nO h,KA];rfl
 have w:(eA li).length<sizeLine:=by unfold eA;rw[hO];exact fq l1 (by decide)
 have L:(eB lb).length<sizeLine:=by unfold eB;rw[hO];exact fq l2 (by decide)
 rw[us (i:=66) (d:=p6) rfl];simp only[p6];rw[e0];walk_at "evs";unfold Fm.r Fm.times;rw[Ak tb,qp];intro x hx;have b1:=eR hx a;have b2:=eR hx b;have b3:=eR hx c;refine Gf ⟨rfl,?_⟩;rw[ao b1,a];walk_at "ev";rw[ao b2,b,qw r,e1];refine⟨w,?_⟩;walk_at "evs";intro y o;obtain⟨u,J⟩:=bb o;obtain⟨j,v⟩:=bb u;have D:=eR j a;have k:=eR j c;have q:=l x y hx j v;have E:y≠bn:=aY k;walk_at "evs";rw[qw s];refine⟨(by decide:0<sizeLine),?_⟩
 walk_at "ev";rw[yd k,gq];exact q
theorem Jz{f:Fm}{x:Addr}{ri rn rs ro:RV}(tb:Tb e)(a:M t=some (bE e f.r rp (.int nw) rbi rbn rho rnu))(hx:M x=some (bU e ri rn rs ro))(c:Q .aq (put M x (bU e ri rn (.str "note") (.int (nw+f.t0))))):aA (P e) (n+2) 55 [.ref t,.ref x,.str "note"] M Q:=by
 have b:t≠x:=br a hx;rw[us (i:=55) (d:=uA) rfl];simp only[uA];walk_at "evs";rw[ae (by decide)]
 unfold Fm.r Fm.times;rw[Ak tb,qp];walk_at "evs"
end
section
variable {e:Env}{n:Nat}{M:RM}{Q:ak}{g t pl ta un bi bn ho nu:Addr}
theorem FX{rs rd a b c h:RV}{f:Fm}{p:aw}(m:p.Ok)(o:M g=some (cy e f.r (.ref t) rs rd .aq))(r:M t=some (bE e f.r (.ref pl) (.int nw) a b c h))(j:iB e M pl ta un p)
 (l:Q (qF (p.pick (f.pick== "keep") d nw)) M):aA (P e) (n+4) 42 [.ref g,.int d] M Q:=by
 have k:=j.o;rw[us (i:=42) (d:=ub) rfl];simp only[ub];walk_at "evs";unfold Fm.r;walk_at "ev";exact Tu m j l
theorem FQ{a b:Addr}(c:M a=some (cy e v1 v2 v3 v4 v5))(d:M b=some (eO e w1 w2 w3 w4 w5)):a≠b:=λz=>by
 rw[z,d]at c;unfold cy eO at c;injection c with c
 injection c with _ c
 injection c with c _
 injection c with c _
 exact aW c (by decide)
theorem GN:qF (some m)= .int m:=rfl
theorem xR:qF none= .aq:=rfl
theorem CC{i:ay}:bI i.r (.int 0) M Q=Q (.str i.kind) M:=bz.trans (by rw[yV];rfl)
theorem zX{i:ay}:bI i.r (.int 1) M Q=Q (.int i.house) M:=bz.trans (by rw[K8];rfl)
theorem CD{i:ay}:bI i.r (.int 2) M Q=Q (.int i.door) M:=bz.trans (by rw[K7];rfl)
theorem zW{f:Fm}:bI f.r (.int 5) M Q=Q (.int f.most) M:=bz.trans (by rw[Nb];rfl)
theorem PF{rs rd v a:RV}{f:Fm}{i:ay}{ns:List (TK×Int)}{b:Addr}(tb:Tb e)(w:M g=some (cy e f.r (.ref t) rs rd .aq))(c:M t=some (bE e f.r v (.int nw) (.ref bi) (.ref bn) a (.ref nu)))
 (h:M bi=some (.dt (eA li))) (j:M bn=some (.dk (eB lb))) (l:M nu=some (.dt (eN ns))) (r:lk ns (aS f i)=some m) (o:lk lb m=some b) (k:M b=some (.dt (eA lb'))) (l1:li.length<1000) (l2:lb'.length<1000) (u:b≠bi)
 (s:∀x,M x=none->Q (.tup [.str "led",.int m]) (put (put (put M x (bU e i.r (.int m) (.str "note") (.int (nw+f.t0)))) bi (.dt (eA (pt li i.k x)))) b (.dt (eA (pt lb' [some (.inr i.kind),some (.inl i.place),some (.inl i.far)] x))))):
 aA (P e) (n+4) 60 [.ref g,i.r,.str "note"] M Q:=by
 rw[us (i:=60) (d:=jA) rfl];simp only[jA];walk_at "evs";rw[xP c l,r,GN];walk_at "evs";exact Qn tb c h j o k l1 l2 u s
theorem PD{rs rd:RV}{f:Fm}{i:ay}{p:aw}{hs:List (Int×TK)}{ns:List (TK×Int)}(tb:Tb e)(ok:p.Ok)(h:M g=some (cy e f.r (.ref t) rs rd .aq))(b:M t=some (bE e f.r (.ref pl) (.int nw) (.ref bi) (.ref bn) (.ref ho) (.ref nu)))(a:iB e M pl ta un p)
 (l:M bi=some (.dt (eA li))) (D:M bn=some (.dk (eB lb))) (o:M ho=some (.dk (eH hs))) (s:M nu=some (.dt (eN ns))) (W:lk ns (aS f i)=none) (R:lk lb m=none) (U:∀x∈hs,∃k j r,x.2=k::some (.inl j)::r) (E:((jM hs i.house).length:Int)<f.most)
 (c:p.pick (f.pick== "keep") i.door nw=some m) (l0:p.taken.length<1000) (l1:li.length<1000) (l2:lb.length<1000) (l3:hs.length<1000) (l4:ns.length<1000)
 (Z:un≠ta) (n2:ho≠ta) (n3:ho≠un) (n4:bn≠ta) (n5:bn≠un) (n6:bn≠ho) (n7:bi≠nu)
 (X:∀x y,M x=none->M y=none->y≠x->Q (.tup [.str "led",.int m]) (put (put (put (put (put (put (put (put (put M ta (.dk (eT (p.take m).taken))) un (.dk (eU (p.take m).bL))) pl (eO e (.int p.low) (.int p.high) (.int (p.take m).mark) (.ref ta) (.ref un))) ho (.dk (eH (pt hs m (aS f i))))) nu (.dt (eN (pt ns (aS f i) m))))
  x (bU e i.r (.int m) (.str "note") (.int (nw+f.t0)))) bi (.dt (eA (pt li i.k x)))) y (.dt (eA [([some (.inr i.kind),some (.inl i.place),some (.inl i.far)],x)]))) bn (.dk (eB (lb++ [(m,y)]))))):
 aA (P e) (n+5) 60 [.ref g,i.r,.str "note"] M Q:=by
 have H:t≠ta:=br b a.t;have J:t≠pl:=br b a.o;have L:t≠ho:=br b o;have N:t≠nu:=br b s;have a5:g≠ta:=br h a.t;have a7:g≠ho:=br h o;have a8:g≠nu:=br h s;have O:bi≠ta:=br l a.t;have u:bi≠pl:=br l a.o;have v:bi≠ho:=br l o;have w:bn≠pl:=br D a.o;have z:bn≠nu:=br D s;have k1:∀{M:RM} {Q:ak},bI i.r (.int 1) M Q=Q (.int i.house) M:=zX;have k2:∀{M:RM} {Q:ak},bI i.r (.int 2) M Q=Q (.int i.door) M:=CD;have k5:∀{M:RM} {Q:ak},bI f.r (.int 5) M Q=Q (.int f.most) M:=zW;rw[us (i:=60) (d:=jA) rfl];simp only[jA];walk_at "evs";rw[xP b s,W,xR];walk_at "evs";refine Bf b o U l3 ?_;walk_at "evs";rw[ae (by rw[bo];simp;omega)]
 refine FX ok h b a ?_;rw[c,GN];walk_at "evs";refine V2 b a o s l0 l3 l4 Z n2 n3 ?_;have a6:g≠pl:=FQ h a.o;have I:g≠un:=br h a.u;have A:t≠un:=br b a.u;have C:bi≠un:=br l a.u;walk_at "evs";refine Qo (bi:=bi) (bn:=bn) tb (by rw[ao N,ao L,ao J,ao A,ao H];exact b) (by rw[ao n7,ao v,ao u,ao C,ao O];exact l) (by rw[ao z,ao n6,ao w,ao n5,ao n4];exact D) R l1 l2 λx y hx Y F=>?_
 exact X x y (bb (bb (bb (bb (bb hx).1).1).1).1).1 (bb (bb (bb (bb (bb Y).1).1).1).1).1 F
theorem HG{l:List (TK×Addr)}{i:ay}(b:M t=some (bE e fr rp now (.ref bi) rbn rho rnu))(a:M bi=some (.dt (eA l))):aA (P e) (n+1) 33 [.ref t,i.r] M Q=Q (og (lk l i.k)) M:=QN (k:=i.k) b a
theorem Sa{x:Addr}:og (some x)= .ref x:=rfl
theorem Sb:og none= .aq:=rfl
theorem Pr{rs rd r b c h a:RV}{f:Fm}{i:ay}(hk:i.kind= "note")(k:M g=some (cy e f.r (.ref t) rs rd .aq))(o:M t=some (bE e f.r r a (.ref bi) b c h))(j:M bi=some (.dt (eA li)))(l:lk li i.k=none)
 (m:aA (P e) (n+5) 60 [.ref g,i.r,.str "note"] M Q):aA (P e) (n+6) 59 [.ref g,i.r,.str "say"] M Q:=by
 have s:∀{M:RM} {Q:ak},bI i.r (.int 0) M Q=Q (.str "note") M:=λ{M Q}=>by rw[CC,hk]
 rw[us (i:=59) (d:=p9) rfl];simp only[p9];walk_at "evs";rw[HG o j,l,Sb];walk_at "ev";rw[Ar (.inl rfl)];walk_at "ev";rw[k];walk_at "ev";exact m
theorem Pq{rs rd r b c h ri ro:RV}{f:Fm}{i:ay}{x:Addr}(tb:Tb e)(hk:i.kind= "note")(k:M g=some (cy e f.r (.ref t) rs rd .aq))(a:M t=some (bE e f.r r (.int nw) (.ref bi) b c h))(j:M bi=some (.dt (eA li)))(l:lk li i.k=some x)(hx:M x=some (bU e ri (.int m) (.str "note") ro))
 (o:Q (.tup [.str "led",.int m]) (put M x (bU e ri (.int m) (.str "note") (.int (nw+f.t0))))):aA (P e) (n+6) 59 [.ref g,i.r,.str "say"] M Q:=by
 have s:∀{M:RM} {Q:ak},bI i.r (.int 0) M Q=Q (.str "note") M:=λ{M Q}=>by rw[CC,hk]
 rw[us (i:=59) (d:=p9) rfl];simp only[p9];walk_at "evs";rw[HG a j,l,Sa];walk_at "ev";rw[hx];walk_at "ev";rw[Ar (.inr rfl)];walk_at "ev";rw[k];walk_at "ev";rw[a];walk_at "ev";refine Jz tb a hx ?_;walk_at "ev";exact o
theorem V1{i:ay}{h rs rd j a:RV}(c:i.place≠0)(hk:i.kind= "note")(b:M g=some (cy e a h rs rd j))(f:aA (P e) (n+6) 59 [.ref g,i.r,.str "say"] M Q):aA (P e) (n+7) 41 [.ref g,.tup [.str "note",.int i.house,.int i.door,.int i.place,.int i.far,.str "say",.str ""]] M Q:=by
 have e0:i.r= .tup [.str "note",.int i.house,.int i.door,.int i.place,.int i.far]:=by unfold ay.r;rw[hk]
 have e1:(!i.place==0)=true:=by simpa using c
 rw[us (i:=41) (d:=uo) rfl];simp only[uo];walk_at "ev";rw[b];walk_at "ev";simp only[e1,↓reduceIte];rw[<-e0];exact f
theorem QT{i:ay}{h rs rd j a:RV}(c:i.place≠0)(hk:i.kind= "note")(b:M g=some (cy e a h rs rd j))(f:aA (P e) (n+6) 59 [.ref g,i.r,.str "say"] M Q):aA (P e) (n+8) 58 [.ref g,.str "out",.tup [.str "note",.int i.house,.int i.door,.int i.place,.int i.far,.str "say",.str ""]] M Q:=by
 rw[us (i:=58) (d:=jB) rfl];simp only[jB];walk_at "evs";exact V1 c hk b f
structure ay.Ok(i:ay):Prop where
 kind:i.kind= "note"
 house:0<=i.house/\i.house<=99
 door:1<=i.door/\i.door<=9999
 place:1<=i.place/\i.place<=1000000
 far:1<=i.far/\i.far<=9999
noncomputable def ay.deed(i:ay):RV:=.tup [.str "out",.str "note",.int i.house,.int i.door,.int i.place,.int i.far,.str "say",.str ""]
theorem Yt{i:ay}{z rs A m:RV}{dn:Addr}{post:RV->RM->Prop}(tb:Tb e)(b:i.Ok)(u:M g=some (cy e m z rs (.ref dn) A))(w:∀K:ak,(∀v a,post v a->K v a)->aA (P e) (n+6) 59 [.ref g,i.r,.str "say"] M K)
 (y:∀v a,post v a->∃j h k f c,a g=some (cy e f j h (.ref dn) k)/\a dn=some (.lst c)/\c.length<1000/\Q v (put a dn (.lst (c++ [.tup [i.deed,v]])))):
 aA (P e) (n+10) 74 [.ref g,.str "note",.int i.house,.int i.door,.int i.place,.int i.far,.str "say",.str ""] M Q:=by
 rw[us (i:=74) (d:=uw) rfl];simp only[uw];walk_at "evs";rw[us (i:=39) (d:=jC) rfl];simp only[jC];walk_at "ev";refine RG (n:=n+3) tb b.house b.door ⟨by have:=b.place.1;omega,b.place.2⟩ b.far ?_
 walk_at "evs";rw[oo];refine QT (by have:=b.place.1;omega) b.kind u (w _ λv a x=>?_)
 obtain⟨j,h,k,f,c,o,l,r,s⟩:=y v a x;rw[o];walk_at "ev";rw[l];walk_at "ev";exact⟨c,_,rfl,l,fq r (by decide),s⟩
theorem zV{f:Fm}:bI f.r (.int 0) M Q=Q (.int f.low) M:=bz.trans (by rw[yV];rfl)
theorem Cz{f:Fm}:bI f.r (.int 1) M Q=Q (.int f.high) M:=bz.trans (by rw[K8];rfl)
def p0(f:Fm):aw:=⟨f.low,f.high,f.low,[],[]⟩
theorem P8{f:Fm}{x:Addr}(hx:M x=none)(hq:∀pl ta un bi bn ho nu j,j x=some (bE e f.r (.ref pl) (.int 0) (.ref bi) (.ref bn) (.ref ho) (.ref nu))->iB e j pl ta un (p0 f)->j bi=some (.dt [])->j bn=some (.dk [])->j ho=some (.dk [])->j nu=some (.dt [])->
 un≠ta->ho≠ta->ho≠un->bn≠ta->bn≠un->ho≠bn->nu≠bi->(∀b o,M b=some o->b≠x->j b=some o)->(∀b∈[pl,ta,un,bi,bn,ho,nu],M b=none)->(∀b,j b=none->M b=none/\b≠x)->Q .aq j):aA (P e) (n+3) 32 [.ref x,f.r] (put M x (.ins (e.C 3) [])) Q:=by
 have k0:∀{M:RM} {Q:ak},bI f.r (.int 0) M Q=Q (.int f.low) M:=zV;have k1:∀{M:RM} {Q:ak},bI f.r (.int 1) M Q=Q (.int f.high) M:=Cz;rw[us (i:=32) (d:=uB) rfl];simp only[uB];walk_at "ev";rw[k0,k1];intro pl u;refine Qp u λta un v w n1 n2 Y=>⟨rfl,?_⟩
 have y:=bb u;have A:=bb v;have C:=bb w;have d1:x≠pl:=aY y.2;have E:x≠ta:=aY A.2;have F:x≠un:=aY C.2;rw[ao d1,ao F,ao E];walk_at "ev";intro bi l;have H:x≠bi:=aY (bb l).2;rw[ao H];walk_at "ev";intro bn m;have I:x≠bn:=aY (bb m).2;rw[ao I];walk_at "ev";intro ho r;have J:x≠ho:=aY (bb r).2;rw[ao J];walk_at "ev";intro nu s;have L:x≠nu:=aY (bb s).2;rw[ao L];walk_at "ev";obtain⟨b1,_⟩:=bb l;obtain⟨b1,b2⟩:=bb b1;obtain⟨b1,b3⟩:=bb b1;obtain⟨b1,b4⟩:=bb b1;obtain⟨b1,_⟩:=bb b1;obtain⟨e1,_⟩:=bb m;obtain⟨e1,Z⟩:=bb e1;obtain⟨e1,_⟩:=bb e1;obtain⟨e1,e3⟩:=bb e1;obtain⟨e1,N⟩:=bb e1;obtain⟨e1,O⟩:=bb e1;obtain⟨e1,_⟩:=bb e1;obtain⟨h,_⟩:=bb r;obtain⟨h,R⟩:=bb h;obtain⟨h,_⟩:=bb h;obtain⟨h,g3⟩:=bb h;obtain⟨h,_⟩:=bb h;obtain⟨h,g4⟩:=bb h;obtain⟨h,U⟩:=bb h;obtain⟨h,W⟩:=bb h;obtain⟨h,_⟩:=bb h;obtain⟨a,_⟩:=bb s;obtain⟨a,h2⟩:=bb a;obtain⟨a,_⟩:=bb a;obtain⟨a,h3⟩:=bb a;obtain⟨a,_⟩:=bb a;obtain⟨a,X⟩:=bb a;obtain⟨a,_⟩:=bb a;obtain⟨a,h5⟩:=bb a;obtain⟨a,h6⟩:=bb a;obtain⟨a,h7⟩:=bb a;obtain⟨a,_⟩:=bb a;clear u v w l m r s;refine hq pl ta un bi bn ho nu _ bw ⟨?_,?_,?_⟩ ?_ ?_ ?_ ?_ Y W U O N R X (λb o k D=>?_) (λb k=>?_) (λb k=>?_)
 . simp only[ao (aY d1),ao (aY h5),ao (aY g4),ao (aY e3),ao (aY b2),bw];rfl
 . simp only[ao (aY E),ao (aY h7),ao (aY W),ao (aY O),ao (aY b4),ao n1,ao (aY Y),bw];rfl
 . simp only[ao (aY F),ao (aY h6),ao (aY U),ao (aY N),ao (aY b3),ao n2,bw];rfl
 . simp only[ao (aY H),ao (aY X),ao (aY g3),ao (aY Z),bw]
 . simp only[ao (aY I),ao (aY h3),ao (aY R),bw]
 . simp only[ao (aY J),ao (aY h2),bw]
 . simp only[ao (aY L),bw]
 . have q:∀c,M c=none->b≠c:=λc hc=>eR hc k
   simp only[ao D,ao (q _ a),ao (q _ h),ao (q _ e1),ao (q _ b1),ao (q _ y.1),ao (q _ A.1),ao (q _ C.1)];exact k
 . simp only[eY,qR,or_false]at k
   rcases k with rfl|rfl|rfl|rfl|rfl|rfl|rfl
   . exact y.1
   . exact A.1
   . exact C.1
   . exact b1
   . exact e1
   . exact h
   . exact a
 . obtain⟨z,z1⟩:=bb k
   refine⟨?_,z1⟩
   iterate 12 (first|exact z|obtain⟨z,_⟩:=bb z)
   exact z
theorem Qq{f:Fm}{x:Addr}(ok:f.Ok)(hx:M x=none)(E:∀t st dn pl ta un bi bn ho nu c,c x=some (cy e f.r (.ref t) (.ref st) (.ref dn) .aq)->c t=some (bE e f.r (.ref pl) (.int 0) (.ref bi) (.ref bn) (.ref ho) (.ref nu))->iB e c pl ta un (p0 f)->c bi=some (.dt [])->c bn=some (.dk [])->c ho=some (.dk [])->c nu=some (.dt [])->
 c dn=some (.lst [])->un≠ta->ho≠ta->ho≠un->bn≠ta->bn≠un->ho≠bn->nu≠bi->(∀b o,M b=some o->b≠x->c b=some o)->(∀b∈[t,dn,pl,ta,un,bi,bn,ho,nu],M b=none)->Q .aq c):aA (P e) (n+6) 38 [.ref x,f.r] (put M x (.ins (e.C 4) [])) Q:=by
 rw[us (i:=38) (d:=uq) rfl];simp only[uq];walk_at "ev";refine RF ok ?_;walk_at "ev";intro t C;have t1:=bb C;refine P8 (n:=n+1) C λpl ta un bi bn ho nu M1 H w I J L N R U W X Y Z n7 A y z=>⟨rfl,?_⟩
 have O:M1 x=some (.ins (e.C 4) [("form",f.r)]):=A x _ bw (aY t1.2);rw[O];walk_at "ev";intro st s;refine P9 s λsd v F=>⟨rfl,?_⟩
 have s1:=bb s;have s2:=bb v;rw[ao (aY s1.2),ao (aY s2.2)];walk_at "ev";intro dn m;rw[ao (aY (bb m).2)];walk_at "ev";obtain⟨d1,D⟩:=bb m;obtain⟨d1,d3⟩:=bb d1;obtain⟨d1,d4⟩:=bb d1;obtain⟨d1,_⟩:=bb d1;clear m;have k:∀b∈[pl,ta,un,bi,bn,ho,nu],M b=none/\b≠x:=λb h=>bb (y b h)
 have j:∀a o,M1 a=some o->a≠x->put (put (put (put (put (put M1 x (.ins (e.C 4) [("form",f.r),("table",.ref t)])) sd (.dk [])) st (AX e (.int 0) (.ref sd))) x (.ins (e.C 4) [("form",f.r),("table",.ref t),("strangers",.ref st)])) dn (.lst [])) x (cy e f.r (.ref t) (.ref st) (.ref dn) .aq) a=some o:=λa o u l=>by
  rw[ao l,ao (eR d1 u),ao l,ao (eR s1.1 u),ao (eR s2.1 u),ao l];exact u
 refine E t st dn pl ta un bi bn ho nu _ bw (j _ _ H t1.2) ⟨j _ _ w.o (k pl (by simp)).2,j _ _ w.t (k ta (by simp)).2,j _ _ w.u (k un (by simp)).2⟩ (j _ _ I (k bi (by simp)).2) (j _ _ J (k bn (by simp)).2) (j _ _ L (k ho (by simp)).2) (j _ _ N (k nu (by simp)).2)
  (by rw[ao D,bw]) R U W X Y Z n7 (λb o h r=>j b o (A b o (by rw[ao r];exact h) (eR t1.1 h)) r) (λb h=>?_)
 rcases eY.mp h with rfl|h
 . exact t1.1
 rcases eY.mp h with rfl|h
 . exact(bb (z _ d1).1).1
 exact(k b h).1
end
section
inductive Ro where
 |g|t|pl|ta|un|bi|bn|ho|nu|dn|st|tk (k:Nat)|nb (k:Nat)
abbrev cK:=Ro->Addr
variable {M M':RM}{ad ad':cK}{c c':Ro->Option RO}{r r':Ro}{o o':RO}{x:Addr}
structure Cells(M:RM)(ad:cK)(c:Ro->Option RO):Prop where
 at_:∀r o,c r=some o->M (ad r)=some o
 inj:∀r r' o o',c r=some o->c r'=some o'->ad r=ad r'->r=r'
open Classical in
noncomputable def upd (c:Ro->Option RO)(r:Ro)(o:RO):Ro->Option RO:=λr'=>if r'=r then some o else c r'
open Classical in
noncomputable def eC (ad:cK)(r:Ro)(x:Addr):cK:=λr'=>if r'=r then x else ad r'
theorem bO:upd c r o r=some o:=ai rfl
theorem au(h:r'≠r):upd c r o r'=c r':=ae h
theorem nI:eC ad r x r=x:=ai rfl
theorem ff(h:r'≠r):eC ad r x r'=ad r':=ae h
theorem Cells.ne(C:Cells M ad c)(h:c r=some o)(h':c r'=some o')(a:r≠r'):ad r≠ad r':=λz=>a (C.inj _ _ _ _ h h' z)
theorem Cells.put(C:Cells M ad c)(h:c r=some o'):Cells (put M (ad r) o) ad (upd c r o) where
 at_:=λs u hs=>by
  by_cases z:s=r
  . subst z;rw[bO]at hs;cases hs;exact bw
  . rw[au z]at hs;rw[ao (C.ne hs h z)];exact C.at_ _ _ hs
 inj:=λs s' u u' h1 h2 e=>by
  have q:∀{s u},upd c r o s=some u->∃v,c s=some v:=λ{s u} hs=>by
   by_cases z:s=r
   . subst z;exact⟨_,h⟩
   . rw[au z]at hs;exact⟨_,hs⟩
  obtain⟨_,k1⟩:=q h1;obtain⟨_,k2⟩:=q h2;exact C.inj _ _ _ _ k1 k2 e
theorem Cells.new(C:Cells M ad c)(hx:M x=none):Cells (R.put M x o) (eC ad r x) (upd c r o) where
 at_:=λs u hs=>by
  by_cases z:s=r
  . subst z;rw[bO]at hs;cases hs;rw[nI];exact bw
  . rw[au z]at hs;rw[ff z,ao (eR hx (C.at_ _ _ hs))];exact C.at_ _ _ hs
 inj:=λs f u g b d e=>by
  by_cases z:s=r<;>by_cases a:f=r
  . rw[z,a]
  . rw[z,nI,ff a]at e;rw[au a]at d;exact aW e.symm (eR hx (C.at_ _ _ d))
  . rw[a,nI,ff z]at e;rw[au z]at b;exact aW e (eR hx (C.at_ _ _ b))
  . rw[ff z,ff a]at e;rw[au z]at b;rw[au a]at d;exact C.inj _ _ _ _ b d e
theorem Cells.weak(C:Cells M ad c)(h:∀r o,c' r=some o->c r=some o):Cells M ad c':=⟨λr o e=>C.at_ _ _ (h _ _ e),λr r' o o' e a=>C.inj _ _ _ _ (h _ _ e) (h _ _ a)⟩
structure Fr(M:RM)(ad:cK)(c:Ro->Option RO)(M':RM)(ad':cK)(c':Ro->Option RO):Prop where
 keep:∀a o,M a=some o->(∀r u,c r=some u->ad r≠a)->M' a=some o
 new:∀r u,c' r=some u->(∃r' u',c r'=some u'/\ad r'=ad' r)∨M (ad' r)=none
 mono:∀a,M' a=none->M a=none
theorem Fr.refl:Fr M ad c M ad c:=⟨λ_ _ h _=>h,λr u h=>.inl ⟨r,u,h,rfl⟩,λ_ h=>h⟩
theorem Fr.trans(h:Fr M ad c M' ad' c')(k:Fr M' ad' c' M2 ad2 c2):Fr M ad c M2 ad2 c2 where
 keep:=λa o j l=>k.keep a o (h.keep a o j l) λr u g e=>by
  rcases h.new r u g with⟨r',i,b,d⟩|b
  . exact l r' i b (d.trans e)
  . rw[e,j]at b;cases b
 new:=λr u g=>by
  rcases k.new r u g with⟨r',i,b,d⟩|b
  . rcases h.new r' i b with⟨n,u2,f,m⟩|f
    . exact .inl ⟨n,u2,f,m.trans d⟩
    . exact .inr (d ▸ f)
  . exact .inr (h.mono _ b)
 mono:=λa z=>h.mono a (k.mono a z)
theorem Fr.put(h:c r=some o'):Fr M ad c (R.put M (ad r) o) ad (upd c r o) where
 keep:=λa u a b=>by rw[ao (b r _ h).symm];exact a
 new:=λs u hs=>by
  by_cases z:s=r
  . exact .inl ⟨r,_,h,by rw[z]⟩
  . rw[au z]at hs;exact .inl ⟨s,_,hs,rfl⟩
 mono:=λa z=>(bb z).1
theorem Fr.fresh(hx:M x=none):Fr M ad c (R.put M x o) (eC ad r x) (upd c r o) where
 keep:=λa u a b=>by rw[ao (eR hx a)];exact a
 new:=λs u hs=>by
  by_cases z:s=r
  . subst z;rw[nI];exact .inr hx
  . rw[au z]at hs;rw[ff z];exact .inl ⟨s,_,hs,rfl⟩
 mono:=λa z=>(bb z).1
end
section
structure Tk where
 i:ay
 id:Nat
 m:Int
 st:Str
 ov:Int
structure GS where
 now:Int
 mark:Int
 ns:List (TK×Int)
 un:List (Int×Int)
 tl:List Tk
 lb:List (Int×Nat)
 nx:Nat
 ds:LR
def bx(i:ay):TK:=[some (.inr i.kind),some (.inl i.place),some (.inl i.far)]
def ck(ad:cK)(tl:List Tk):List (TK×Addr):=tl.map λT=>(T.i.k,ad (.tk T.id))
def outs(ad:cK)(tl:List Tk)(m:Int):List (TK×Addr):=(tl.filter λT=>decide (T.m=m)).map λT=>(bx T.i,ad (.tk T.id))
def dh(ad:cK)(a:List (Int×Nat)):List (Int×Addr):=a.map λx=>(x.1,ad (.nb x.2))
def eX(ns:List (TK×Int)):List (Int×TK):=ns.map λx=>(x.2,x.1)
def gv(f:Fm)(S:GS):aw:=⟨f.low,f.high,S.mark,S.ns.map λx=>(x.2,()),S.un⟩
def gU(e:Env)(T:Tk):RO:=bU e T.i.r (.int T.m) (.str T.st) (.int T.ov)
noncomputable def ct (e:Env)(ad:cK)(f:Fm)(S:GS):Ro->Option RO
 | .g=>some (cy e f.r (.ref (ad .t)) (.ref (ad .st)) (.ref (ad .dn)) .aq)
 | .t=>some (bE e f.r (.ref (ad .pl)) (.int S.now) (.ref (ad .bi)) (.ref (ad .bn)) (.ref (ad .ho)) (.ref (ad .nu)))
 | .pl=>some (eO e (.int f.low) (.int f.high) (.int S.mark) (.ref (ad .ta)) (.ref (ad .un)))
 | .ta=>some (.dk (eT (S.ns.map λx=>(x.2,()))))
 | .un=>some (.dk (eU S.un))
 | .bi=>some (.dt (eA (ck ad S.tl)))
 | .bn=>some (.dk (eB (dh ad S.lb)))
 | .ho=>some (.dk (eH (eX S.ns)))
 | .nu=>some (.dt (eN S.ns))
 | .dn=>some (.lst S.ds)
 | .st=>none
 | .tk k=>(S.tl.find? λT=>decide (T.id=k)).map (gU e)
 | .nb k=>(S.lb.find? λx=>decide (x.2=k)).map λx=>.dt (eA (outs ad S.tl x.1))
abbrev dw(e:Env)(M:RM)(ad:cK)(f:Fm)(S:GS):Prop:=Cells M ad (ct e ad f S)
def cN(e:Env)(M:RM)(ad:cK)(f:Fm)(S:GS)(b:RM)(a:cK)(c:GS):Prop:=dw e b a f c/\Fr M ad (ct e ad f S) b a (ct e a f c)/\a .g=ad .g/\a .dn=ad .dn
structure GS.Ok(f:Fm)(S:GS):Prop where
 mr:f.low<=S.mark/\S.mark<=f.high
 i1:∀T∈S.tl,T.id<S.nx
 i2:∀x∈S.lb,x.2<S.nx
 d1:(S.tl.map λT=>T.i.k).Nodup
 d2:(S.lb.map (·.2)).Nodup
 d3:(S.ns.map (·.2)).Nodup
 d4:(S.ns.map (·.1)).Nodup
 d5:(S.lb.map (·.1)).Nodup
 d6:(S.tl.map (·.id)).Nodup
 tn:∀T∈S.tl,lk S.ns (aS f T.i)=some T.m
 nb:∀x∈S.ns,∃k,lk S.lb x.2=some k
 bn:∀x∈S.lb,x.1∈S.ns.map (·.2)
 hk:∀x∈S.ns,∃i:ay,i.kind= "note"/\x.1=aS f i
 sz:S.tl.length<900/\S.ns.length<900/\S.lb.length<900
variable {e:Env}{M:RM}{ad:cK}{f:Fm}{S:GS}{x y:Addr}{i:ay}{m:Int}{k:Nat}
theorem va{κ a:Type}[DecidableEq κ]{k:κ}:∀{l:List (κ×a)},(lk l k).isSome=decide (k∈l.map (·.1))
 | []=>by simp[lk]
 |(j,y)::l=>by
  rw[fB]
  by_cases h:j=k
  . rw[ai h];simp[h]
  . rw[ae h,va (l:=l)]
    simp[aY h]
theorem jl[DecidableEq κ]:∀{l:List (κ×β)} {x:κ×β},(l.map (·.1)).Nodup->x∈l->lk l x.1=some x.2
 |(j,y)::l,x,nd,hx=>by
  rw[fB];rw[bF,ip]at nd;rcases eY.mp hx with rfl|hx
  . rw[ai rfl]
  . have a:j∉l.map (·.1):=nd.1
    rw[ae (λ(z:j=x.1)=>a (by rw[z];exact sP (f:=(·.1)) hx)),jl nd.2 hx]
theorem fg{g:α->β}:∀{l:List α} {a b:α},(l.map g).Nodup->a∈l->b∈l->g a=g b->a=b
 |z::l,a,b,nd,c,d,h=>by
  rw[bF,ip]at nd;rcases eY.mp c with j|c<;>rcases eY.mp d with n|d
  . rw[j,n]
  . exact aW (aP.mpr ⟨b,d,by rw[<-h,j]⟩) nd.1
  . exact aW (aP.mpr ⟨a,c,by rw[h,n]⟩) nd.1
  . exact fg nd.2 c d h
theorem bA{κ a:Type}[DecidableEq κ]{l:List (κ×a)}{k:κ}:lk l k=none↔k∉l.map (·.1):=by
 have:=va (l:=l) (k:=k);cases e:lk l k with
 |none=>rw[e]at this;simpa using this.symm
 |some y=>rw[e]at this;simpa using this.symm
theorem cQ[DecidableEq κ]{k:κ}{y:β}:∀{l:List (κ×β)},lk l k=some y->(k,y)∈l
 |(j,z)::l,h=>by
  rw[fB]at h
  by_cases q:j=k
  . rw[ai q]at h;cases h;rw[q];exact .head _
  . rw[ae q]at h;exact .tail _ (cQ h)
theorem nR{κ a b:Type}[DecidableEq κ]{k:κ}{g:a->b}:∀{l:List (κ×a)},lk (l.map λx=>(x.1,g x.2)) k=(lk l k).map g
 | []=>rfl
 |(j,z)::l=>by
  show lk ((j,g z)::l.map λx=>(x.1,g x.2)) k=_
  rw[fB,fB]
  by_cases q:j=k
  . rw[ai q,ai q];rfl
  . rw[ae q,ae q];exact nR
theorem Iy(h:∀T∈S.tl,T.id<S.nx):ck (eC ad (.tk S.nx) x) S.tl=ck ad S.tl:=iG λT a=>by
 rw[ff];intro z;injection z with z;have:=h T a;omega
theorem AQ(h:∀T∈S.tl,T.id<S.nx):outs (eC ad (.tk S.nx) x) S.tl m=outs ad S.tl m:=iG λT a=>by
 rw[ff];intro z;injection z with z;have:=h T (bB.mp a).1;omega
theorem xT{i j:ay}(h:aS f i=aS f j)(ho:bx i=bx j):i=j:=by
 cases i;cases j;unfold bx at ho;simp only[List.cons.injEq,kj,Sum.inr.injEq,Sum.inl.injEq,and_true]at ho;obtain⟨rfl,rfl,rfl⟩:=ho;unfold aS ay.k at h;split at h
 . simp only[List.cons.injEq,kj,Sum.inr.injEq,Sum.inl.injEq,and_true,true_and]at h;obtain⟨rfl,rfl⟩:=h;rfl
 . split at h<;>(simp only[List.cons.injEq,kj,Sum.inr.injEq,Sum.inl.injEq,and_true,true_and]at h;obtain⟨rfl,rfl⟩:=h;rfl)
theorem T2(g:S.Ok f)(l:lk S.ns (aS f i)=some m)(n:i.k∉S.tl.map λT=>T.i.k):lk (outs ad S.tl m) (bx i)=none:=by
 rw[bA];intro z;obtain⟨p,o,c⟩:=aP.mp z;obtain⟨T,b,rfl⟩:=aP.mp o;obtain⟨b,a⟩:=bB.mp b;have a:T.m=m:=by simpa using a
 have d:=cQ (g.tn T b);have h:=cQ l;rw[a]at d;have j:aS f T.i=aS f i:=by
  have:=fg g.d3 d h rfl;injection this
 exact n (aP.mpr ⟨T,b,by rw[xT j c]⟩)
noncomputable def GS.begun (S:GS)(f:Fm)(i:ay)(m:Int):GS:={ S with tl:=S.tl++ [⟨i,S.nx,m,"note",S.now+f.t0⟩],nx:=S.nx+1 }
theorem HF{T:Tk}(h:∀U∈a,U.id<T.id):(a++ [T]).find? (λU=>decide (U.id=j))=if j=T.id then some T else a.find? λU=>decide (U.id=j):=by
 rw[List.find?_append]
 by_cases z:j=T.id
 . rw[ai z,il.mpr λU b=>by have:=h U b;simp;omega]
   simp[z]
 . rw[ae z]
   cases a.find? λU=>decide (U.id=j)with
   |some U=>rfl
   |none=>simp[aY z]
theorem ye{T:Tk}:outs ad (tl++ [T]) m=outs ad tl m++if T.m=m then [(bx T.i,ad (.tk T.id))]else []:=by
 unfold outs;rw[List.filter_append,fF]
 by_cases z:T.m=m<;>simp[z]
theorem nM{a:List (Int×Nat)}(d:(a.map (·.2)).Nodup){p:Int×Nat}(b:p∈a):a.find? (λx=>decide (x.2=p.2))=some p:=by
 cases e:a.find? λx=>decide (x.2=p.2)with
 |none=>rw[il]at e;exact aW (d8 rfl) (e p b)
 |some q=>
  have c:=jq (p:=λx:Int×Nat=>decide (x.2=p.2)) e
  exact congrArg some (fg d (i8 e) b (by simpa using c))
theorem nK{tl:List Tk}(c:(tl.map (·.id)).Nodup){p:Tk}(a:p∈tl):tl.find? (λx=>decide (x.id=p.id))=some p:=by
 cases e:tl.find? λx=>decide (x.id=p.id)with
 |none=>rw[il]at e;exact aW (d8 rfl) (e p a)
 |some q=>
  have b:=jq (p:=λx:Tk=>decide (x.id=p.id)) e
  exact congrArg some (fg c (i8 e) a (by simpa using b))
theorem UR(G:dw e M ad f S)(a:S.Ok f)(D:lk S.ns (aS f i)=some m)(n:lk S.lb m=some k)(s:i.k∉S.tl.map λT=>T.i.k)(hx:M x=none):
 cN e M ad f S (put (put (put M x (bU e i.r (.int m) (.str "note") (.int (S.now+f.t0)))) (ad .bi) (.dt (eA (pt (ck ad S.tl) i.k x)))) (ad (.nb k)) (.dt (eA (pt (outs ad S.tl m) (bx i) x)))) (eC ad (.tk S.nx) x) (S.begun f i m):=by
 have hk:=nM a.d2 (cQ n);have l:ct e ad f S (.nb k)=some (.dt (eA (outs ad S.tl m))):=by show Option.map _ (S.lb.find? λx=>decide (x.2=k))=_;rw[hk];rfl
 have t:=Cells.new (r:=.tk S.nx) (o:=bU e i.r (.int m) (.str "note") (.int (S.now+f.t0))) G hx;have v:=Fr.fresh (ad:=ad) (c:=ct e ad f S) (r:=.tk S.nx) (o:=bU e i.r (.int m) (.str "note") (.int (S.now+f.t0))) hx;have u:=t.put (r:=.bi) (o:=.dt (eA (pt (ck ad S.tl) i.k x))) (au (λz=>by cases z))
 have w:=v.trans (Fr.put (r:=.bi) (o:=.dt (eA (pt (ck ad S.tl) i.k x))) (au (λz=>by cases z)))
 have g:=u.put (r:=.nb k) (o:=.dt (eA (pt (outs ad S.tl m) (bx i) x))) ((au (λz=>by cases z)).trans ((au (λz=>by cases z)).trans l))
 have h:=w.trans (Fr.put (r:=.nb k) (o:=.dt (eA (pt (outs ad S.tl m) (bx i) x))) ((au (λz=>by cases z)).trans ((au (λz=>by cases z)).trans l)))
 have e1:eC ad (.tk S.nx) x .bi=ad .bi:=ff (λz=>by cases z)
 have A:eC ad (.tk S.nx) x (.nb k)=ad (.nb k):=ff (λz=>by cases z)
 rw[e1,A]at g h;have d:ct e (eC ad (.tk S.nx) x) f (S.begun f i m)=upd (upd (upd (ct e ad f S) (.tk S.nx) (bU e i.r (.int m) (.str "note") (.int (S.now+f.t0)))) .bi (.dt (eA (pt (ck ad S.tl) i.k x)))) (.nb k) (.dt (eA (pt (outs ad S.tl m) (bx i) x))):=by
  funext r;cases r with
  |bi=>
   rw[au (λz=>by cases z),bO]
   show some (RO.dt (eA (ck (eC ad (.tk S.nx) x) (S.tl++ [_]))))=_;rw[nO (bA.mpr (by unfold ck;rw[bG];exact s)),<-Iy (ad:=ad) (x:=x) a.i1]
   unfold ck;rw[fF,bF,nI];rfl
  |bn=>
   rw[au (λz=>by cases z),au (λz=>by cases z),au (λz=>by cases z)]
   show some (RO.dk (eB (dh _ S.lb)))=some (RO.dk (eB (dh _ S.lb)));unfold dh;congr 4;funext z;rw[ff (λz=>by cases z)]
  |tk j=>
   rw[au (λz=>by cases z),au (λz=>by cases z)]
   show Option.map _ (List.find? _ (S.tl++ [_]))=_;rw[HF a.i1]
   by_cases z:j=S.nx
   . rw[ai z,z,bO];rfl
   . rw[ae z,au (λq=>by injection q with q;exact z q)];rfl
  |nb j=>
   show Option.map _ (List.find? _ S.lb)=_
   by_cases z:j=k
   . subst z
     rw[bO,hk];show some (RO.dt (eA (outs (eC ad (.tk S.nx) x) (S.tl++ [_]) m)))=_;rw[ye,AQ a.i1,ai rfl,nO (T2 a D s),nI]
   . rw[au (λq=>by injection q with q;exact z q),au (λz=>by cases z),au (λz=>by cases z)]
     show _=Option.map _ (List.find? _ S.lb);cases ej:S.lb.find? λx=>decide (x.2=j)with
     |none=>rfl
     |some p=>
      have E:=i8 ej;have C:p.2=j:=by simpa using jq (p:=λx:Int×Nat=>decide (x.2=j)) ej
      have b:¬m=p.1:=λq=>z (by rw[<-C,fg a.d5 E (cQ n) q.symm])
      show some (RO.dt (eA (outs (eC ad (.tk S.nx) x) (S.tl++ [_]) p.1)))=some (RO.dt (eA (outs ad S.tl p.1)));rw[ye,AQ a.i1,ae b,oG]
  |_=>simp[ct,upd,eC,GS.begun]
 unfold cN dw;rw[d];exact⟨g,h,ff (λz=>by cases z),ff (λz=>by cases z)⟩
end
section
variable {e:Env}{M:RM}{ad:cK}{f:Fm}{S:GS}{x y:Addr}{i:ay}{m:Int}{k:Nat}
def pu(ad:cK):List (Ro×RO)->RM->RM
 | [],M=>M
 |p::l,M=>pu ad l (put M (ad p.1) p.2)
noncomputable def ups:List (Ro×RO)->(Ro->Option RO)->Ro->Option RO
 | [],c=>c
 |p::l,c=>ups l (upd c p.1 p.2)
theorem AJ:∀{l:List (Ro×RO)} {M:RM} {c:Ro->Option RO},Cells M ad c->(∀p∈l,∃o,c p.1=some o)->Cells (pu ad l M) ad (ups l c)/\Fr M ad c (pu ad l M) ad (ups l c)
 | [],_,_,C,_=>⟨C,Fr.refl⟩
 |p::l,M,c,C,h=>by
  obtain⟨o,ho⟩:=h p (.head _);obtain⟨b,d⟩:=AJ (l:=l) (C.put (o:=p.2) ho) λq g=>by
   by_cases z:q.1=p.1
   . exact⟨p.2,by rw[z,bO]⟩
   . obtain⟨j,a⟩:=h q (.tail _ g)
     exact⟨j,by rw[au z];exact a⟩
  exact⟨b,(Fr.put ho).trans d⟩
theorem Bs{x:Addr}:∀{l:List (Ro×RO)} {M:RM},M x=none->(∀p∈l,x≠ad p.1)->pu ad l M x=none
 | [],_,h,_=>h
 |p::l,M,h,hn=>Bs (l:=l) ((ao (hn p (.head _))).trans h) λq a=>hn q (.tail _ a)
noncomputable def GS.g9 (S:GS)(f:Fm)(i:ay)(m:Int):GS:={ S with un:=dr S.un m,ns:=S.ns++ [(aS f i,m)],mark:=((gv f S).take m).mark,tl:=S.tl++ [⟨i,S.nx,m,"note",S.now+f.t0⟩],lb:=S.lb++ [(m,S.nx+1)],nx:=S.nx+2 }
theorem SU{j n:Nat}(h:∀x∈a,x.2<n):(a++ [(m,n)]).find? (λx=>decide (x.2=j))=if j=n then some (m,n)else a.find? λx=>decide (x.2=j):=by
 rw[List.find?_append]
 by_cases z:j=n
 . rw[ai z,il.mpr λU b=>by have:=h U b;simp;omega]
   simp[z]
 . rw[ae z]
   cases a.find? λx=>decide (x.2=j)with
   |some U=>rfl
   |none=>simp[aY z]
noncomputable def fV (e:Env)(ad:cK)(f:Fm)(S:GS)(i:ay)(m:Int):List (Ro×RO):=[(.ta,.dk (eT ((gv f S).take m).taken)),(.un,.dk (eU (dr S.un m))),(.pl,eO e (.int f.low) (.int f.high) (.int ((gv f S).take m).mark) (.ref (ad .ta)) (.ref (ad .un))),(.ho,.dk (eH (pt (eX S.ns) m (aS f i)))),(.nu,.dt (eN (pt S.ns (aS f i) m)))]
theorem V4(G:dw e M ad f S)(b:S.Ok f)(W:lk S.ns (aS f i)=none)(g:m∉S.ns.map (·.2))(X:i.k∉S.tl.map λT=>T.i.k)(hx:M x=none)(v:M y=none)(u:y≠x):
 cN e M ad f S (put (put (put (put (pu ad (fV e ad f S i m) M) x (bU e i.r (.int m) (.str "note") (.int (S.now+f.t0)))) (ad .bi) (.dt (eA (pt (ck ad S.tl) i.k x)))) y (.dt (eA [(bx i,x)]))) (ad .bn) (.dk (eB (dh ad S.lb++ [(m,y)])))) (eC (eC ad (.tk S.nx) x) (.nb (S.nx+1)) y) (S.g9 f i m):=by
 have q:∀{x:Addr},M x=none->∀p∈fV e ad f S i m,x≠ad p.1:=λhx p a=>by
  simp only[fV,eY,qR,or_false]at a;rcases a with rfl|rfl|rfl|rfl|rfl
  . exact(eR hx (G.at_ .ta _ rfl)).symm
  . exact(eR hx (G.at_ .un _ rfl)).symm
  . exact(eR hx (G.at_ .pl _ rfl)).symm
  . exact(eR hx (G.at_ .ho _ rfl)).symm
  . exact(eR hx (G.at_ .nu _ rfl)).symm
 obtain⟨J,O⟩:=AJ (l:=fV e ad f S i m) G λp a=>by
  simp only[fV,eY,qR,or_false]at a;rcases a with rfl|rfl|rfl|rfl|rfl<;>exact⟨_,rfl⟩
 have c:=Bs hx (q hx);have w:=Bs v (q v);have nx:∀r o,ct e ad f S r=some o->ad r≠x:=λr o h=>eR hx (G.at_ r o h)
 have Y:∀r o,ct e ad f S r=some o->ad r≠y:=λr o h=>eR v (G.at_ r o h)
 have L:=Cells.new (r:=.tk S.nx) (o:=bU e i.r (.int m) (.str "note") (.int (S.now+f.t0))) J c;have Q:=O.trans (Fr.fresh (r:=.tk S.nx) (o:=bU e i.r (.int m) (.str "note") (.int (S.now+f.t0))) c);have b0:upd (ups (fV e ad f S i m) (ct e ad f S)) (.tk S.nx) (bU e i.r (.int m) (.str "note") (.int (S.now+f.t0))) .bi=some (.dt (eA (ck ad S.tl))):=by simp[fV,ups,upd,ct]
 have D:=L.put (r:=.bi) (o:=.dt (eA (pt (ck ad S.tl) i.k x))) b0;have F:=Q.trans (Fr.put (r:=.bi) (o:=.dt (eA (pt (ck ad S.tl) i.k x))) b0);have e1:eC ad (.tk S.nx) x .bi=ad .bi:=ff (λz=>by cases z)
 rw[e1]at D F;have d:put (put (pu ad (fV e ad f S i m) M) x (bU e i.r (.int m) (.str "note") (.int (S.now+f.t0)))) (ad .bi) (.dt (eA (pt (ck ad S.tl) i.k x))) y=none:=by rw[ao (aY (Y .bi _ rfl)),ao u];exact w
 have N:=Cells.new (r:=.nb (S.nx+1)) (o:=.dt (eA [(bx i,x)])) D d;have R:=F.trans (Fr.fresh (r:=.nb (S.nx+1)) (o:=.dt (eA [(bx i,x)])) d);have b1:upd (upd (upd (ups (fV e ad f S i m) (ct e ad f S)) (.tk S.nx) (bU e i.r (.int m) (.str "note") (.int (S.now+f.t0)))) .bi (.dt (eA (pt (ck ad S.tl) i.k x)))) (.nb (S.nx+1)) (.dt (eA [(bx i,x)])) .bn=some (.dk (eB (dh ad S.lb))):=by simp[fV,ups,upd,ct]
 have E:=N.put (r:=.bn) (o:=.dk (eB (dh ad S.lb++ [(m,y)]))) b1;have H:=R.trans (Fr.put (r:=.bn) (o:=.dk (eB (dh ad S.lb++ [(m,y)]))) b1);have U:eC (eC ad (.tk S.nx) x) (.nb (S.nx+1)) y .bn=ad .bn:=(ff (λz=>by cases z)).trans (ff (λz=>by cases z))
 rw[U]at E H;have C:ct e (eC (eC ad (.tk S.nx) x) (.nb (S.nx+1)) y) f (S.g9 f i m)=upd (upd (upd (upd (ups (fV e ad f S i m) (ct e ad f S)) (.tk S.nx) (bU e i.r (.int m) (.str "note") (.int (S.now+f.t0)))) .bi (.dt (eA (pt (ck ad S.tl) i.k x)))) (.nb (S.nx+1)) (.dt (eA [(bx i,x)]))) .bn (.dk (eB (dh ad S.lb++ [(m,y)]))):=by
  have tA:ck (eC (eC ad (.tk S.nx) x) (.nb (S.nx+1)) y) S.tl=ck ad S.tl:=(iG λT s=>by rw[ff (λz=>by cases z)]).trans (Iy b.i1)
  have I:∀q,outs (eC (eC ad (.tk S.nx) x) (.nb (S.nx+1)) y) S.tl q=outs ad S.tl q:=λq=>(iG λT s=>by rw[ff (λz=>by cases z)]).trans (AQ b.i1)
  have tx:eC (eC ad (.tk S.nx) x) (.nb (S.nx+1)) y (.tk S.nx)=x:=(ff (λz=>by cases z)).trans nI
  funext r;cases r with
  |ta=>
   simp only[fV,ups,upd,reduceCtorEq,if_false,if_true];show some (RO.dk (eT ((S.ns++ [_]).map _)))=some (RO.dk (eT (pt (S.ns.map _) m ())));rw[nO (bA.mpr (by rw[bG];exact g)),fF];rfl
  |ho=>
   simp only[fV,ups,upd,reduceCtorEq,if_false,if_true];rw[nO (bA.mpr (by unfold eX;rw[bG];exact g))]
   show some (RO.dk (eH (eX (S.ns++ [_]))))=_;unfold eX;rw[fF];rfl
  |nu=>
   simp only[fV,ups,upd,reduceCtorEq,if_false,if_true];rw[nO W];rfl
  |bi=>
   simp only[fV,ups,upd,reduceCtorEq,if_false,if_true];show some (RO.dt (eA (ck _ (S.tl++ [_]))))=_;rw[nO (bA.mpr (by unfold ck;rw[bG];exact X)),<-tA]
   unfold ck;rw[fF,bF,tx];rfl
  |bn=>
   simp only[upd,if_true];show some (RO.dk (eB (dh _ (S.lb++ [_]))))=_;unfold dh;rw[fF,bF,nI];congr 4;refine iG λz A=>?_
   rw[ff (λq=>by injection q with q;have:=b.i2 z A;omega),ff (λz=>by cases z)]
  |tk j=>
   have n:ups (fV e ad f S i m) (ct e ad f S) (.tk j)=ct e ad f S (.tk j):=by simp[fV,ups,upd]
   rw[au (λz=>by cases z),au (λz=>by cases z),au (λz=>by cases z)]
   show Option.map _ (List.find? _ (S.tl++ [_]))=_;rw[HF b.i1]
   by_cases z:j=S.nx
   . rw[ai z,z,bO];rfl
   . rw[ae z,au (λq=>by injection q with q;exact z q),n];rfl
  |nb j=>
   rw[au (λz=>by cases z)]
   show Option.map _ (List.find? _ (S.lb++ [_]))=_;rw[SU (λz A=>kg (b.i2 z A))]
   by_cases z:j=S.nx+1
   . rw[ai z,z,bO]
     show some (RO.dt (eA (outs _ (S.tl++ [_]) m)))=_;rw[ye,I,ai rfl,tx];have:outs ad S.tl m= []:=by
      unfold outs;rw[List.filter_eq_nil_iff.mpr λT s=>by
       have:=sP (f:=(·.2)) (cQ (b.tn T s))
       intro q;have q:T.m=m:=by simpa using q
       exact g (q ▸ this)]
      rfl
     rw[this];rfl
   . rw[ae z,au (λq=>by injection q with q;exact z q)]
     have n:upd (upd (ups (fV e ad f S i m) (ct e ad f S)) (.tk S.nx) (bU e i.r (.int m) (.str "note") (.int (S.now+f.t0)))) .bi (.dt (eA (pt (ck ad S.tl) i.k x))) (.nb j)=ct e ad f S (.nb j):=by simp[fV,ups,upd]
     rw[n];show _=Option.map _ (List.find? _ S.lb);cases ej:S.lb.find? λx=>decide (x.2=j)with
     |none=>rfl
     |some p=>
      have a:=i8 ej;have t:¬m=p.1:=λq=>g (q ▸ b.bn p a)
      show some (RO.dt (eA (outs _ (S.tl++ [_]) p.1)))=some (RO.dt (eA (outs ad S.tl p.1)));rw[ye,I,ae t,oG]
  |_=>simp[fV,ups,ct,upd,eC,GS.g9]
 unfold cN dw;rw[C];exact⟨E,H,(ff (λz=>by cases z)).trans (ff (λz=>by cases z)),(ff (λz=>by cases z)).trans (ff (λz=>by cases z))⟩
end
section
variable {e:Env}{n:Nat}{M:RM}{Q:ak}{ad:cK}{f:Fm}{S:GS}{x y:Addr}{i:ay}{m:Int}{k:Nat}
theorem cN.refl(G:dw e M ad f S):cN e M ad f S M ad S:=⟨G,Fr.refl,rfl,rfl⟩
theorem cN.trans{M1 a:RM}(h:cN e M ad f S M1 a1 S1)(k:cN e M1 a1 f S1 a a2 S2):cN e M ad f S a a2 S2:=⟨k.1,h.2.1.trans k.2.1,k.2.2.1.trans h.2.2.1,k.2.2.2.trans h.2.2.2⟩
noncomputable def GS.wrote (S:GS)(v:RV):GS:={ S with ds:=S.ds++ [v] }
theorem yA{v:RV}(G:dw e M ad f S):cN e M ad f S (put M (ad .dn) (.lst (S.ds++ [v]))) ad (S.wrote v):=by
 have C:=G.put (r:=.dn) (o:=.lst (S.ds++ [v])) rfl;have F:=Fr.put (M:=M) (ad:=ad) (r:=.dn) (o:=.lst (S.ds++ [v])) (c:=ct e ad f S) rfl;have a:ct e ad f (S.wrote v)=upd (ct e ad f S) .dn (.lst (S.ds++ [v])):=by
  funext r;cases r with
  |tk j=>rw[au (λz=>by cases z)];rfl
  |nb j=>rw[au (λz=>by cases z)];rfl
  |_=>simp[ct,upd,GS.wrote]
 unfold cN dw;rw[a];exact⟨C,F,rfl,rfl⟩
noncomputable def GS.fC (S:GS)(f:Fm)(k:Nat):GS:={ S with tl:=S.tl.map λU=>if U.id=k then { U with ov:=S.now+f.t0 }else U }
theorem A7{g:Tk->β}(a:∀U o,g { U with ov:=o }=g U):(S.fC f k).tl.map g=S.tl.map g:=by
 unfold GS.fC;rw[bG];refine iG λU _=>?_
 show g (if U.id=k then _ else U)=g U
 split
 . exact a _ _
 . rfl
theorem Kt{T:Tk}(G:dw e M ad f S)(g:S.Ok f)(b:T∈S.tl)(hs:T.st= "note"):cN e M ad f S (put M (ad (.tk T.id)) (bU e T.i.r (.int T.m) (.str "note") (.int (S.now+f.t0)))) ad (S.fC f T.id):=by
 have d:ct e ad f S (.tk T.id)=some (gU e T):=by show Option.map _ (S.tl.find? λU=>decide (U.id=T.id))=_;rw[nK g.d6 b];rfl
 have C:=G.put (r:=.tk T.id) (o:=bU e T.i.r (.int T.m) (.str "note") (.int (S.now+f.t0))) d;have F:=Fr.put (M:=M) (ad:=ad) (r:=.tk T.id) (o:=bU e T.i.r (.int T.m) (.str "note") (.int (S.now+f.t0))) (c:=ct e ad f S) d;have a:ct e ad f (S.fC f T.id)=upd (ct e ad f S) (.tk T.id) (bU e T.i.r (.int T.m) (.str "note") (.int (S.now+f.t0))):=by
  have h:∀j,(S.fC f T.id).tl.find? (λU=>decide (U.id=j))=(S.tl.find? λU=>decide (U.id=j)).map λU=>if U.id=T.id then { U with ov:=S.now+f.t0 }else U:=λj=>by
   unfold GS.fC;rw[List.find?_map];congr 2;funext U;show decide ((if U.id=T.id then _ else U:Tk).id=j)=_
   split<;>rfl
  funext r;cases r with
  |bi=>
   rw[au (λz=>by cases z)]
   show some (RO.dt (eA (ck ad (S.fC f T.id).tl)))=some (RO.dt (eA (ck ad S.tl)));unfold ck;rw[A7 λU o=>rfl]
  |tk j=>
   show Option.map _ (List.find? _ (S.fC f T.id).tl)=_;rw[h]
   by_cases z:j=T.id
   . subst z
     rw[nK g.d6 b,bO];show some (gU e (if T.id=T.id then _ else T))=_
     rw[ai rfl];unfold gU;rw[hs]
   . rw[au (λq=>by injection q with q;exact z q)]
     show _=Option.map _ (List.find? _ S.tl);cases ej:S.tl.find? λU=>decide (U.id=j)with
     |none=>rfl
     |some U=>
      have:U.id=j:=by simpa using jq (p:=λU:Tk=>decide (U.id=j)) ej
      show some (gU e (if U.id=T.id then _ else U))=some (gU e U)
      rw[ae (by rw[this];exact z)]
  |nb j=>
   rw[au (λz=>by cases z)]
   show Option.map _ (List.find? _ S.lb)=Option.map _ (List.find? _ S.lb);congr 1;funext x;show RO.dt (eA (outs ad (S.fC f T.id).tl x.1))=RO.dt (eA (outs ad S.tl x.1));congr 2;unfold outs GS.fC;rw[m9,bG];have e1:(λU:Tk=>decide (U.m=x.1)) ∘ (λU:Tk=>if U.id=T.id then { U with ov:=S.now+f.t0 }else U)=λU=>decide (U.m=x.1):=by
    funext U;show decide ((if U.id=T.id then _ else U:Tk).m=x.1)=_;split<;>rfl
   rw[e1];refine iG λU _=>?_
   show(bx (if U.id=T.id then _ else U:Tk).i,ad (.tk (if U.id=T.id then _ else U:Tk).id))=_
   split<;>rfl
  |_=>simp[ct,upd,GS.fC]
 unfold cN dw;rw[a];exact⟨C,F,rfl,rfl⟩
def Nt(S:GS):Prop:=∀T∈S.tl,T.i.kind= "note"/\T.st= "note"
theorem Tp(c:S.Ok f):∀z∈eX S.ns,∃k j r,z.2=k::some (.inl j)::r:=λz b=>by
 obtain⟨w,a,rfl⟩:=aP.mp b;obtain⟨i,_,hi⟩:=c.hk w a;show ∃k j r,w.1=_;rw[hi];unfold aS ay.k;split
 . exact⟨_,_,_,rfl⟩
 . split<;>exact⟨_,_,_,rfl⟩
theorem P6{rs rd z b c:RV}{i:ay}{g t ho nu:Addr}{hs:List (Int×TK)}{ns:List (TK×Int)}(A:M g=some (cy e f.r (.ref t) rs rd .aq))(h:M t=some (bE e f.r z now b c (.ref ho) (.ref nu)))
 (l:M ho=some (.dk (eH hs))) (o:M nu=some (.dt (eN ns))) (v:lk ns (aS f i)=none) (s:∀x∈hs,∃k j r,x.2=k::some (.inl j)::r) (u:hs.length<1000) (a:f.most<=((jM hs i.house).length:Int))
 (w:Q (.tup [.str "kept",.str "most"]) M):aA (P e) (n+5) 60 [.ref g,i.r,.str "note"] M Q:=by
 have C:∀{M:RM} {Q:ak},bI i.r (.int 1) M Q=Q (.int i.house) M:=zX;have D:∀{M:RM} {Q:ak},bI f.r (.int 5) M Q=Q (.int f.most) M:=zW;rw[us (i:=60) (d:=jA) rfl];simp only[jA];walk_at "evs";rw[xP h o,v,xR];walk_at "evs";refine Bf h l s u ?_;walk_at "evs";rw[ai (by rw[bo];simp;omega)]
 first|exact w|trivial
theorem P7{rs rd l o:RV}{i:ay}{p:aw}{g t pl ta un ho nu:Addr}{hs:List (Int×TK)}{ns:List (TK×Int)}(h:p.Ok)(v:M g=some (cy e f.r (.ref t) rs rd .aq))(c:M t=some (bE e f.r (.ref pl) (.int nw) l o (.ref ho) (.ref nu)))(C:iB e M pl ta un p)
 (s:M ho=some (.dk (eH hs))) (u:M nu=some (.dt (eN ns))) (A:lk ns (aS f i)=none) (w:∀x∈hs,∃k j r,x.2=k::some (.inl j)::r) (z:hs.length<1000) (b:((jM hs i.house).length:Int)<f.most) (a:p.pick (f.pick== "keep") i.door nw=none)
 (D:Q (.tup [.str "kept",.str "full"]) M):aA (P e) (n+5) 60 [.ref g,i.r,.str "note"] M Q:=by
 have E:∀{M:RM} {Q:ak},bI i.r (.int 1) M Q=Q (.int i.house) M:=zX;have F:∀{M:RM} {Q:ak},bI i.r (.int 2) M Q=Q (.int i.door) M:=CD;have H:∀{M:RM} {Q:ak},bI f.r (.int 5) M Q=Q (.int f.most) M:=zW;rw[us (i:=60) (d:=jA) rfl];simp only[jA];walk_at "evs";rw[xP c u,A,xR];walk_at "evs";refine Bf c s w z ?_;walk_at "evs";rw[ae (by rw[bo];simp;omega)]
 refine FX h v c C ?_;rw[a,xR];walk_at "evs"
def led(m:Int):RV:=.tup [.str "led",.int m]
def kept(w:Str):RV:=.tup [.str "kept",.str w]
noncomputable def GS.dj (S:GS)(f:Fm)(i:ay):GS×RV:=match S.tl.find? λT=>decide (T.i.k=i.k)with
 |some T=>(S.fC f T.id,led T.m)
 |none=>match lk S.ns (aS f i)with
  |some m=>(S.begun f i m,led m)
  |none=>if f.most<=((jM (eX S.ns) i.house).length:Int)then(S,kept "most")else match(gv f S).pick (f.pick== "keep") i.door S.now with
   |none=>(S,kept "full")
   |some m=>(S.g9 f i m,led m)
theorem AV(G:dw e M ad f S):iB e M (ad .pl) (ad .ta) (ad .un) (gv f S):=⟨G.at_ .pl _ rfl,G.at_ .ta _ rfl,G.at_ .un _ rfl⟩
theorem Im(a:f.Ok)(b:S.Ok f):(gv f S).Ok:=⟨a.lo,b.mr.1,b.mr.2,a.hi,a.wide⟩
theorem GK{p:aw}{b:Bool}{d t:Int}(h:p.pick b d t=some m):p.free m t=true:=by
 unfold aw.pick at h;split at h
 . rename_i z;cases h;exact(bg _ _ ▸ z).2
 . exact jq (p:=λi=>p.free i t) h
theorem AS(h:(gv f S).free m S.now=true):m∉S.ns.map (·.2)/\f.low<=m/\m<=f.high:=by
 unfold aw.free aw.has gv at h;simp only[bg,gY,jT]at h;refine⟨λz=>?_,h.1.1.1,h.1.1.2⟩
 have:=va (l:=S.ns.map λx=>(x.2,())) (k:=m)
 rw[h.1.2,bG]at this;exact aW z (by simpa using this)
theorem Rc(D:f.Ok)(G:dw e M ad f S)(d:S.Ok f)(tb:Tb e)(hk:i.kind= "note")(H:Nt S)
 (j:∀W I,cN e M ad f S W I (S.dj f i).1->Q (S.dj f i).2 W):aA (P e) (n+6) 59 [.ref (ad .g),i.r,.str "say"] M Q:=by
 have v:=G.at_ .g _ rfl;have w:=G.at_ .t _ rfl;have E:=G.at_ .bi _ rfl;have Y:=G.at_ .bn _ rfl;have J:=G.at_ .ho _ rfl;have F:=G.at_ .nu _ rfl;unfold GS.dj at j;cases ef:S.tl.find? λT=>decide (T.i.k=i.k)with
 |some T=>
  rw[ef]at j;have l:=i8 ef;have L:T.i.k=i.k:=by simpa using jq (p:=λT:Tk=>decide (T.i.k=i.k)) ef
  have hx:M (ad (.tk T.id))=some (bU e T.i.r (.int T.m) (.str "note") (.int T.ov)):=by
   refine G.at_ (.tk T.id) _ ?_;show Option.map _ (S.tl.find? λU=>decide (U.id=T.id))=_
   rw[nK d.d6 l,<-(H T l).2];rfl
  refine Pq tb hk v w E (x:=ad (.tk T.id)) (m:=T.m) ?_ hx ?_
  . rw[<-L]
    exact jl (x:=(T.i.k,ad (.tk T.id))) (by unfold ck;rw[bG];exact d.d1) (aP.mpr ⟨T,l,rfl⟩)
  . exact j _ ad (Kt G d l (H T l).2)
 |none=>
  rw[ef]at j;have O:i.k∉S.tl.map λT=>T.i.k:=λz=>by
   obtain⟨T,H,e1⟩:=aP.mp z;rw[il]at ef;exact ef T H (by simpa using e1)
  have hl:lk (ck ad S.tl) i.k=none:=bA.mpr (by unfold ck;rw[bG];exact O)
  refine Pr hk v w E hl ?_;cases em:lk S.ns (aS f i)with
  |some m=>
   rw[em]at j;obtain⟨k,A⟩:=d.nb _ (cQ em);have N:lk (dh ad S.lb) m=some (ad (.nb k)):=by unfold dh;rw[nR (g:=λk=>ad (.nb k)),A];rfl
   have C:=nM d.d2 (cQ A);have Z:M (ad (.nb k))=some (.dt (eA (outs ad S.tl m))):=G.at_ (.nb k) _ (by show Option.map _ (S.lb.find? λx=>decide (x.2=k))=_;rw[C];rfl)
   refine PF (n:=n+1) tb v w E Y F em N Z (by unfold ck;rw[bo];have:=d.sz.1;omega) ?_ (G.ne (r:=.nb k) (r':=.bi) (by show Option.map _ (S.lb.find? λx=>decide (x.2=k))=_;rw[C];rfl) rfl (λz=>by cases z)) λx hx=>?_
   . unfold outs
     rw[bo];have:=fX (λT:Tk=>decide (T.m=m)) S.tl
     have:=d.sz.1;omega
   . exact j _ _ (UR G d em A O hx)
  |none=>
   rw[em]at j;have s:=Tp d;have t:(eX S.ns).length<1000:=by unfold eX;rw[bo];have:=d.sz.2.1;omega
   by_cases h:f.most<=((jM (eX S.ns) i.house).length:Int)
   . simp only[ai h]at j
     exact P6 v w J F em s t h (j M ad (cN.refl G))
   . simp only[ae h]at j
     cases ep:(gv f S).pick (f.pick== "keep") i.door S.now with
     |none=>
      rw[ep]at j;exact P7 (Im D d) v w (AV G) J F em s t (by omega) ep (j M ad (cN.refl G))
     |some m=>
      rw[ep]at j;obtain⟨X,f2,f3⟩:=AS (GK ep);have A:lk (dh ad S.lb) m=none:=bA.mpr (by
       unfold dh;rw[bG];intro z;obtain⟨p,hp,rfl⟩:=aP.mp z;exact X (d.bn p hp))
      have u:∀{r r':Ro} {o o':RO},ct e ad f S r=some o->ct e ad f S r'=some o'->r≠r'->ad r≠ad r':=λa b c=>G.ne a b c
      refine PD tb (Im D d) v w (AV G) E Y J F em A s (by omega) ep (by show(S.ns.map _).length<1000;rw[bo];have:=d.sz.2.1;omega) (by unfold ck;rw[bo];have:=d.sz.1;omega) (by unfold dh;rw[bo];have:=d.sz.2.2;omega) t (by have:=d.sz.2.1;omega)
       (u (r:=.un) (r':=.ta) rfl rfl (λz=>by cases z)) (u (r:=.ho) (r':=.ta) rfl rfl (λz=>by cases z)) (u (r:=.ho) (r':=.un) rfl rfl (λz=>by cases z)) (u (r:=.bn) (r':=.ta) rfl rfl (λz=>by cases z)) (u (r:=.bn) (r':=.un) rfl rfl (λz=>by cases z)) (u (r:=.bn) (r':=.ho) rfl rfl (λz=>by cases z)) (u (r:=.bi) (r':=.nu) rfl rfl (λz=>by cases z)) λx y hx hy R=>?_
      exact j _ _ (V4 G d em X O hx hy R)
theorem XW(d:f.Ok)(G:dw e M ad f S)(t:S.Ok f)(tb:Tb e)(c:i.Ok)(o:Nt S)(u:S.ds.length<900)
 (s:∀g a,cN e M ad f S g a ((S.dj f i).1.wrote (.tup [i.deed,(S.dj f i).2]))->Q (S.dj f i).2 g):aA (P e) (n+10) 74 [.ref (ad .g),.str "note",.int i.house,.int i.door,.int i.place,.int i.far,.str "say",.str ""] M Q:=by
 refine Yt (post:=λv h=>v=(S.dj f i).2/\∃a,cN e M ad f S h a (S.dj f i).1) tb c (G.at_ .g _ rfl) (λK l=>Rc d G t tb c.kind o λM' a st=>l _ _ ⟨rfl,a,st⟩) λv h r=>?_
 obtain⟨rfl,a,st⟩:=r;have j:=st.1.at_ .g _ rfl;have b:=st.1.at_ .dn _ rfl;rw[st.2.2.1,st.2.2.2]at j;rw[st.2.2.2]at b;have e1:(S.dj f i).1.ds=S.ds:=by
  unfold GS.dj;split
  . rfl
  . split
    . rfl
    . split
      . rfl
      . split<;>rfl
 refine⟨_,_,_,_,_,j,b,by rw[e1];omega,?_⟩
 have:=st.trans (yA (v:=.tup [i.deed,(S.dj f i).2]) st.1);rw[st.2.2.2]at this;exact s _ _ this
end
section
variable {e:Env}{n:Nat}{M:RM}{Q:ak}{ad:cK}{f:Fm}{S:GS}{m p far:Int}{t bn:Addr}{g:Addr}
theorem FO{k r a b c h o p1 j:RV}(v:M t=some (bE e k r a b (.ref bn) c h))(u:M bn=some (.dk (eB lb)))(l:lk lb m=none):aA (P e) (n+1) 70 [.ref t,o,.int m,p1,j] M Q=Q .aq M:=by
 have s:lk (eB lb) (.inl m)=none:=by rw[nU,l];rfl
 rw[us (i:=70) (d:=p8) rfl];simp only[p8];walk_at "evs"
theorem FN{l:List (TK×Addr)}{b:Addr}(o:M t=some (bE e fr rp now rbi (.ref bn) rho rnu))(j:M bn=some (.dk (eB lb)))(a:lk lb m=some b)(k:M b=some (.dt (eA l))):aA (P e) (n+1) 70 [.ref t,.str kd,.int m,.int p,.int far] M Q=Q (og (lk l [some (.inr kd),some (.inl p),some (.inl far)])) M:=by
 have h:lk (eB lb) (.inl m)=some (.ref b):=by rw[nU,a];rfl
 have c:cI (.tup [.str kd,.int p,.int far])=some [some (.inr kd),some (.inl p),some (.inl far)]:=rfl;rw[us (i:=70) (d:=p8) rfl];simp only[p8];walk_at "evs";rw[BN c,sm];cases lk l [some (.inr kd),some (.inl p),some (.inl far)]<;>rfl
noncomputable def CP(p:Int):Option RO->RV
 |some (.ins _ ((_,.tup [_,_,_,.int q,_])::_))=>.bl (q==p)
 |_=>.aq
def zh(M:RM)(p:Int):RV->RV
 | .ref a=>CP p (M a)
 |_=>.aq
theorem RE{l:List (Int×Addr)}{L:List Tk}{b:Addr}{x C o r s u:RV}{v:Tk->TK}{a:Tk->Addr}(F:M t=some (bE e x C o r (.ref bn) s u))(E:M bn=some (.dk (eB l)))(y:lk l m=some b)(k:M b=some (.dt (eA (L.map λT=>(v T,a T)))))(z:L.length<1000)(hk:∀T∈L,M (a T)=some (gU e T))
 (A:Q (.bl (L.any λT=>T.i.place==p)) M):aA (P e) (n+1) 53 [.ref t,.int m,.int p] M Q:=by
 have D:lk (eB l) (.inl m)=some (.ref b):=by rw[nU,y];rfl
 rw[us (i:=53) (d:=uf) rfl];simp only[uf];walk_at "evs";unfold mS;simp only[k];have e0:iY false (eA (L.map λT=>(v T,a T)))=L.map λT=>RV.ref (a T):=by unfold iY eA enc;rw[ae (by decide),bG,bG];rfl
 have w:∀T∈L,zh M p (.ref (a T))= .bl (T.i.place==p):=λT c=>by
  show CP p (M (a T))=_;rw[hk T c];rfl
 rw[e0];refine⟨by rw[bo];exact fq z (by decide),jg (bd:=fW false 1) (λ_=>true) (zh M p) bw _ _ (λx hx=>?_) ?_⟩
 . obtain⟨T,c,rfl⟩:=aP.mp hx
   have h:=hk T c;refine⟨[.ref (a T)],rfl,λK j=>j,λ_ K j=>?_⟩
   rw[w T c]at j;have nb:a T≠b:=br h k;show(tr ((P e).Gn n) _).E [some (.ref (a T)),some (.int p)] _ K;walk_at "ev";rw[ao nb,h];unfold gU;walk_at "ev";unfold ay.r;walk_at "ev";exact j
 . show gF "any" [.ls ([]++((L.map λT=>RV.ref (a T)).filter λ_=>true).map (zh M p))] (put (put M b (.ft _)) b (.dt _)) Q
   rw[gq,rF k,jU,qV.mpr (λ_ _=>rfl),bG]
   rw[show List.map (zh M p ∘ λT=>RV.ref (a T)) L=(L.map λT=>T.i.place==p).map RV.bl by rw[bG];exact iG λT c=>w T c]
   rw[Xr,List.any_map];exact A
def vX:Option TK->RV
 |some h=>cz h
 |none=>.aq
theorem Gv{hs:List (Int×TK)}{ho:Addr}(b:M t=some (bE e fr rp now rbi rbn (.ref ho) rnu))(a:M ho=some (.dk (eH hs))):aA (P e) (n+1) 35 [.ref t,.int m] M Q=Q (vX (lk hs m)) M:=by
 rw[us (i:=35) (d:=ua) rfl];simp only[ua];walk_at "evs";rw[BH];cases lk hs m<;>rfl
theorem AY:∀{tl:List Tk},lk (outs ad tl m) κ=(tl.find? λT=>decide (T.m=m/\bx T.i=κ)).map λT=>ad (.tk T.id)
 | []=>rfl
 |T::tl=>by
  have a:=AY (κ:=κ) (tl:=tl);unfold outs at a ⊢
  by_cases z:T.m=m
  . rw[wx (by simpa using z),bF,fB]
    by_cases w:bx T.i=κ
    . rw[ai w,List.find?_cons_of_pos (by simp[z,w])];rfl
    . rw[ae w,List.find?_cons_of_neg (by simp[w]),a]
  . rw[wy (by simpa using z),List.find?_cons_of_neg (by simp[z]),a]
def pR(h d:Int):RV:=.tup [.str "in",.int h,.int d]
noncomputable def CB:TK->RV
 |_::some (.inl a)::some (.inl b)::_=>pR a b
 |_=>.aq
noncomputable def jn(p far:Int):TK:=[some (.inr "note"),some (.inl p),some (.inl far)]
noncomputable def GS.eZ (S:GS)(m p:Int):Bool:=(S.tl.filter λT=>decide (T.m=m)).any λT=>T.i.place==p
noncomputable def GS.cw (S:GS)(f:Fm)(m p far:Int):RV:=match S.tl.find? λT=>decide (T.m=m/\bx T.i=jn p far)with
 |some T=>pR T.i.house T.i.door
 |none=>match lk (eX S.ns) m with
  |none=>kept "nobody"
  |some h=>if(f.sieve== "all" ||(f.sieve== "place" &&S.eZ m p))=true then CB h else kept "sieve"
theorem xb:bI f.r (.int 3) M Q=Q (.str f.sieve) M:=bz.trans (by rw[Nf];rfl)
theorem CA:bI f.r (.int 6) M Q=Q (.bl f.renew) M:=bz.trans (by rw[Na];rfl)
theorem Wc(G:dw e M ad f S)(b:S.Ok f)(u:m∈S.ns.map (·.2))(a:Q (.bl (f.sieve== "all" ||(f.sieve== "place" &&S.eZ m p))) M):aA (P e) (n+2) 62 [.ref (ad .g),.int p,.int m] M Q:=by
 have y:=G.at_ .g _ rfl;have v:=G.at_ .t _ rfl;have o:=G.at_ .bn _ rfl;have A:∀{M:RM} {Q:ak},bI f.r (.int 3) M Q=Q (.str f.sieve) M:=xb;obtain⟨z,w,rfl⟩:=aP.mp u;obtain⟨k,l⟩:=b.nb z w;have j:lk (dh ad S.lb) z.2=some (ad (.nb k)):=by unfold dh;rw[nR (g:=λk=>ad (.nb k)),l];rfl
 have r:M (ad (.nb k))=some (.dt (eA (outs ad S.tl z.2))):=G.at_ (.nb k) _ (by show Option.map _ (S.lb.find? λx=>decide (x.2=k))=_;rw[nM b.d2 (cQ l)];rfl)
 rw[us (i:=62) (d:=ug) rfl];simp only[ug];walk_at "evs"
 by_cases c:(f.sieve==("all":Str))=true
 . rw[c]at a;rw[ai c];exact a
 . rw[Bool.not_eq_true]at c
   rw[c]at a ⊢;rw[ae (by simp)]
   by_cases h:(f.sieve==("place":Str))=true
   . rw[h]at a;rw[ai h]
     refine RE v o j r ?_ (λT s=>?_) a
     . have:=fX (λT:Tk=>decide (T.m=z.2)) S.tl
       have:=b.sz.1;omega
     . exact G.at_ (.tk T.id) _ (by show Option.map _ (S.tl.find? λU=>decide (U.id=T.id))=_;rw[nK b.d6 (bB.mp s).1];rfl)
   . rw[Bool.not_eq_true]at h
     rw[h]at a ⊢;rw[ae (by simp)];exact a
theorem uS{i:ay}:∃a b,aS f i= [some (.inr i.kind),some (.inl i.house),some (.inl i.door),a,b]:=by
 unfold aS ay.k;split
 . exact⟨_,_,rfl⟩
 . split<;>exact⟨_,_,rfl⟩
theorem Sk(G:dw e M ad f S)(r:S.Ok f)(c:Q (match lk (eX S.ns) m with|none=>kept "nobody" |some h=>if(f.sieve== "all" ||(f.sieve== "place" &&S.eZ m p))=true then CB h else kept "sieve") M):aA (P e) (n+3) 67 [.ref (ad .g),.str "note",.int p,.int m] M Q:=by
 have k:=G.at_ .g _ rfl;have l:=G.at_ .t _ rfl;have y:=G.at_ .ho _ rfl;rw[us (i:=67) (d:=p7) rfl];simp only[p7];walk_at "ev";rw[k];walk_at "ev";rw[l];walk_at "ev";rw[Gv l y];cases eh:lk (eX S.ns) m with
 |none=>
  rw[eh]at c;unfold vX;walk_at "ev";exact c
 |some h=>
  rw[eh]at c;obtain⟨w,o,e1⟩:=aP.mp (cQ eh);injection e1 with e1 s
  obtain⟨i,hk,u⟩:=r.hk w o;obtain⟨a,b,v⟩:=uS (f:=f) (i:=i);have x:h= [some (.inr "note"),some (.inl i.house),some (.inl i.door),a,b]:=by rw[<-s,u,v,hk]
  subst x;rw[show vX (some [some (.inr "note"),some (.inl i.house),some (.inl i.door),a,b])= .tup [.str "note",.int i.house,.int i.door,oR a,oR b]from rfl]
  walk_at "ev";have j:(("note":Str)==("line":Str))=false:=by decide
  rw[j,ae (by simp),k]
  walk_at "ev";have z:m∈S.ns.map (·.2):=by rw[<-e1];exact sP (f:=(·.2)) o
  refine Wc G r z ?_;rw[eQ];cases eb:(f.sieve==("all":Str)||f.sieve==("place":Str)&&S.eZ m p)with
  |true=>simp only[eb,if_true]at c;rw[ae (by simp)];exact c
  |false=>simp only[eb]at c;rw[ai (by rfl)];exact c
theorem Rx{T:Tk}(G:dw e M ad f S)(k:S.Ok f)(tb:Tb e)(c:T∈S.tl)(hk:T.i.kind= "note")(hs:T.st= "note")(a:∀b,cN e M ad f S b ad (if f.renew=true then S.fC f T.id else S)->Q (pR T.i.house T.i.door) b):aA (P e) (n+3) 61 [.ref (ad .g),.ref (ad (.tk T.id)),.str "say"] M Q:=by
 have h:=G.at_ .g _ rfl;have j:=G.at_ .t _ rfl;have hx:M (ad (.tk T.id))=some (bU e T.i.r (.int T.m) (.str "note") (.int T.ov)):=G.at_ (.tk T.id) _ (by
  show Option.map _ (S.tl.find? λU=>decide (U.id=T.id))=_
  rw[nK k.d6 c,<-hs];rfl)
 have l:∀{M:RM} {Q:ak},bI f.r (.int 6) M Q=Q (.bl f.renew) M:=CA;rw[us (i:=61) (d:=t8) rfl];simp only[t8];walk_at "ev";rw[hx];walk_at "ev";rw[show T.i.r= .tup [.str "note",.int T.i.house,.int T.i.door,.int T.i.place,.int T.i.far] by unfold ay.r;rw[hk]]
 walk_at "ev";rw[hx];walk_at "ev";rw[Ar (.inr rfl)];walk_at "ev";rw[h];walk_at "ev";rw[l];walk_at "ev";rw[hx];walk_at "ev"
 by_cases z:f.renew=true
 . rw[ai z,h];walk_at "ev"
   rw[j];walk_at "ev";rw[ai z]at a;refine Jz tb j hx ?_;exact a _ (Kt G k c hs)
 . rw[ae z];rw[ae z]at a;exact a _ (cN.refl G)
noncomputable def GS.cV (S:GS)(f:Fm)(m p far:Int):GS:=match S.tl.find? λT=>decide (T.m=m/\bx T.i=jn p far)with
 |some T=>if f.renew=true then S.fC f T.id else S
 |none=>S
theorem J8(a:S.Ok f){T:Tk}(b:T∈S.tl):∃k,lk S.lb T.m=some k:=a.nb _ (cQ (a.tn T b))
theorem RA(G:dw e M ad f S)(ok:S.Ok f)(tb:Tb e)(hT:Nt S)(h1:f.low<=m)(h2:m<=f.high)(hq:∀M',cN e M ad f S M' ad (S.cV f m p far)->Q (S.cw f m p far) M'):aA (P e) (n+4) 71 [.ref (ad .g),.str "note",.int p,.int far,.int m,.str "say"] M Q:=by
 have hg:=G.at_ .g _ rfl;have ht:=G.at_ .t _ rfl;have hbn:=G.at_ .bn _ rfl;have hp:=G.at_ .pl _ rfl;have rest:S.tl.find? (λT=>decide (T.m=m/\bx T.i=jn p far))=none->aA (P e) (n+3) 30 [.ref (ad .pl),.int m] M (kB λc M1=>if c=true then mO (e.C 4) "sifted" (aA (P e) (n+3) 67) (tr ((P e).Gn (n+3)) (.ec (.v 1) (.ec (.v 2) (.ec (.v 4) .e0)))).A [some (.ref (ad .g)),some (.str "note"),some (.int p),some (.int far),some (.int m),some (.str "say"),some .aq] Q (ad .g) M1 (M1 (ad .g))else False):=λhf=>by
  rw[yH hp,eQ,ai (by simp[h1,h2]),hg]
  walk_at "ev";refine Sk G ok ?_;unfold GS.cw GS.cV at hq;rw[hf]at hq;exact hq _ (cN.refl G)
 rw[us (i:=71) (d:=p5) rfl];simp only[p5];walk_at "ev";rw[hg];walk_at "ev";rw[ht];walk_at "ev";cases hb:lk S.lb m with
 |none=>
  have hbA:lk (dh ad S.lb) m=none:=by unfold dh;rw[nR (g:=λk=>ad (.nb k)),hb];rfl
  rw[FO ht hbn hbA];walk_at "ev";have hf:S.tl.find? (λT=>decide (T.m=m/\bx T.i=jn p far))=none:=il.mpr λT hT z=>by
   obtain⟨k,e1⟩:=J8 ok hT;have:T.m=m:=(jo z).1;rw[this,hb]at e1;cases e1
  rw[hg];walk_at "ev";rw[ht];walk_at "ev";rw[hp];walk_at "ev";exact rest hf
 |some k=>
  have hbA:lk (dh ad S.lb) m=some (ad (.nb k)):=by unfold dh;rw[nR (g:=λk=>ad (.nb k)),hb];rfl
  have h5:M (ad (.nb k))=some (.dt (eA (outs ad S.tl m))):=G.at_ (.nb k) _ (by show Option.map _ (S.lb.find? λx=>decide (x.2=k))=_;rw[nM ok.d2 (cQ hb)];rfl)
  rw[FN ht hbn hbA h5];rw[show lk (outs ad S.tl m) [some (.inr "note"),some (.inl p),some (.inl far)]=_ from AY (κ:=jn p far)]
  cases hf:S.tl.find? (λT=>decide (T.m=m/\bx T.i=jn p far))with
  |none=>
   rw[show og (Option.map (λT:Tk=>ad (.tk T.id)) none)= .aq from rfl]
   walk_at "ev";rw[hg];walk_at "ev";rw[ht];walk_at "ev";rw[hp];walk_at "ev";exact rest hf
  |some T=>
   have hTm:=i8 hf;unfold GS.cw GS.cV at hq;rw[hf]at hq;rw[show og (Option.map (λT:Tk=>ad (.tk T.id)) (some T))= .ref (ad (.tk T.id))from rfl]
   walk_at "ev";rw[hg];walk_at "ev";exact Rx G ok tb hTm (hT T hTm).1 (hT T hTm).2 hq
def KO(p far m:Int):RV:=.tup [.str "come",.str "note",.int p,.int far,.int m,.str "say",.str ""]
theorem Wf(G:dw e M ad f S)(x:S.Ok f)(tb:Tb e)(b:f.Ok)(o:Nt S)(k:f.low<=m)(l:m<=f.high)(v:1<=p/\p<=1000000)(u:1<=far/\far<=9999)(r:S.ds.length<900)
 (w:∀j,cN e M ad f S j ad ((S.cV f m p far).wrote (.tup [KO p far m,S.cw f m p far]))->Q (S.cw f m p far) j):aA (P e) (n+7) 72 [.ref (ad .g),.str "note",.int p,.int far,.int m,.str "say",.str ""] M Q:=by
 have c:=G.at_ .g _ rfl;have s:=G.at_ .dn _ rfl;have:=b.lo;have:=b.hi;rw[us (i:=72) (d:=p4) rfl];simp only[p4];walk_at "ev";rw[c];walk_at "ev";rw[us (i:=39) (d:=jC) rfl];simp only[jC];walk_at "ev";refine Qm (n:=n) tb v u ⟨by omega,by omega⟩ ?_
 walk_at "ev";rw[c];walk_at "ev";rw[oo];rw[us (i:=58) (d:=jB) rfl];simp only[jB];walk_at "ev";rw[show(("come":Str)==("out":Str))=false by decide,ae (by simp),c]
 walk_at "ev";refine RA G x tb o k l λM' st=>?_
 have h:=st.1.at_ .g _ rfl;have a:=st.1.at_ .dn _ rfl;have e1:(S.cV f m p far).ds=S.ds:=by
  unfold GS.cV;split
  . split<;>rfl
  . rfl
 rw[h];walk_at "ev";rw[a];walk_at "ev";exact⟨_,_,rfl,a,fq (by rw[e1];exact r) (by decide),w _ (st.trans (yA st.1))⟩
end
section
variable {e:Env}{n:Nat}{M:RM}{Q:ak}{ad:cK}{f:Fm}{S:GS}{i:ay}{m:Int}{k:Nat}{v:RV}
theorem rT{κ β:Type}[DecidableEq κ]{k:κ}:∀{l:List (κ×β)} {r:List (κ×β)},lk (l++r) k=match lk l k with|some y=>some y|none=>lk r k
 | [],r=>rfl
 |(j,y)::l,r=>by
  show lk ((j,y)::(l++r)) k=_;rw[fB,fB]
  by_cases h:j=k
  . rw[ai h,ai h]
  . rw[ae h,ae h];exact rT
theorem JL{κ β:Type}[DecidableEq κ]{k:κ}{y:β}:lk [(k,y)] k=some y:=by rw[fB,ai rfl]
theorem mC{α:Type}{l:List α}{a:α}(h:l.Nodup)(ha:a∉l):(l++ [a]).Nodup:=by
 rw[List.nodup_append];refine⟨h,by simp,λx hx y hy=>?_⟩
 cases fG.mp hy;exactλz=>ha (z ▸ hx)
theorem Ok.wrote(a:S.Ok f):(S.wrote v).Ok f:={ a with }
theorem Ok.fC(a:S.Ok f):(S.fC f k).Ok f:=
 { a with
  i1:=λT b=>by
   obtain⟨U,c,rfl⟩:=aP.mp b;show(if U.id=k then _ else U:Tk).id<S.nx
   split<;>exact a.i1 U c
  d1:=by rw[A7 λU o=>rfl];exact a.d1
  d6:=by rw[A7 λU o=>rfl];exact a.d6
  tn:=λT b=>by
   obtain⟨U,c,rfl⟩:=aP.mp b;show lk S.ns (aS f (if U.id=k then _ else U:Tk).i)=some (if U.id=k then _ else U:Tk).m
   split<;>exact a.tn U c
  sz:=⟨by show(S.tl.map _).length<900;rw[bo];exact a.sz.1,a.sz.2⟩ }
theorem Nt.fC(h:Nt S):Nt (S.fC f k):=λT a=>by
 obtain⟨U,b,rfl⟩:=aP.mp a;show(if U.id=k then _ else U:Tk).i.kind= "note"/\(if U.id=k then _ else U:Tk).st= "note"
 split<;>exact h U b
theorem Nt.snoc{T:Tk}(h:∀T∈S.tl,T.i.kind= "note"/\T.st= "note")(a:T.i.kind= "note"/\T.st= "note"):∀U∈S.tl++ [T],U.i.kind= "note"/\U.st= "note":=λU b=>by
 rcases dZ.mp b with z|z
 . exact h U z
 . cases fG.mp z;exact a
theorem Ok.begun(a:S.Ok f)(d:i.k∉S.tl.map λT=>T.i.k)(c:lk S.ns (aS f i)=some m)(g:S.tl.length<899):(S.begun f i m).Ok f:=
 { a with
  i1:=λT b=>by
   rcases dZ.mp b with h|h
   . exact kg (a.i1 T h)
   . cases fG.mp h;exact sS _
  i2:=λx hx=>kg (a.i2 x hx)
  d1:=by show((S.tl++ [_]).map _).Nodup;rw[fF];exact mC a.d1 d
  d6:=by
   show((S.tl++ [_]).map _).Nodup;rw[fF];refine mC a.d6 λz=>?_
   obtain⟨T,b,e1⟩:=aP.mp z;have e1:T.id=S.nx:=e1;have:=a.i1 T b;omega
  tn:=λT b=>by
   rcases dZ.mp b with h|h
   . exact a.tn T h
   . cases fG.mp h;exact c
  sz:=⟨by show(S.tl++ [_]).length<900;rw[eF];show S.tl.length+1<900;omega,a.sz.2⟩ }
theorem Ok.g9(ok:S.Ok f)(okf:f.Ok)(hk:i.kind= "note")(hn:i.k∉S.tl.map λT=>T.i.k)(hm:lk S.ns (aS f i)=none)(m1:f.low<=m)(m2:m<=f.high)(m3:m∉S.ns.map (·.2))(hl:S.tl.length<899/\S.ns.length<899/\S.lb.length<899):(S.g9 f i m).Ok f:=
 {
  d3:=by show((S.ns++ [_]).map _).Nodup;rw[fF];exact mC ok.d3 m3
  mr:=by
   show f.low<=((gv f S).take m).mark/\_;unfold aw.take gv;show f.low<=(if m=f.high then f.low else m+1)/\(if m=f.high then f.low else m+1)<=f.high
   have:=okf.le;split<;>omega
  i1:=λT hT=>by
   rcases dZ.mp hT with h|h
   . exact kg (kg (ok.i1 T h))
   . cases fG.mp h;exact kg (sS _)
  i2:=λx hx=>by
   rcases dZ.mp hx with h|h
   . exact kg (kg (ok.i2 x h))
   . cases fG.mp h;exact sS _
  d1:=by show((S.tl++ [_]).map _).Nodup;rw[fF];exact mC ok.d1 hn
  d2:=by
   show((S.lb++ [_]).map _).Nodup;rw[fF];refine mC ok.d2 λz=>?_
   obtain⟨T,hT,e1⟩:=aP.mp z;have e1:T.2=S.nx+1:=e1;have:=ok.i2 T hT;omega
  d4:=by show((S.ns++ [_]).map _).Nodup;rw[fF];exact mC ok.d4 (bA.mp hm)
  d5:=by
   show((S.lb++ [_]).map _).Nodup;rw[fF];refine mC ok.d5 λz=>?_
   obtain⟨T,hT,e1⟩:=aP.mp z;exact m3 (by have:=ok.bn T hT;rw[e1]at this;exact this)
  d6:=by
   show((S.tl++ [_]).map _).Nodup;rw[fF];refine mC ok.d6 λz=>?_
   obtain⟨T,hT,e1⟩:=aP.mp z;have e1:T.id=S.nx:=e1;have:=ok.i1 T hT;omega
  tn:=λT hT=>by
   show lk (S.ns++ [_]) _=_;rcases dZ.mp hT with h|h
   . rw[rT,ok.tn T h]
   . cases fG.mp h
     show lk (S.ns++ [(aS f i,m)]) (aS f i)=some m;rw[rT,hm,JL]
  nb:=λx hx=>by
   show ∃k,lk (S.lb++ [_]) _=_;rcases dZ.mp hx with h|h
   . obtain⟨k,hk⟩:=ok.nb x h
     exact⟨k,by rw[rT,hk]⟩
   . cases fG.mp h
     refine⟨S.nx+1,?_⟩;show lk (S.lb++ [(m,S.nx+1)]) m=_;rw[rT,bA.mpr (λz=>by
      obtain⟨p,hp,e1⟩:=aP.mp z;have:=ok.bn p hp;rw[e1]at this;exact m3 this),JL]
  bn:=λx hx=>by
   show _∈(S.ns++ [_]).map _;rw[fF,dZ];rcases dZ.mp hx with h|h
   . exact .inl (ok.bn x h)
   . cases fG.mp h;exact .inr (.head _)
  hk:=λx hx=>by
   rcases dZ.mp hx with h|h
   . exact ok.hk x h
   . cases fG.mp h;exact⟨i,hk,rfl⟩
  sz:=⟨by show(S.tl++ [_]).length<900;rw[eF];show S.tl.length+1<900;omega,by show(S.ns++ [_]).length<900;rw[eF];show S.ns.length+1<900;omega,by show(S.lb++ [_]).length<900;rw[eF];show S.lb.length+1<900;omega⟩ }
def S0(f:Fm):GS:=⟨0,f.low,[],[],[],[],0,[]⟩
theorem ZP(a:f.Ok):(S0 f).Ok f:=⟨⟨Int.le_refl _,a.le⟩,gK _,gK _,jW,jW,jW,jW,jW,jW,gK _,gK _,gK _,gK _,⟨(by decide:0<900),(by decide:0<900),(by decide:0<900)⟩⟩
noncomputable def wK (g t st dn pl ta un bi bn ho nu:Addr):cK
 | .g=>g| .t=>t| .pl=>pl| .ta=>ta| .un=>un| .bi=>bi| .bn=>bn| .ho=>ho| .nu=>nu| .dn=>dn| .st=>st| .tk _=>0| .nb _=>0
theorem We{x:Addr}(l:f.Ok)(hx:M x=none)(X:∀c ad,ad .g=x->dw e c ad f (S0 f)->(∀b o,M b=some o->b≠x->c b=some o)->(∀r o,ct e ad f (S0 f) r=some o->M (ad r)=none)->(∀b,c b=none->M b=none)->Q .aq c):aA (P e) (n+6) 38 [.ref x,f.r] (put M x (.ins (e.C 4) [])) Q:=by
 refine Qq l hx λt st dn pl ta un bi bn ho nu c s L g N O R U W A C D E F H I u j=>?_
 have at_:∀r o,ct e (wK x t st dn pl ta un bi bn ho nu) f (S0 f) r=some o->c (wK x t st dn pl ta un bi bn ho nu r)=some o:=λr o h=>by
  cases r<;>first|(cases h;done)|(injection h with h;subst h;first|exact s|exact L|exact g.o|exact g.t|exact g.u|exact N|exact O|exact R|exact U|exact W)
 have w:x≠pl:=FQ s g.o;refine X c (wK x t st dn pl ta un bi bn ho nu) rfl ⟨at_,λr J o Y h d z=>?_⟩ u (λr o h=>?_) ?_
 . have a:=at_ r o h
   have b:=at_ J Y d;cases r<;>first|(cases h;done)|(cases J<;>first|(cases d;done)|rfl|(injection h with h;injection d with d;subst h d;first|exact aW z (br a b)|exact aW z w|exact aW z.symm w|exact aW z A|exact aW z.symm A|exact aW z C|exact aW z.symm C|exact aW z D|exact aW z.symm D|exact aW z E|exact aW z.symm E|exact aW z F|exact aW z.symm F|exact aW z H|exact aW z.symm H|exact aW z I|exact aW z.symm I))
 . cases r<;>first|(cases h;done)|exact hx|exact j _ (by simp[wK])
 . intro b y
   cases eb:M b with
   |none=>rfl
   |some o=>
    rw[u b o eb (λz=>by rw[z,hx]at eb;cases eb)]at y
    cases y
end
section
variable {e:Env}{n:Nat}{M:RM}{Q:ak}
theorem WD{l:List (Int×Unit)}{i:Int}(h:(lk l i).isSome=true):(lk (eT l) (.inl i)).isSome=true:=by rw[KD];exact h
theorem V3{a ta un:Addr}{p:aw}{i u:Int}(h:iB e M a ta un p)(f:(lk p.taken i).isSome=true)(c:p.bL.length<1000)(r:un≠ta)
 (l:Q .aq (put (put M ta (.dk (eT (dr p.taken i)))) un (.dk (eU (pt p.bL i u))))):aA (P e) (n+1) 52 [.ref a,.int i,.int u] M Q:=by
 obtain⟨ho,b,g⟩:=h;have m:a≠ta:=AD (o:=.dk []) ho b;have e1:dr (eT p.taken) (Sum.inl i)=eT (dr p.taken i):=mJ iV;have j:pt (eU p.bL) (Sum.inl i) (RV.int u)=eU (pt p.bL i u):=jG iV;have k:=WD f;rw[us (i:=52) (d:=uk) rfl];simp only[uk];walk_at "evs";unfold eU;rw[hO];exact fq c (by decide)
theorem Rm{t pl ta un ho nu:Addr}{f:Fm}{p:aw}{hs:List (Int×TK)}{ns:List (TK×Int)}(j:M t=some (bE e f.r (.ref pl) nw rbi rbn (.ref ho) (.ref nu)))(a:iB e M pl ta un p)(c:M ho=some (.dk (eH hs)))(b:M nu=some (.dt (eN ns)))
 (u:lk hs m=some hk) (v:lk ns hk=some m) (h:(lk p.taken m).isSome=true) (s:p.bL.length<1000) (x:un≠ta) (y:ho≠ta) (z:ho≠un)
 (w:Q .aq (put (put (put (put M nu (.dt (eN (dr ns hk)))) ho (.dk (eH (dr hs m)))) ta (.dk (eT (dr p.taken m)))) un (.dk (eU (pt p.bL m (mo+f.t3)))))):
 aA (P e) (n+2) 56 [.ref t,.int m,.int mo] M Q:=by
 have A:t≠nu:=br j b;have C:t≠ho:=br j c;have D:ho≠nu:=br c b;have k:pl≠nu:=br a.o b;have l:pl≠ho:=br a.o c;have o:ta≠nu:=br a.t b;have r:un≠nu:=br a.u b;have e1:dr (eN ns) hk=eN (dr ns hk):=mJ (g:=id) iA;have E:dr (eH hs) (Sum.inl m)=eH (dr hs m):=mJ iV;have F:lk (eH hs) (.inl m)=some (cz hk):=by rw[BH,u];rfl
 have H:(lk (eN ns) hk).isSome=true:=by rw[KG,v];rfl
 have J:∀{M:RM} {Q:ak},bI f.r (.int 7) M Q=Q f.times M:=λ{M Q}=>rfl
 have I:∀{M:RM} {Q:ak},bI f.times (.int 3) M Q=Q (.int f.t3) M:=λ{M Q}=>rfl
 rw[us (i:=56) (d:=ud) rfl];simp only[ud];walk_at "evs";rw[vf (hZ _)];walk_at "evs";rw[a.o,Ph];walk_at "evs";refine V3 (p:=p) (ta:=ta) (un:=un) ⟨by rw[ao l,ao k];exact a.o,by rw[ao (aY y),ao o];exact a.t,by rw[ao (aY z),ao r];exact a.u⟩ h s x ?_
 exact w
theorem Jb{a:Addr}(h:M a=some (.dt kvs)):gF "len" [.ref a] M Q=Q (.int kvs.length) M:=by
 show(match M a with|some (.lst xs)=>Q (.int xs.length) M|some (.dk kvs)=>Q (.int kvs.length) M|some (.dt kvs)=>Q (.int kvs.length) M|_=>False)=_
 rw[h]
variable {t bi bn b x:Addr}{i:ay}{m mo:Int}{f:Fm}{li lb':List (TK×Addr)}{lb:List (Int×Addr)}
theorem Rl{z y c h st o:RV}(l:M t=some (bE e f.r z y (.ref bi) (.ref bn) c h))(hx:M x=some (bU e i.r (.int m) st o))(a:M bi=some (.dt (eA li)))(j:M bn=some (.dk (eB lb)))(r:lk lb m=some b)(k:M b=some (.dt (eA lb')))
 (l1:(lk li i.k).isSome=true) (l2:(lk lb' (bx i)).isSome=true) (s:0<(dr lb' (bx i)).length) (N:b≠bi)
 (u:Q .aq (put (put M bi (.dt (eA (dr li i.k)))) b (.dt (eA (dr lb' (bx i)))))):aA (P e) (n+3) 57 [.ref t,.ref x,.int mo] M Q:=by
 have A:t≠bi:=br l a;have C:t≠b:=br l k;have D:x≠bi:=br hx a;have E:bn≠bi:=br j a;have F:bn≠b:=br j k;have e1:dr (eA li) i.k=eA (dr li i.k):=mJ (g:=id) iA;have H:dr (eA lb') (bx i)=eA (dr lb' (bx i)):=mJ (g:=id) iA;have I:lk (eB lb) (.inl m)=some (.ref b):=by rw[nU,r];rfl
 have J:(lk (eA li) i.k).isSome=true:=by rw[sm,oP];exact l1
 have L:(lk (eA lb') (bx i)).isSome=true:=by rw[sm,oP];exact l2
 have v:cI (.tup [.str i.kind,.int i.house,.int i.door,.int i.place,.int i.far])=some i.k:=rfl;have w:cI (.tup [.str i.kind,.int i.place,.int i.far])=some (bx i):=rfl
 replace hx:M x=some (bU e (.tup [.str i.kind,.int i.house,.int i.door,.int i.place,.int i.far]) (.int m) st o):=hx
 rw[us (i:=57) (d:=pZ) rfl];simp only[pZ];walk_at "evs";rw[vf v];walk_at "evs";rw[vf w];walk_at "evs";rw[Jb bw];walk_at "ev";rw[ai (by unfold eA;rw[hO];simp;omega)]
 exact u
theorem Rp{pl ta un ho nu:Addr}{p:aw}{X st w:RV}{hs:List (Int×TK)}{ns:List (TK×Int)}(k:M t=some (bE e f.r (.ref pl) X (.ref bi) (.ref bn) (.ref ho) (.ref nu)))(a:iB e M pl ta un p)(hx:M x=some (bU e i.r (.int m) st w))(c:M bi=some (.dt (eA li)))(j:M bn=some (.dk (eB lb)))(C:lk lb m=some b)(h:M b=some (.dt (eA lb')))
 (l:M ho=some (.dk (eH hs))) (u:M nu=some (.dt (eN ns))) (v:lk hs m=some hk) (E:lk ns hk=some m) (r:(lk p.taken m).isSome=true) (D:p.bL.length<1000)
 (l1:(lk li i.k).isSome=true) (l2:(lk lb' (bx i)).isSome=true) (o:(dr lb' (bx i)).length=0) (n1:b≠bi) (J:un≠ta) (L:ho≠ta) (N:ho≠un) (O:bn≠ho) (R:bn≠ta) (U:bn≠un) (W:nu≠bi) (s:nu≠b)
 (F:Q .aq (put (put (put (put (put (put (put M bi (.dt (eA (dr li i.k)))) b (.dt (eA (dr lb' (bx i))))) bn (.dk (eB (dr lb m)))) nu (.dt (eN (dr ns hk)))) ho (.dk (eH (dr hs m)))) ta (.dk (eT (dr p.taken m)))) un (.dk (eU (pt p.bL m (mo+f.t3)))))):aA (P e) (n+3) 57 [.ref t,.ref x,.int mo] M Q:=by
 have y:t≠bi:=br k c;have z:t≠b:=br k h;have Y:x≠bi:=br hx c;have Z:bn≠bi:=br j c;have a5:bn≠b:=br j h;have e1:dr (eA li) i.k=eA (dr li i.k):=mJ (g:=id) iA;have e2:dr (eA lb') (bx i)=eA (dr lb' (bx i)):=mJ (g:=id) iA;have A:lk (eB lb) (.inl m)=some (.ref b):=by rw[nU,C];rfl
 have e4:(lk (eA li) i.k).isSome=true:=by rw[sm,oP];exact l1
 have e5:(lk (eA lb') (bx i)).isSome=true:=by rw[sm,oP];exact l2
 have H:cI (.tup [.str i.kind,.int i.house,.int i.door,.int i.place,.int i.far])=some i.k:=rfl;have I:cI (.tup [.str i.kind,.int i.place,.int i.far])=some (bx i):=rfl
 replace hx:M x=some (bU e (.tup [.str i.kind,.int i.house,.int i.door,.int i.place,.int i.far]) (.int m) st w):=hx
 rw[us (i:=57) (d:=pZ) rfl];simp only[pZ];walk_at "evs";rw[vf H];walk_at "evs";rw[vf I];walk_at "evs";rw[Jb bw];walk_at "ev";rw[ae (by unfold eA;rw[hO,o];simp)]
 have b1:t≠bn:=br k j;have b2:ho≠bi:=br l c;have b3:ho≠b:=br l h;have e6:(lk (eB lb) (.inl m)).isSome=true:=by rw[A];rfl
 have e7:dr (eB lb) (Sum.inl m)=eB (dr lb m):=mJ iV;have e8:(lk (eH hs) (.inl m)).isSome=true:=by rw[BH,v];rfl
 have b4:ho≠bn:=aY O;walk_at "evs";refine Rm (pl:=pl) (ta:=ta) (un:=un) (ho:=ho) (nu:=nu) (p:=p) (hs:=hs) (ns:=ns) (hk:=hk) (by rw[ao b1,ao z,ao y];exact k) ⟨by rw[ao (br a.o j),ao (br a.o h),ao (br a.o c)];exact a.o,by rw[ao (aY R),ao (br a.t h),ao (br a.t c)];exact a.t,by rw[ao (aY U),ao (br a.u h),ao (br a.u c)];exact a.u⟩
  (by rw[ao b4,ao b3,ao b2];exact l) (by rw[ao (br u j),ao s,ao W];exact u) v E r D J L N ?_
 exact F
end
section
variable {e:Env}{n:Nat}{M:RM}{Q:ak}{ad:cK}{f:Fm}{S S':GS}{m mo:Int}{k:Nat}{T:Tk}
theorem Bi{l:List (Ro×RO)}(G:dw e M ad f S)(h:∀p∈l,∃o,ct e ad f S p.1=some o)(k:∀r o,ct e ad f S' r=some o->ups l (ct e ad f S) r=some o):cN e M ad f S (pu ad l M) ad S':=by
 obtain⟨C,F⟩:=AJ G h;exact⟨C.weak k,⟨F.keep,λr u a=>F.new r u (k r u a),F.mono⟩,rfl,rfl⟩
noncomputable def GS.less (S:GS)(T:Tk):List Tk:=S.tl.filter λU=>decide (U.id≠T.id)
noncomputable def GS.ended (S:GS)(f:Fm)(T:Tk)(mo:Int):GS:=if((S.less T).any λU=>decide (U.m=T.m))=true then { S with tl:=S.less T }else { S with tl:=S.less T,lb:=dr S.lb T.m,ns:=S.ns.filter (λx=>decide (x.2≠T.m)),un:=pt S.un T.m (mo+f.t3) }
theorem ve{κ a b:Type}[DecidableEq κ]{κ':Type}[DecidableEq κ']{g:a->κ'}{h:a->b}{l:List a}{k:κ'}:dr (l.map λx=>(g x,h x)) k=(l.filter λx=>decide (g x≠k)).map λx=>(g x,h x):=by
 unfold dr;rw[m9];rfl
theorem JN{κ a:Type}[DecidableEq κ]{l:List (κ×a)}{k:κ}(h:k∈l.map (·.1)):(lk l k).isSome=true:=by
 cases q:lk l k with
 |none=>exact aW h (bA.mp q)
 |some _=>rfl
theorem Ux(a:S.Ok f)(c:T∈S.tl)(d:U∈S.tl)(h:U.m=T.m)(ho:bx U.i=bx T.i):U=T:=by
 have b:=cQ (a.tn U d);rw[h]at b;have g:aS f U.i=aS f T.i:=by
  have:=fg a.d3 b (cQ (a.tn T c)) rfl;injection this
 exact fg a.d1 d c (by rw[xT g ho])
theorem IC(c:S.Ok f)(a:T∈S.tl):dr (ck ad S.tl) T.i.k=ck ad (S.less T):=by
 unfold ck GS.less;rw[ve (κ:=Int)];congr 1;refine kh λU b=>?_
 exact oT.mpr ⟨λz q=>z (by rw[fg c.d6 b a q]),λz q=>z (by rw[fg c.d1 b a q])⟩
theorem yi(c:S.Ok f)(a:T∈S.tl):dr (outs ad S.tl T.m) (bx T.i)=outs ad (S.less T) T.m:=by
 unfold outs GS.less;rw[ve (κ:=Int),sQ,sQ];congr 1;refine kh λU b=>?_
 by_cases z:U.m=T.m
 . simp only[z,decide_true,Bool.and_true,Bool.true_and]
   exact oT.mpr ⟨λy q=>y (by rw[fg c.d6 b a q]),λy q=>y (by rw[Ux c a b z q])⟩
 . simp[z]
theorem Gk(c:S.Ok f)(a:T∈S.tl)(h:m≠T.m):outs ad (S.less T) m=outs ad S.tl m:=by
 unfold outs GS.less;rw[sQ];congr 1;refine kh λU b=>?_
 by_cases z:U.m=m
 . have:U.id≠T.id:=λq=>h (by rw[<-z,fg c.d6 b a q])
   simp[z,this]
 . simp[z]
theorem GU(c:S.Ok f){U:Tk}(h:(S.less T).find? (λU=>decide (U.id=j))=some U):S.tl.find? (λU=>decide (U.id=j))=some U:=by
 have a:=(bB.mp (i8 h)).1;have b:U.id=j:=by simpa using jq (p:=λU:Tk=>decide (U.id=j)) h
 rw[<-b];exact nK c.d6 a
theorem s_end(G:dw e M ad f S)(d:S.Ok f)(h:T∈S.tl)(hl:S.un.length<1000)(H:∀W,cN e M ad f S W ad (S.ended f T mo)->Q .aq W):aA (P e) (n+3) 57 [.ref (ad .t),.ref (ad (.tk T.id)),.int mo] M Q:=by
 have ht:=G.at_ .t _ rfl;have X:=G.at_ .bi _ rfl;have Y:=G.at_ .bn _ rfl;have h4:=G.at_ .ho _ rfl;have h5:=G.at_ .nu _ rfl;have cx:ct e ad f S (.tk T.id)=some (gU e T):=by show Option.map _ (S.tl.find? λU=>decide (U.id=T.id))=_;rw[nK d.d6 h];rfl
 have hx:=G.at_ (.tk T.id) _ cx;obtain⟨k,D⟩:=J8 d h;have E:lk (dh ad S.lb) T.m=some (ad (.nb k)):=by unfold dh;rw[nR (g:=λk=>ad (.nb k)),D];rfl
 have C:ct e ad f S (.nb k)=some (.dt (eA (outs ad S.tl T.m))):=by show Option.map _ (S.lb.find? λx=>decide (x.2=k))=_;rw[nM d.d2 (cQ D)];rfl
 have Z:=G.at_ (.nb k) _ C;have l1:(lk (ck ad S.tl) T.i.k).isSome=true:=by
  exact JN (aP.mpr ⟨_,aP.mpr ⟨T,h,rfl⟩,rfl⟩)
 have l2:(lk (outs ad S.tl T.m) (bx T.i)).isSome=true:=by
  exact JN (aP.mpr ⟨_,aP.mpr ⟨T,bB.mpr ⟨h,d8 rfl⟩,rfl⟩,rfl⟩)
 have n1:ad (.nb k)≠ad .bi:=G.ne C rfl (λz=>by cases z)
 have y:∀{r r':Ro} {o o':RO},ct e ad f S r=some o->ct e ad f S r'=some o'->r≠r'->ad r≠ad r':=λa b c=>G.ne a b c
 have I:(outs ad (S.less T) T.m).length=((S.less T).filter λU=>decide (U.m=T.m)).length:=by unfold outs;rw[bo]
 unfold GS.ended at H
 by_cases s:((S.less T).any λU=>decide (U.m=T.m))=true
 . rw[ai s]at H
   refine Rl (i:=T.i) (m:=T.m) ht hx X Y E Z l1 l2 ?_ n1 ?_
   . rw[yi d h,I]
     obtain⟨U,A,N⟩:=gL.mp s;exact List.length_pos_of_mem (bB.mpr ⟨A,N⟩)
   . refine H _ (Bi (l:=[(.bi,.dt (eA (dr (ck ad S.tl) T.i.k))),(.nb k,.dt (eA (dr (outs ad S.tl T.m) (bx T.i))))]) G (λp t=>?_) λr o w=>?_)
     . simp only[eY,qR,or_false]at t
       rcases t with rfl|rfl
       . exact⟨_,rfl⟩
       . exact⟨_,C⟩
     . rw[IC d h,yi d h]
       show upd (upd (ct e ad f S) .bi _) (.nb k) _ r=some o;cases r with
       |bi=>rw[au (λz=>by cases z),bO];exact w
       |tk j=>
        rw[au (λz=>by cases z),au (λz=>by cases z)]
        obtain⟨U,A,rfl⟩:=oE.mp (show Option.map (gU e) ((S.less T).find? λU=>decide (U.id=j))=some o from w)
        show Option.map _ (S.tl.find? λU=>decide (U.id=j))=_
        rw[GU d A];rfl
       |nb j=>
        obtain⟨p,t,rfl⟩:=oE.mp (show Option.map (λx:Int×Nat=>RO.dt (eA (outs ad (S.less T) x.1))) (S.lb.find? λx=>decide (x.2=j))=some o from w)
        by_cases z:j=k
        . subst z
          rw[nM d.d2 (cQ D)]at t;cases t;rw[bO]
        . rw[au (λq=>by injection q with q;exact z q),au (λz=>by cases z)]
          show Option.map _ (S.lb.find? λx=>decide (x.2=j))=_
          rw[t];have J:p.2=j:=by simpa using jq (p:=λx:Int×Nat=>decide (x.2=j)) t
          have v:p.1≠T.m:=λq=>z (by rw[<-J,fg d.d5 (i8 t) (cQ D) q])
          show some (RO.dt (eA (outs ad S.tl p.1)))=_;rw[Gk d h v]
       |_=>rw[au (λz=>by cases z),au (λz=>by cases z)];exact w
 . rw[ae s]at H
   have u:=cQ (d.tn T h);have L:lk (eX S.ns) T.m=some (aS f T.i):=jl (x:=(T.m,aS f T.i)) (by unfold eX;rw[bG];exact d.d3) (aP.mpr ⟨_,u,rfl⟩)
   have R:∀x∈S.ns,(x.2≠T.m↔x.1≠aS f T.i):=λx hx=>⟨λz q=>z (by have:=fg d.d4 hx u q;rw[this]),λz q=>z (by have:=fg d.d3 hx u q;rw[this])⟩
   refine Rp (i:=T.i) (m:=T.m) ht (AV G) hx X Y E Z h4 h5 L (d.tn T h) ?_ hl l1 l2 ?_ n1 (y (r:=.un) (r':=.ta) rfl rfl (λz=>by cases z)) (y (r:=.ho) (r':=.ta) rfl rfl (λz=>by cases z)) (y (r:=.ho) (r':=.un) rfl rfl (λz=>by cases z)) (y (r:=.bn) (r':=.ho) rfl rfl (λz=>by cases z)) (y (r:=.bn) (r':=.ta) rfl rfl (λz=>by cases z)) (y (r:=.bn) (r':=.un) rfl rfl (λz=>by cases z)) (y (r:=.nu) (r':=.bi) rfl rfl (λz=>by cases z)) (y (r:=.nu) (r':=.nb k) rfl C (λz=>by cases z)) ?_
   . show(lk (S.ns.map λx=>(x.2,())) T.m).isSome=true
     rw[va,bG];exact d8 (aP.mpr ⟨_,u,rfl⟩)
   . rw[yi d h,I,List.filter_eq_nil_iff.mpr λU A N=>s (gL.mpr ⟨U,A,N⟩)];rfl
   . refine H _ (Bi (l:=[(.bi,.dt (eA (dr (ck ad S.tl) T.i.k))),(.nb k,.dt (eA (dr (outs ad S.tl T.m) (bx T.i)))),(.bn,.dk (eB (dr (dh ad S.lb) T.m))),(.nu,.dt (eN (dr S.ns (aS f T.i)))),(.ho,.dk (eH (dr (eX S.ns) T.m))),(.ta,.dk (eT (dr (S.ns.map λx=>(x.2,())) T.m))),(.un,.dk (eU (pt S.un T.m (mo+f.t3))))]) G (λp t=>?_) λr o w=>?_)
     . simp only[eY,qR,or_false]at t
       rcases t with rfl|rfl|rfl|rfl|rfl|rfl|rfl<;>first|exact⟨_,rfl⟩|exact⟨_,C⟩
     . have e1:dr S.ns (aS f T.i)=S.ns.filter λx=>decide (x.2≠T.m):=by
        unfold dr;exact kh λx hx=>oT.mpr (R x hx).symm
       have e2:dr (eX S.ns) T.m=eX (S.ns.filter λx=>decide (x.2≠T.m)):=ve (κ:=Int)
       have e3:dr (S.ns.map λx=>(x.2,())) T.m=(S.ns.filter λx=>decide (x.2≠T.m)).map λx=>(x.2,()):=ve (κ:=Int)
       have e4:dr (dh ad S.lb) T.m=dh ad (dr S.lb T.m):=ve (κ:=Int);rw[IC d h,yi d h,e1,e2,e3,e4];cases r with
       |tk j=>
        obtain⟨U,A,rfl⟩:=oE.mp (show Option.map (gU e) ((S.less T).find? λU=>decide (U.id=j))=some o from w)
        have:ct e ad f S (.tk j)=some (gU e U):=by
         show Option.map _ (S.tl.find? λU=>decide (U.id=j))=_
         rw[GU d A];rfl
        simpa[ups,upd]using this
       |nb j=>
        obtain⟨p,t,rfl⟩:=oE.mp (show Option.map (λx:Int×Nat=>RO.dt (eA (outs ad (S.less T) x.1))) ((dr S.lb T.m).find? λx=>decide (x.2=j))=some o from w)
        have J:p.2=j:=by simpa using jq (p:=λx:Int×Nat=>decide (x.2=j)) t
        obtain⟨F,O⟩:=bB.mp (i8 t);have v:p.1≠T.m:=by simpa using O
        have z:j≠k:=λz=>v (by rw[fg d.d2 F (cQ D) (J.trans z)])
        have:ct e ad f S (.nb j)=some (.dt (eA (outs ad (S.less T) p.1))):=by
         show Option.map _ (S.lb.find? λx=>decide (x.2=j))=_
         rw[<-J,nM d.d2 F,Gk d h v];rfl
        have z:¬Ro.nb j= .nb k:=λq=>z (by cases q;rfl)
        simpa[ups,upd,z]using this
       |_=>first|exact w|(simp only[ups,upd,reduceCtorEq,if_false,if_true];exact w)
end
section
variable {e:Env}{n:Nat}{M:RM}{Q:ak}{ad:cK}{f:Fm}{S S':GS}{m mo:Int}{k:Nat}{T:Tk}
theorem je{α β:Type}{g:α->β}{l:List α}{p:α->Bool}(h:(l.map g).Nodup):((l.filter p).map g).Nodup:=h.sublist (List.filter_sublist.map _)
theorem ZE{κ a:Type}[DecidableEq κ]{l:List (κ×a)}{k j:κ}(h:j≠k):lk (dr l k) j=lk l j:=by
 unfold dr
 induction l with
 |nil=>rfl
 |cons p l ih=>
  rw[m8];split
  . rw[fB,fB,ih]
  . rename_i z
    have:p.1=k:=by simpa using z
    rw[fB,ae (λq=>h (q.symm.trans this)),ih]
theorem Ok.ended(a:S.Ok f):(S.ended f T mo).Ok f:=by
 have sub:∀U∈S.less T,U∈S.tl:=λU h=>(bB.mp h).1
 have c:(S.less T).length<900:=mZ (fX _ _) a.sz.1;unfold GS.ended;split
 . exact { a with
    i1:=λU h=>a.i1 U (sub U h)
    d1:=je a.d1
    d6:=je a.d6
    tn:=λU h=>a.tn U (sub U h)
    sz:=⟨c,a.sz.2⟩ }
 . rename_i b
   have j:∀U∈S.less T,U.m≠T.m:=λU h z=>b (gL.mpr ⟨U,h,d8 z⟩)
   exact {
    mr:=a.mr
    i1:=λU h=>a.i1 U (sub U h)
    i2:=λx h=>a.i2 x (bB.mp h).1
    d1:=je a.d1
    d2:=je a.d2
    d3:=je a.d3
    d4:=je a.d4
    d5:=je a.d5
    d6:=je a.d6
    tn:=λU h=>jl (x:=(aS f U.i,U.m)) (je a.d4) (bB.mpr ⟨cQ (a.tn U (sub U h)),d8 (j U h)⟩)
    nb:=λx h=>by
     obtain⟨d,g⟩:=bB.mp h;obtain⟨k,hk⟩:=a.nb x d;exact⟨k,by show lk (dr S.lb T.m) x.2=_;rw[ZE (by simpa using g)];exact hk⟩
    bn:=λx h=>by
     obtain⟨d,g⟩:=bB.mp h;obtain⟨y,i,e1⟩:=aP.mp (a.bn x d);exact aP.mpr ⟨y,bB.mpr ⟨i,by rw[e1];exact g⟩,e1⟩
    hk:=λx h=>a.hk x (bB.mp h).1
    sz:=⟨c,mZ (fX _ _) a.sz.2.1,mZ (fX _ _) a.sz.2.2⟩ }
theorem rH:(S.ended f T mo).tl=S.less T:=by unfold GS.ended;split<;>rfl
theorem SV:(S.ended f T mo).un.length<=S.un.length+1:=by
 unfold GS.ended;split
 . exact Nat.le_succ _
 . exact uY
def fA(f:Fm):List Tk->GS->GS
 | [],S=>S
 |T::l,S=>fA f l (S.ended f T T.ov)
theorem GH(G:dw e M ad f S)(ok:S.Ok f)(hT:T∈S.tl):M (ad (.tk T.id))=some (gU e T):=G.at_ (.tk T.id) _ (by show Option.map _ (S.tl.find? λU=>decide (U.id=T.id))=_;rw[nK ok.d6 hT];rfl)
theorem Jx{D:RD}{z1 z2:Option RV}:∀(l:List Tk) {S:GS} {M:RM} {z3:Option RV},dw e M ad f S->S.Ok f->(∀T∈l,T∈S.tl)->(l.map (·.id)).Nodup->S.un.length+l.length<1000->(∀M' z,cN e M ad f S M' ad (fA f l S)->D.nx [some (.ref (ad .t)),z1,z2,z] M')->
 jK (kc 3) (tr ((P e).Gn (n+3)) (.se (.ex (.me 57 (.v 0) (.ec (.v 3) (.ec (.fl 2 "over" (.v 3)) .e0)))) .en)).S D eM id (l.map λT=>RV.ref (ad (.tk T.id))) [some (.ref (ad .t)),z1,z2,z3] M
 | [],S,M,z3,G,ok,_,_,_,hq=>⟨hR,hq _ _ (cN.refl G)⟩
 |T::l,S,M,z3,G,ok,hT,nd,hl,hq=>by
  have ht:=G.at_ .t _ rfl;have hx:=GH G ok (hT T (.head _));rw[bF,ip]at nd;refine⟨hR,?_⟩;unfold kc;walk_at "ev";rw[ht];walk_at "ev";rw[hx];unfold gU;walk_at "ev";refine s_end G ok (hT T (.head _)) (by omega) λM' st=>?_
  refine Jx l st.1 (Ok.ended ok) (λU hU=>?_) nd.2 ?_ λM2 z st2=>hq M2 z (st.trans st2)
  . rw[rH]
    refine bB.mpr ⟨hT U (.tail _ hU),d8 λz=>nd.1 ?_⟩
    rw[<-z];exact sP (f:=(·.id)) hU
  . have:=SV (S:=S) (f:=f) (T:=T) (mo:=T.ov)
    rw[cY]at hl;omega
noncomputable def GS.at_ (S:GS)(k:Int):GS:={ S with now:=S.now+k }
theorem X5{k:Int}(G:dw e M ad f S):cN e M ad f S (put M (ad .t) (bE e f.r (.ref (ad .pl)) (.int (S.now+k)) (.ref (ad .bi)) (.ref (ad .bn)) (.ref (ad .ho)) (.ref (ad .nu)))) ad (S.at_ k):=
 Bi (l:=[(.t,bE e f.r (.ref (ad .pl)) (.int (S.now+k)) (.ref (ad .bi)) (.ref (ad .bn)) (.ref (ad .ho)) (.ref (ad .nu)))]) G (λp hp=>by cases fG.mp hp;exact⟨_,rfl⟩) λr o hr=>by
  cases r with
  |t=>rw[<-hr];exact bO
  |_=>exact(au (λz=>by cases z)).trans hr
def cW(e:Env):RO:=.tb e.lP (P e).S.lp (P e).S.lq
theorem U2{fr rp rbi rbn rho rnu:RV}{t:Addr}{nw k:Int}{tv:ar}{σ:bD}{N:RM->Prop}(ht:M t=some (bE e fr rp (.int nw) rbi rbn rho rnu))(hv:∀K:ak,K (.int k) M->tv σ M K)(hN:N (put M t (bE e fr rp (.int (nw+k)) rbi rbn rho rnu))):tN (e.C 3) "now" tv σ N (.ref t) M:=by
 unfold tN;simp only[ht];refine⟨rfl,?_⟩;show tv σ M _;refine hv _ ?_;show(match M t with|some (.ins C2 fs2)=>_|_=>False)
 rw[ht];exact⟨rfl,by show(7:Nat)<1000;decide,hN⟩
theorem SX{fr rp now rbn rho rnu:RV}{t bi:Addr}{l:List (TK×Addr)}(ht:M t=some (bE e fr rp now (.ref bi) rbn rho rnu))(hb:M bi=some (.dt (eA l))):aA (P e) (n+1) 18 [.ref t] M Q=Q (.ls (l.map λx=>.ref x.2)) M:=by
 have e1:(eA l).map (·.2)=l.map λx=>RV.ref x.2:=by unfold eA enc;rw[bG];rfl
 rw[us (i:=18) (d:=t6) rfl];simp only[t6];walk_at "evs"
noncomputable def xj (M:RM)(now:Int):RV->Bool
 | .ref a=>match M a with
  |some (.ins _ fs)=>match fs.lookup ("over":Str)with
   |some (.int o)=>decide (o<=now)
   |_=>false
  |_=>false
 |_=>false
theorem Gg{α β:Type}{g:α->β}:∀{l':List β} {l:List α},l'.Perm (l.map g)->∃l2:List α,l2.Perm l/\l2.map g=l'
 | [],l,h=>by
  have:l= []:=by simpa using h.nil_eq
  exact⟨[],by rw[this],rfl⟩
 |b::l',l,h=>by
  obtain⟨a,ha,rfl⟩:=aP.mp (h.mem_iff.mp (.head _));obtain⟨s,t,rfl⟩:=List.append_of_mem ha;have h2:l'.Perm ((s++t).map g):=by
   refine List.Perm.cons_inv (a:=g a) (h.trans ?_);rw[fF,bF,fF];exact List.perm_middle
  obtain⟨l2,p2,rfl⟩:=Gg h2;exact⟨a::l2,(p2.cons a).trans List.perm_middle.symm,rfl⟩
noncomputable def GS.over (S:GS):List Tk:=S.tl.filter λT=>decide (T.ov<=S.now)
theorem Rw{k:Int}(G:dw e M ad f S)(ok:S.Ok f)(htb:M e.lP=some (cW e))(hl:S.un.length+S.tl.length<1000)(h64:S.tl.length<64)
 (hq:∀(ys:List Tk) M',ys.Perm (S.at_ k).over->ys.Pairwise (λa b=>a.ov<=b.ov)->cN e M ad f S M' ad (fA f ys (S.at_ k))->Q .aq M'):aA (P e) (n+4) 37 [.ref (ad .t),.int k] M Q:=by
 have ht:=G.at_ .t _ rfl;rw[us (i:=37) (d:=aI) rfl];simp only[aI];walk_at "ev";rw[NK];walk_at "ev";refine U2 ht (λK hK=>by walk_at "ev";exact hK) ?_
 have st1:=X5 (k:=k) G;generalize put M (ad .t) _=M1 at st1;obtain⟨G1,F1,_,_⟩:=id st1;have ht1:=G1.at_ .t _ rfl;have hb1:=G1.at_ .bi _ rfl;walk_at "ev";rw[ht1];walk_at "ev";rw[SX ht1 hb1,vi];have htl:(S.at_ k).tl=S.tl:=rfl;have exs:((ck ad (S.at_ k).tl).map λx=>RV.ref x.2)=S.tl.map λT=>RV.ref (ad (.tk T.id)):=by unfold ck;rw[bG];rfl
 rw[exs];have ok1:(S.at_ k).Ok f:={ ok with }
 have hat:∀T∈S.tl,M1 (ad (.tk T.id))=some (gU e T):=λT hT=>GH G1 ok1 hT
 have hov:∀T∈S.tl,xj M1 (S.now+k) (.ref (ad (.tk T.id)))=decide (T.ov<=S.now+k):=λT hT=>by
  unfold xj;simp only[hat T hT];rfl
 have htb1:M1 e.lP=some (cW e):=F1.keep _ _ htb λr u hr z=>by
  have:=G.at_ r u hr;rw[z,htb]at this;cases this;cases r<;>first|(cases hr;done)|skip
  . obtain⟨_,_,h⟩:=oE.mp hr;cases h
  . obtain⟨_,_,h⟩:=oE.mp hr;cases h
 refine⟨by rw[bo];exact fq h64 (by decide),jg (bd:=fW false 1) (xj M1 (S.now+k)) id hR _ _ (λx hx=>?_) ?_⟩
 . obtain⟨T,hT,rfl⟩:=aP.mp hx
   have h:=hat T hT;refine⟨[.ref (ad (.tk T.id))],rfl,λK hK=>?_,λ_ K hK=>?_⟩
   . rw[hov T hT]at hK
     show(tr ((P e).Gn (n+3)) _).T [some (.ref (ad (.tk T.id))),some (.ref (ad .t))] _ K;walk_at "ev";rw[h];unfold gU;walk_at "ev";rw[ht1];walk_at "ev";exact hK
   . show(tr ((P e).Gn (n+3)) _).E [some (.ref (ad (.tk T.id))),some (.ref (ad .t))] _ K
     walk_at "ev";exact hK
 . rw[nT,jU,List.map_id]
   have ef:(S.tl.map λT=>RV.ref (ad (.tk T.id))).filter (xj M1 (S.now+k))=(S.at_ k).over.map λT=>RV.ref (ad (.tk T.id)):=by
    rw[m9];congr 1;exact kh λT hT=>hov T hT
   have sub:∀T∈(S.at_ k).over,T∈S.tl:=λT h=>(bB.mp h).1
   rw[ef];refine⟨(S.at_ k).over.map λT=>(T.ov,ad (.tk T.id)),.inl (by rw[bG,bG];rfl),λz hz=>?_,?_,htb1,λys' hp hs=>?_⟩
   . obtain⟨T,hT,rfl⟩:=aP.mp hz
     exact⟨_,hat T (sub T hT),rfl⟩
   . rw[bo];exact mZ (fX _ _) h64
   . obtain⟨ys,py,rfl⟩:=Gg hp
     rw[vi,show((ys.map λT=>(T.ov,ad (.tk T.id))).map Prod.snd).map RV.ref=ys.map λT=>RV.ref (ad (.tk T.id)) by rw[bG,bG];rfl]
     refine Jx ys G1 ok1 (λT hT=>sub T (py.mem_iff.mp hT)) ?_ ?_ λM2 z st2=>?_
     . exact(py.map _).nodup_iff.mpr (je ok1.d6)
     . have h1:=py.length_eq
       have h2:(S.at_ k).over.length<=S.tl.length:=fX _ _;show S.un.length+ys.length<1000;omega
     . rw[List.pairwise_map]at hs
       exact hq ys M2 py hs (st1.trans st2)
end
section
variable {e:Env}{n:Nat}{M:RM}{Q:ak}{ad:cK}{f:Fm}{S S':GS}{m mo:Int}{k:Int}{T:Tk}
theorem Hm:∀{l:List Tk} {S:GS},(fA f l S).ds=S.ds
 | [],S=>rfl
 |T::l,S=>by
  show(fA f l _).ds=_;rw[Hm];unfold GS.ended;split<;>rfl
def Kb(k:Int):RV:=.tup [.tup [.str "wait",.int k],.aq]
theorem Wb(G:dw e M ad f S)(ok:S.Ok f)(tb:Tb e)(htb:M e.lP=some (cW e))(h1:0<=k)(h2:k<=1000000)(hl:S.un.length+S.tl.length<1000)(h64:S.tl.length<64)(hd:S.ds.length<900)
 (hq:∀(ys:List Tk) M',ys.Perm (S.at_ k).over->ys.Pairwise (λa b=>a.ov<=b.ov)->cN e M ad f S M' ad ((fA f ys (S.at_ k)).wrote (Kb k))->Q .aq M'):aA (P e) (n+7) 40 [.ref (ad .g),.int k] M Q:=by
 have hg:=G.at_ .g _ rfl;rw[us (i:=40) (d:=um) rfl];simp only[um];walk_at "ev";rw[hg];walk_at "ev";rw[us (i:=39) (d:=jC) rfl];simp only[jC];walk_at "ev";refine Qk (n:=n) tb h1 h2 ?_;walk_at "ev";rw[hg];walk_at "ev";rw[oo];rw[us (i:=58) (d:=jB) rfl];simp only[jB];walk_at "ev";rw[show(("wait":Str)==("out":Str))=false by decide,ae (by simp),show(("wait":Str)==("come":Str))=false by decide,ae (by simp),show(("wait":Str)==("lost":Str))=false by decide,ae (by simp),hg]
 walk_at "ev";rw[G.at_ .t _ rfl];walk_at "ev";refine Rw (n:=n) G ok htb hl h64 λys M' p1 p2 st=>?_
 have hg':=st.1.at_ .g _ rfl;have hdn':=st.1.at_ .dn _ rfl;rw[hg'];walk_at "ev";rw[hdn'];walk_at "ev";exact⟨_,_,rfl,hdn',fq (by rw[Hm];exact hd) (by decide),hq ys _ p1 p2 (st.trans (yA st.1))⟩
end
section
variable {f:Fm}{S:GS}{m:Int}{T:Tk}
noncomputable def GS.rem (S:GS)(l:List Tk):List Tk:=S.tl.filter λU=>decide (U.id∉l.map (·.id))
def dR:List Tk->Int->Option Int
 | [],_=>none
 |T::l,m=>match dR l m with
  |some o=>some o
  |none=>if T.m=m then some T.ov else none
noncomputable def GS.alive (S:GS)(l:List Tk)(m:Int):Bool:=!(dR l m).isSome||((S.rem l).any λU=>decide (U.m=m))
theorem bN:∀{l:List Tk},dR l m=none↔∀T∈l,T.m≠m
 | []=>by simp[dR]
 |T::l=>by
  have a:=bN (l:=l);unfold dR;cases h:dR l m with
  |some o=>
   rw[h]at a;simp only[reduceCtorEq,false_iff]at a ⊢;exactλz=>a λU b=>z U (.tail _ b)
  |none=>
   rw[h]at a;simp only[true_iff]at a
   by_cases z:T.m=m
   . simp[z]
   . simp only[ae z,true_iff]
     intro U b;rcases eY.mp b with rfl|b
     . exact z
     . exact a U b
theorem Tf{κ a:Type}[DecidableEq κ]{k j:κ}{y:a}(h:j≠k):∀{l:List (κ×a)},lk (pt l k y) j=lk l j:=by
 intro l;unfold pt;split
 . rename_i b
   clear b
   induction l with
   |nil=>rfl
   |cons p l ih=>
    rw[bF,fB]
    by_cases z:p.1=k
    . rw[ai z]
      show(if p.1=j then _ else _)=_
      rw[ae (λq=>h (q.symm.trans z)),fB,ae (λq=>h (q.symm.trans z))]
      exact ih
    . rw[ae z,fB]
      split
      . rfl
      . exact ih
 . rw[rT]
   cases lk l j with
   |some y=>rfl
   |none=>show lk [(k,y)] j=none;rw[fB,ae (aY h)];rfl
structure Fx(f:Fm)(S:GS)(l:List Tk)(S':GS):Prop where
 tl:S'.tl=S.rem l
 ns:S'.ns=S.ns.filter λx=>S.alive l x.2
 lb:S'.lb=S.lb.filter λx=>S.alive l x.1
 nw:S'.now=S.now
 mr:S'.mark=S.mark
 nx:S'.nx=S.nx
 ds:S'.ds=S.ds
 un:∀m,lk S'.un m=if S.alive l m=true then lk S.un m else(dR l m).map (. +f.t3)
theorem GD:∀(l:List Tk) {S:GS},S.Ok f->(∀T∈l,T∈S.tl)->(l.map (·.id)).Nodup->Fx f S l (fA f l S)
 | [],S,ok,_,_=>by
  have e1:∀m,S.alive [] m=true:=λm=>by simp[GS.alive,dR]
  refine⟨?_,?_,?_,rfl,rfl,rfl,rfl,λm=>by rw[e1,ai rfl];rfl⟩
  . show S.tl=S.rem []
    unfold GS.rem;exact(qV.mpr λ_ _=>by simp).symm
  . exact(qV.mpr λx _=>e1 x.2).symm
  . exact(qV.mpr λx _=>e1 x.1).symm
 |T::l,S,ok,hT,nd=>by
  rw[bF,ip]at nd;have k:∀U∈l,U∈S.less T:=λU d=>bB.mpr ⟨hT U (.tail _ d),d8 λz=>nd.1 (z ▸ sP (f:=(·.id)) d)⟩
  have b:=GD l (S:=S.ended f T T.ov) (Ok.ended ok) (λU d=>by rw[rH];exact k U d) nd.2
  have g:(S.ended f T T.ov).rem l=S.rem (T::l):=by
   unfold GS.rem;rw[rH];unfold GS.less;rw[sQ];refine kh λU _=>?_
   rw[<-Bool.decide_and];refine oT.mpr ?_;rw[bF,eY,not_or];exact And.comm
  have i:∀m,(S.ended f T T.ov).alive l m=(!(dR l m).isSome||((S.rem (T::l)).any λU=>decide (U.m=m))):=λm=>by unfold GS.alive;rw[g]
  have j:∀m,m≠T.m->(S.ended f T T.ov).alive l m=S.alive (T::l) m:=λm h=>by
   rw[i];unfold GS.alive;rw[show dR (T::l) m=dR l m by show(match dR l m with|some o=>some o|none=>if T.m=m then some T.ov else none)=_;rw[ae (aY h)];cases dR l m<;>rfl]
  have lv:∀m,(S.ended f T T.ov).alive l m=false->∃o,dR l m=some o:=λm h=>by
   rw[i]at h;cases q:dR l m with
   |none=>rw[q]at h;cases h
   |some o=>exact⟨o,rfl⟩
  by_cases a:((S.less T).any λU=>decide (U.m=T.m))=true
  . have c:S.ended f T T.ov= { S with tl:=S.less T }:=by unfold GS.ended;rw[ai a]
    have al:∀m,(S.ended f T T.ov).alive l m=S.alive (T::l) m:=λm=>by
     by_cases h:m=T.m
     . subst h
       rw[i];unfold GS.alive;cases q:dR l T.m with
       |some o=>rw[show dR (T::l) T.m=some o by show(match dR l T.m with|some o=>some o|none=>_)=_;rw[q]]
       |none=>
        obtain⟨U,d,e⟩:=gL.mp a;have e:U.m=T.m:=by simpa using e
        have:((S.rem (T::l)).any λU=>decide (U.m=T.m))=true:=gL.mpr ⟨U,by
         rw[<-g];unfold GS.rem;rw[rH];refine bB.mpr ⟨d,d8 λz=>?_⟩
         obtain⟨V,r,e1⟩:=aP.mp z;have:V=U:=fg ok.d6 (bB.mp (k V r)).1 (bB.mp d).1 e1;exact bN.mp q V r (by rw[this];exact e),d8 e⟩
        rw[this];simp
     . exact j m h
    refine⟨b.tl.trans g,?_,?_,b.nw.trans (by rw[c]),b.mr.trans (by rw[c]),b.nx.trans (by rw[c]),b.ds.trans (by rw[c]),λm=>(b.un m).trans ?_⟩
    . refine b.ns.trans ?_
      simp only[al];rw[c]
    . refine b.lb.trans ?_
      simp only[al];rw[c]
    . cases q:(S.ended f T T.ov).alive l m with
      |true=>rw[<-al m,q,ai rfl,ai rfl,c]
      |false=>
       obtain⟨o,ho⟩:=lv m q;rw[<-al m,q,ae (by simp),ae (by simp),show dR (T::l) m=some o by show(match dR l m with|some o=>some o|none=>_)=_;rw[ho],ho]
  . have c:S.ended f T T.ov= { S with tl:=S.less T,lb:=dr S.lb T.m,ns:=S.ns.filter (λx=>decide (x.2≠T.m)),un:=pt S.un T.m (T.ov+f.t3) }:=by unfold GS.ended;rw[ae a]
    have q0:dR l T.m=none:=bN.mpr λU d z=>a (gL.mpr ⟨U,k U d,d8 z⟩)
    have s:dR (T::l) T.m=some T.ov:=by show(match dR l T.m with|some o=>some o|none=>_)=_;rw[q0];exact ai rfl
    have n:S.alive (T::l) T.m=false:=by
     unfold GS.alive;rw[s];simp only[Ck,Bool.not_true,Bool.false_or];rw[<-Bool.not_eq_true];intro z;obtain⟨U,d,e⟩:=gL.mp z;rw[<-g]at d;unfold GS.rem at d;rw[rH]at d;exact a (gL.mpr ⟨U,(bB.mp d).1,e⟩)
    refine⟨b.tl.trans g,?_,?_,b.nw.trans (by rw[c]),b.mr.trans (by rw[c]),b.nx.trans (by rw[c]),b.ds.trans (by rw[c]),λm=>(b.un m).trans ?_⟩
    . refine b.ns.trans ?_
      have:(S.ended f T T.ov).ns=S.ns.filter (λx=>decide (x.2≠T.m)):=by rw[c]
      rw[this,sQ];refine kh λx _=>?_
      by_cases h:x.2=T.m
      . rw[h,n];simp
      . rw[j _ h];simp[h]
    . refine b.lb.trans ?_
      have:(S.ended f T T.ov).lb=dr S.lb T.m:=by rw[c]
      rw[this];unfold dr;rw[sQ];refine kh λx _=>?_
      by_cases h:x.1=T.m
      . rw[h,n];simp
      . rw[j _ h];simp[h]
    . have t:(S.ended f T T.ov).un=pt S.un T.m (T.ov+f.t3):=by rw[c]
      rw[t]
      by_cases h:m=T.m
      . subst h
        rw[i,q0,n,s,KA];rfl
      . rw[j m h,Tf h,show dR (T::l) m=dR l m by show(match dR l m with|some o=>some o|none=>if T.m=m then some T.ov else none)=_;rw[ae (aY h)];cases dR l m<;>rfl]
end
section
variable {f:Fm}{S S' S1 S2:GS}{m:Int}{T:Tk}{i:ay}
theorem Vx{a:List Tk}(b:S.Ok f)(h:a.Perm (S.at_ k).over):Fx f (S.at_ k) a (fA f a (S.at_ k)):=
 GD a { b with } (λT c=>(bB.mp (h.mem_iff.mp c)).1) ((h.map _).nodup_iff.mpr (je b.d6))
end
section
variable {e:Env}{n:Nat}{M:RM}{Q:ak}
theorem GF{xs:List Int}{k:Nat}:aA (P e) (n+1) 43 [.ls (xs.map RV.int),.int k] M Q=Q (.int (xs.getD k 0)) M:=by
 rw[us (i:=43) (d:=xu) rfl];simp only[xu];walk_at "ev";rw[bo]
 by_cases h:k<xs.length
 . rw[ai (by simpa using h),jk (v:=RV.int (xs.getD k 0)) (by simp[h])]
   rfl
 . rw[ae (by simpa using h)]
   simp[Nat.le_of_not_lt h]
structure cE where
 a:Int
 b:Int
 c:Int
def cE.l(g:cE):RO:=.lst [.int g.a,.int g.b,.int g.c]
structure cE.Ok(g:cE):Prop where
 a:0<=g.a
 b:0<=g.b/\g.b<2305843009213693951
 c:0<=g.c/\g.c<1000000
theorem Ri{x:Addr}{g:cE}(hx:M x=some g.l)(c:0<g.a)(f:0<m)(a:m<1073741824)(b:Q (.int (g.a % m)) (put M x (cE.l ⟨g.a / m,g.b,g.c⟩))):aA (P e) (n+1) 45 [.ref x,.int m] M Q:=by
 unfold cE.l at hx;rw[us (i:=45) (d:=rD) rfl];simp only[rD];walk_at "evs";exact b
def vV:Int:=2305843009213693951
noncomputable def Zh(b c:Int):Int:=((((b+1000003*c) % vV)*((b+1000003*c) % vV)+7919*c ^ 2+5) % vV) ^ 3 % vV / 13
theorem vF{i j:Int}(a:-(2 ^ 64)<i)(b:i<2 ^ 64):iI i j:=.inl ⟨a,b⟩
theorem Qf{x:Addr}{g:cE}(hx:M x=some g.l)(f:g.Ok)(r:¬0<g.a)(s:0<m)(c:Q (.int (Zh g.b (g.c+1) % m)) (put M x (cE.l ⟨g.a,g.b,g.c+1⟩))):aA (P e) (n+1) 45 [.ref x,.int m] M Q:=by
 obtain⟨_,⟨b1,b2⟩,h,j⟩:=f;unfold cE.l at hx;rw[us (i:=45) (d:=rD) rfl];simp only[rD];walk_at "evs";have e1:=Int.emod_nonneg (g.b+1000003*(g.c+1)) (b:=2305843009213693951) (by decide)
 have k:=Int.emod_lt_of_pos (g.b+1000003*(g.c+1)) (b:=2305843009213693951) (by decide)
 have a:∀z:Int,(z % 2305843009213693951).natAbs<2 ^ 64:=λz=>by
  have l:=Int.emod_nonneg z (b:=2305843009213693951) (by decide)
  have o:=Int.emod_lt_of_pos z (b:=2305843009213693951) (by decide)
  omega
 exact⟨vF (by decide) (by decide),vF (by omega) (by omega),by omega,vF (by decide) (by decide),a _,c⟩
noncomputable def vq(a b:Int):cE:=⟨if 10 ^ 18<=a then a-10 ^ 18 else 0,a % vV,b⟩
theorem YB:(10:Int) ^ Int.toNat 18=10 ^ 18:=rfl
theorem yB{c t:Int}(a:∀p,M p=none->Q (.ref p) (put M p (vq c t).l)):aA (P e) (n+1) 44 [.int c,.int t] M Q:=by
 rw[us (i:=44) (d:=xt) rfl];simp only[xt];walk_at "ev";refine⟨by decide,?_⟩
 rw[YB];unfold vq cE.l at a
 by_cases h:(10:Int) ^ 18<=c
 . rw[ai (by simpa using h)]
   simp only[ai h]at a;exact⟨by decide,a⟩
 . rw[ae (by simpa using h)]
   simp only[ae h]at a;exact a
structure cE.In(g:cE)(k:Int):Prop where
 a:0<=g.a
 b:0<=g.b/\g.b<2305843009213693951
 c:0<=g.c/\g.c<=k
theorem uW{a m:Int}(b:0<m):0<=a % m/\a % m<m:=⟨Int.emod_nonneg _ (by omega),Int.emod_lt_of_pos _ b⟩
theorem gH{x:Addr}{g:cE}(hx:M x=some g.l)(j:g.In k)(hk:k<999999)(a:0<m)(b:m<1073741824)(f:∀v d,0<=v->v<m->cE.In d (k+1)->Q (.int v) (put M x d.l)):aA (P e) (n+1) 45 [.ref x,.int m] M Q:=by
 obtain⟨o1,c,i,l⟩:=j
 by_cases h:0<g.a
 . exact Ri hx h a b (f _ _ (uW a).1 (uW a).2 ⟨Int.ediv_nonneg o1 (by omega),c,i,by show g.c<=k+1;omega⟩)
 . exact Qf hx ⟨o1,c,i,by omega⟩ h a (f _ _ (uW a).1 (uW a).2 ⟨o1,c,by show 0<=g.c+1;omega,by show g.c+1<=k+1;omega⟩)
theorem vD{xs:LR}{v:Int}(h0:0<=v)(b:v<xs.length):∃y∈xs,∀{M:RM} {Q:ak},bI (.ls xs) (.int v) M Q=Q y M:=by
 obtain⟨j,rfl⟩:∃j:Nat,v=j:=⟨v.toNat,by omega⟩
 have a:j<xs.length:=by omega
 refine⟨xs[j],List.getElem_mem _,λ{M Q}=>?_⟩
 rw[Vt,jk (v:=xs[j]) (by simp[a])];rfl
theorem Kz{a:Int}:0<=a % 2305843009213693951/\a % 2305843009213693951<2305843009213693951:=uW (by decide)
theorem yw:(vq c 0).In 0:=⟨by unfold vq;dsimp only;split<;>omega,Kz,⟨Int.le_refl _,Int.le_refl _⟩⟩
theorem Ig{ok:RM->Prop}{un:RM->RM}{te:ar}{tt:ee}{base:List (Option RV)}(I:LR->RM->Prop)(ht:∀σ M (K:Bool->RM->Prop),K true M->tt σ M K)(av:∀acc M,I acc M->ok M):∀(xs acc:LR) (M:RM),I acc M->
 (∀x∈xs,∀acc2 M,acc2.length<acc.length+xs.length->I acc2 M->∃bs,bd x=some bs/\∀K:ak,(∀v M',I (acc2++ [v]) M'->K v M')->te (bs.map some++base) M K)->
 (∀acc' M',acc'.length=acc.length+xs.length->I acc' M'->mQ md acc' (un M') Q)->gr bd md ok un tt te base xs acc M Q
 | [],acc,M,h,_,hq=>⟨av _ _ h,hq acc M rfl h⟩
 |x::xs,acc,M,h,hs,hq=>by
  obtain⟨bs,h1,h2⟩:=hs x (.head _) acc M (by rw[cY];omega) h
  refine⟨av _ _ h,?_⟩;rw[h1];refine ht _ _ _ ⟨λ_=>h2 _ λv M' h'=>Ig I ht av xs _ M' h' (λy hy acc2 M2 hlt=>hs y (.tail _ hy) acc2 M2 (by rw[eF]at hlt;rw[cY];have:acc2.length<acc.length+1+xs.length:=hlt;omega)) λacc' M'' hl h''=>hq acc' M'' ?_ h'',λz=>by cases z⟩
  rw[hl,eF];show acc.length+1+xs.length=acc.length+(xs.length+1);omega
def jP(a hi:Int):LR->Prop
 | []=>a<=a
 | .int n::xs=>(a<=n/\n<=hi)/\jP a hi xs
 |_=>False
theorem EH(b hi:Int){v:Int}:∀{xs:LR},0<=v->v<xs.length->jP b hi xs->∃m:Int,(b<=m/\m<=hi)/\∀{M:RM} {Q:ak},bI (.ls xs) (.int v) M Q=Q (.int m) M:=λ{xs} f c h=>by
 obtain⟨y,a,d⟩:=vD f c;have:∀{xs:LR},jP b hi xs->∀y∈xs,∃m:Int,y= .int m/\b<=m/\m<=hi:=λ{xs}=>by
  induction xs with
  |nil=>intro _ y a;cases a
  |cons x xs ih=>
   intro h y a;cases x with
   |int n=>
    cases a with
    |head=>exact⟨n,rfl,h.1⟩
    |tail _ a=>exact ih h.2 y a
   |_=>exact h.elim
 obtain⟨m,rfl,c⟩:=this h y a;exact⟨m,c,d⟩
theorem BV(l:aE){v:Int}(h0:0<=v)(b:v<l.length):∃m∈l,∀{M:RM} {Q:ak},bI (.ls (l.map RV.str)) (.int v) M Q=Q (.str m) M:=by
 obtain⟨y,d,a⟩:=vD (xs:=l.map RV.str) h0 (by rw[bo];exact b)
 obtain⟨m,c,rfl⟩:=aP.mp d;exact⟨m,c,a⟩
end
section
variable {e:Env}{n:Nat}{M:RM}{Q:ak}
theorem VZ{x:Addr}{g:cE}{le si:Str}(hx:M x=some g.l)(ok:g.In k)(hk:k<900000)(hle:le= "door"∨le= "place"∨le= "talk")(hsi:si= "all"∨si= "place"∨si= "talk")
 (hq:∀f g',Fm.Ok f->f.high=f.low+199->f.most=200->cE.In g' (k+7)->Q f.r (put M x g'.l)):aA (P e) (n+2) 63 [.ref x,.str le,.str si] M Q:=by
 rw[us (i:=63) (d:=xr) rfl];simp only[xr];walk_at "ev";refine gH hx ok (by omega) (by decide) (by decide) λv1 g1 a1 b1 ok1=>?_
 walk_at "ev";refine gH bw ok1 (by omega) (by decide) (by decide) λv2 g2 a2 b2 ok2=>?_
 walk_at "ev";refine gH bw ok2 (by omega) (by decide) (by decide) λv3 g3 a3 b3 ok3=>?_
 walk_at "ev";refine gH bw ok3 (by omega) (by decide) (by decide) λv4 g4 a4 b4 ok4=>?_
 walk_at "ev";refine gH bw ok4 (by omega) (by decide) (by decide) λv5 g5 a5 b5 ok5=>?_
 walk_at "ev";refine gH bw ok5 (by omega) (by decide) (by decide) λv6 g6 a6 b6 ok6=>?_
 obtain⟨y,hy,ey⟩:=vD (xs:=[.str "next",.str "keep"]) a6 b6;rw[ey];obtain⟨pk,rfl,hpk⟩:∃pk:Str,y= .str pk/\(pk= "next"∨pk= "keep"):=by
  simp only[eY,qR,or_false]at hy;rcases hy with rfl|rfl
  . exact⟨_,rfl,.inl rfl⟩
  . exact⟨_,rfl,.inr rfl⟩
 walk_at "ev";refine gH bw ok6 (by omega) (by decide) (by decide) λv7 g7 a7 b7 ok7=>?_
 walk_at "ev";have:=hq ⟨1+v1,1+v1+199,le,si,pk,200,v7==1,1+v2,1+v3,1+v4,v5⟩ g7 ⟨by dsimp only;omega,by dsimp only;omega,by dsimp only;omega,by dsimp only;omega,hle,hsi,hpk,⟨by show(1:Int)<=200;decide,by show(200:Int)<=200;decide⟩,by dsimp only;omega,by dsimp only;omega,by dsimp only;omega,by dsimp only;omega⟩ rfl rfl (by have:=ok7;rw[show k+7=k+1+1+1+1+1+1+1 by omega];exact this)
 exact this
theorem Tz{xs:List Int}(h0:0<=k)(hk:k<1000)(hx:0<xs.length)(f:xs.length<1000)(b:∀p g,M p=none->cE.In g 0->Q (.ref p) (put M p g.l)):aA (P e) (n+2) 46 [.ls (xs.map RV.int),.int k] M Q:=by
 obtain⟨j,rfl⟩:∃j:Nat,k=j:=⟨k.toNat,by omega⟩
 rw[us (i:=46) (d:=xF) rfl];simp only[xF];walk_at "ev";rw[bo]
 by_cases h:j<xs.length
 . rw[ai (by simpa using h),jk (v:=RV.int (xs.getD j 0)) (by simp[h])]
   walk_at "ev";exact yB λp a=>b p _ a yw
 . rw[ae (by simpa using h)]
   refine⟨by omega,?_⟩
   have c:j % xs.length<xs.length:=Nat.mod_lt _ hx;rw[show((j:Int) % (xs.length:Int))=((j % xs.length:Nat):Int)from by simp,jk (v:=RV.int (xs.getD (j % xs.length) 0)) (by simp[c])]
   walk_at "ev";refine⟨by decide,by decide,yB λp a=>?_⟩
   unfold cE.l;walk_at "ev";refine⟨vF (by decide) (by decide),.inl ⟨by omega,by omega⟩,vF (by decide) (by decide),?_⟩
   generalize hw:vq _ 0=wb;have w:wb.In 0:=hw ▸ yw;exact b p ⟨wb.a,_ % _,wb.c⟩ a ⟨w.a,Kz,w.c⟩
theorem Mz{f:Fm}:bI f.r (.int 2) M Q=Q (.str f.lend) M:=bz.trans (by rw[K7];rfl)
noncomputable def CJ (l:List (Str×Int))(p:Addr)(Q:ak):ak:=λk M1=>M1 p=some (.dk (gQ l))/\(match fR k with
 |some key=>(match et (gQ l) key with|some v=>Q v (drop M1 p)|none=>False)
 |none=>False)
theorem Ob{l:List (Str×Int)}{a:T}:(tr Γ (.di l a)).E σ M Q= ∀p,M p=none->(tr Γ a).E σ (put M p (.dk (gQ l))) (CJ l p Q):=rfl
theorem U1{l:List (Str×Int)}{p:Addr}{s:Str}:CJ l p Q (.str s) M=(M p=some (.dk (gQ l))/\wO (et (gQ l) (.inr s)) λv=>Q v (drop M p)):=by
 show(_/\(match et (gQ l) (.inr s)with|some v=>Q v (drop M p)|none=>False))=_
 cases et (gQ l) (.inr s)<;>rfl
theorem VB:et (gQ [("door",3),("place",4),("talk",5)]) (.inr "door")=some (.int 3):=by rfl
theorem T9:et (gQ [("door",3),("place",4),("talk",5)]) (.inr "place")=some (.int 4):=by rfl
theorem VA:et (gQ [("door",3),("place",4),("talk",5)]) (.inr "talk")=some (.int 5):=by rfl
theorem Wy{x:Addr}(h:M x=some (.lst xs))(a:-(2 ^ 63)<=k)(b:k<2 ^ 63)(c:xs.length*k.toNat<=sizeLine)(d:Q (.ls (List.replicate k.toNat xs).flatten) M):iy .Mult (.ref x) (.int k) M Q:=⟨xs,h,a,b,c,d⟩
theorem Xj:tm "tuple" [.ls xs] M Q=Q (.tup xs) M:=rfl
theorem He{f:Fm}{i:ay}(ok:f.Ok)(hq:∀p,M p=none->Q (cz (aS f i)) (put M p (.lst [.aq]))):aA (P e) (n+1) 47 [f.r,i.r] M Q:=by
 have k2:∀{M:RM} {Q:ak},bI f.r (.int 2) M Q=Q (.str f.lend) M:=Mz;have e0:i.r= .tup [.str i.kind,.int i.house,.int i.door,.int i.place,.int i.far]:=rfl;rw[us (i:=47) (d:=xl) rfl];simp only[xl];walk_at "ev";rw[Ob];intro p hp;walk_at "ev";rw[k2,U1];refine⟨bw,?_⟩;rw[S4 hp,e0];have fin:∀{j:Int},0<=j->j<=5->gy [.str i.kind,.int i.house,.int i.door,.int i.place,.int i.far] none (some j)++(List.replicate (5-j).toNat [RV.aq]).flatten=(aS f i).map oR->
  ∀(p:Addr),M p=none->iy Operator.Mult (RV.ref p) (.int (5-j)) (put M p (RO.lst [RV.aq])) λx_1 M1=>tm "tuple" [x_1] M1 λy M2=>iy Operator.Add (.tup (gy [.str i.kind,.int i.house,.int i.door,.int i.place,.int i.far] none (some j))) y M2 Q:=λ{j} h3 h4 h5 p hp=>by
  refine Wy bw (by omega) (by omega) (cq (show 1*(5-j).toNat<=5 by omega) (by decide)) ?_
  rw[Xj,IV,h5];refine⟨?_,hq p hp⟩;rw[<-eF,h5];unfold aS;split
  . show 5<=sizeLine;decide
  . split
    . show 5<=sizeLine;decide
    . show 5<=sizeLine;decide
 rcases ok.lend with h|h|h
 . rw[h,VB];walk_at "ev"
   refine fin (by decide) (by decide) ?_
   unfold aS;rw[ai h];rfl
 . rw[h,T9];walk_at "ev"
   refine fin (by decide) (by decide) ?_
   unfold aS;rw[h];rfl
 . rw[h,VA];walk_at "ev"
   refine fin (by decide) (by decide) ?_
   unfold aS;rw[h];rfl
theorem in_nums{v:Int}{l:List Int}:R.inR (.int v) (l.map RV.int)=decide (v∈l):=by
 unfold R.inR;rw[List.any_map]
 induction l with
 |nil=>rfl
 |cons x l ih=>
  rw[jX,ih];show(x==v||decide (v∈l))=decide (v∈x::l)
  by_cases z:x=v
  . simp[z]
  . have a:¬v=x:=λq=>z q.symm
    simp[z,a]
theorem Uj{l:List Int}:(l.map RV.int).all (aF 15)=true:=by simp[aF]
theorem Y8{v:Int}{l:List Int}:cU .In (.int v) (.ls (l.map RV.int)) M Q=Q (.bl (decide (v∈l))) M:=by
 show(aF 15 (.int v)=true/\(l.map RV.int).all (aF 15)=true/\Q (.bl (if false=true then _ else R.inR _ _)) M)=_
 rw[Uj,in_nums];simp[aF]
theorem ZN{s:TK}(h:cI y=some s):gO Q y M (some (.ft kvs))=wO (lk kvs s) λv=>Q v M:=by
 show(match(cI y).map (lk kvs)with|some (some v)=>Q v M|_=>False)=_
 rw[h];show(match some (lk kvs s)with|some (some v)=>Q v M|_=>False)=_
 cases lk kvs s<;>rfl
end
section
variable {e:Env}{n:Nat}{M M' M0:RM}{Q:ak}{f:Fm}{S S':GS}{i:ay}{c:Nat}{k m p far:Int}{v:RV}{ad:cK}
structure Gz(f:Fm)(c:Nat)(S:GS):Prop where
 ok:S.Ok f
 nt:Nt S
 s0:S.tl.length<=c
 s1:S.ns.length<=c
 s2:S.lb.length<=c
 s3:S.ds.length<=c
 s4:S.un.length+S.ns.length<=c
 nr:∀x∈S.ns,f.low<=x.2/\x.2<=f.high
 fl:∀x∈S.ns,∃T∈S.tl,T.m=x.2
 lv:∀T∈S.tl,S.now<T.ov
theorem rG(h:Gz f c S):Gz f (c+1) (S.wrote v):=
 ⟨Ok.wrote h.ok,h.nt,jR h.s0,jR h.s1,jR h.s2,by show(S.ds++ [v]).length<=c+1;rw[eF];exact Nat.succ_le_succ h.s3,jR h.s4,h.nr,h.fl,h.lv⟩
theorem IY{T:Tk}(h:T∈(S.fC f j).tl):∃U∈S.tl,T.i=U.i/\T.m=U.m/\T.ov=(if U.id=j then S.now+f.t0 else U.ov):=by
 obtain⟨U,a,rfl⟩:=aP.mp h;refine⟨U,a,?_⟩
 by_cases z:U.id=j
 . rw[ai z,ai z];exact⟨rfl,rfl,rfl⟩
 . rw[ae z,ae z];exact⟨rfl,rfl,rfl⟩
theorem Iq(h:U∈S.tl):∃T∈(S.fC f j).tl,T.i=U.i/\T.m=U.m/\T.ov=(if U.id=j then S.now+f.t0 else U.ov):=by
 refine⟨_,sP h,?_⟩
 by_cases z:U.id=j
 . rw[ai z,ai z];exact⟨rfl,rfl,rfl⟩
 . rw[ae z,ae z];exact⟨rfl,rfl,rfl⟩
theorem JT(d:f.Ok)(h:Gz f c S):Gz f c (S.fC f j):=
 ⟨Ok.fC h.ok,Nt.fC h.nt,by show(S.tl.map _).length<=c;rw[bo];exact h.s0,h.s1,h.s2,h.s3,h.s4,h.nr,λx hx=>by
  obtain⟨U,b,e1⟩:=h.fl x hx;obtain⟨T,a,_,g,_⟩:=Iq (f:=f) (j:=j) b;exact⟨T,a,g.trans e1⟩,λT a=>by
  obtain⟨U,b,_,_,e1⟩:=IY a;show S.now<T.ov;rw[e1];have:=d.t0.1;have:=h.lv U b;split<;>omega⟩
theorem sub_len:∀{l r:List Int},l.Nodup->(∀x∈l,x∈r)->l.length<=r.length
 | [],_,_,_=>qT _
 |x::l,r,nd,h=>by
  rw[ip]at nd;have g:=sub_len (l:=l) (r:=r.erase x) nd.2 λy d=>(List.mem_erase_of_ne (a:=y) (b:=x) (λ(z:y=x)=>nd.1 (z ▸ d))).mpr (h y (.tail _ d))
  have j:=List.length_erase_of_mem (h x (.head _));have o:=List.length_pos_of_mem (h x (.head _));rw[cY];omega
theorem Zx{a:Int}{n:Nat}:((List.range n).map λ(j:Nat)=>a+(j:Int)).Nodup:=by
 rw[List.nodup_iff_pairwise_ne,List.pairwise_map];refine List.nodup_range.imp λh z=>h ?_
 omega
theorem JM{κ a:Type}[DecidableEq κ]{k:κ}{y:a}:∀{l:List (κ×a)},lk l k=some y->k∈l.map (·.1):=λ{l} h=>by
 have:=va (l:=l) (k:=k);rw[h]at this;simpa using this
theorem Ru(okf:f.Ok)(hw:f.high=f.low+199)(h:S.un.length+S.ns.length<200):∃x,(gv f S).free x S.now=true:=by
 refine Classical.byContradiction λno=>?_
 have all:∀x∈(List.range 200).map (λ(j:Nat)=>f.low+(j:Int)),x∈S.un.map (·.1)++S.ns.map (·.2):=λx hx=>by
  obtain⟨j,hj,rfl⟩:=aP.mp hx;have hj:=ng.mp hj;refine Classical.byContradiction λz=>no ⟨f.low+j,?_⟩
  rw[dZ,not_or]at z;unfold aw.free aw.has gv;have a1:lk (S.ns.map λx=>(x.2,())) (f.low+j)=none:=by
   cases q:lk (S.ns.map λx=>(x.2,())) (f.low+j)with
   |none=>rfl
   |some y=>exact aW (by have:=JM q;rw[bG]at this;exact this) z.2
  have a2:lk S.un (f.low+j)=none:=by
   cases q:lk S.un (f.low+j)with
   |none=>rfl
   |some y=>exact aW (JM q) z.1
  dsimp only;rw[a1,a2];simp;omega
 have:=sub_len Zx all;rw[bo,zG,eF,bo,bo]at this;omega
theorem R6(a:f.Ok)(j:S.Ok f)(g:f.high=f.low+199)(h:S.un.length+S.ns.length<200){b:Bool}:∃x,(gv f S).pick b d S.now=some x:=by
 unfold aw.pick
 by_cases z:(b&&(gv f S).free d S.now)=true
 . rw[ai z];exact⟨_,rfl⟩
 . rw[ae z]
   obtain⟨x,hx⟩:=Ru a g h;cases q:(gv f S).line.find? λi=>(gv f S).free i S.now with
   |some y=>exact⟨y,rfl⟩
   |none=>
    rw[il]at q;have hr:=(AS hx).2;have l:=j.mr;refine aW hx (q x ?_);unfold aw.line gv;rw[dZ,aP,aP];dsimp only
    by_cases y:S.mark<=x
    . exact .inl ⟨(x-S.mark).toNat,ng.mpr (by omega),by omega⟩
    . exact .inr ⟨(x-f.low).toNat,ng.mpr (by omega),by omega⟩
end
section
variable {e:Env}{n:Nat}{M M' M0:RM}{Q:ak}{f:Fm}{S S':GS}{i:ay}{c:Nat}{k m p far:Int}{v:RV}{ad:cK}
theorem BA{i j:ay}(h:i.k=j.k):i=j:=by
 obtain⟨a,b,c,d,g⟩:=i;obtain⟨l,o,r,s,t⟩:=j;unfold ay.k at h;simp only[List.cons.injEq,kj,Sum.inr.injEq,Sum.inl.injEq,and_true]at h;obtain⟨rfl,rfl,rfl,rfl,rfl⟩:=h;rfl
theorem UU{l:List (TK×Int)}{x:Int}:(jM (eX l) x).length<=l.length:=by
 unfold jM eX;rw[bo];refine cq (fX _ _) ?_;rw[bo];exact aU _
structure yS(f:Fm)(c:Nat)(S:GS)(i:ay)(S':GS)(m:Int):Prop where
 gz:Gz f c S'
 mr:f.low<=m/\m<=f.high
 same:∀T∈S.tl,aS f T.i=aS f i->T.m=m
 new:(∀T∈S.tl,aS f T.i≠aS f i)->∀T∈S.tl,T.m≠m
 tl:∀T∈S'.tl,(T.i=i/\T.m=m/\T.ov=S.now+f.t0)∨(T∈S.tl/\T.i≠i)
 has:∃T∈S'.tl,T.i=i/\T.m=m/\T.ov=S.now+f.t0
 old:∀T∈S.tl,T.i≠i->T∈S'.tl
 nw:S'.now=S.now
theorem Xx(h:Gz f c S)(r:f.Ok)(L:f.high=f.low+199)(s:f.most=200)(N:c<190)(hk:i.kind= "note"):∃m,(S.dj f i).2=led m/\yS f (c+1) S i ((S.dj f i).1.wrote v) m:=by
 have s0:=h.s0;have s1:=h.s1;have s2:=h.s2;have s3:=h.s3;have s4:=h.s4;have J:=r.t0.1;unfold GS.dj;cases ef:S.tl.find? λT=>decide (T.i.k=i.k)with
 |some T=>
  have j:=i8 ef;have hi:T.i=i:=BA (by simpa using jq (p:=λT:Tk=>decide (T.i.k=i.k)) ef)
  refine⟨T.m,rfl,rG (JT r h),h.nr _ (cQ (h.ok.tn T j)),λU o e1=>?_,λno=>aW (congrArg (aS f) hi) (no T j),λU o=>?_,?_,λU o A=>?_,rfl⟩
  . have a:=h.ok.tn U o
    have b:=h.ok.tn T j;rw[e1,<-hi,b]at a;exact(d0 a).symm
  . obtain⟨V,w,rfl⟩:=aP.mp o
    by_cases z:V.id=T.id
    . have:V=T:=fg h.ok.d6 w j z
      rw[ai z];exact .inl ⟨by rw[this];exact hi,by rw[this],rfl⟩
    . rw[ae z]
      refine .inr ⟨w,λq=>z ?_⟩
      rw[fg h.ok.d1 w j (by show V.i.k=T.i.k;rw[q,hi])]
  . refine⟨{ T with ov:=S.now+f.t0 },?_,hi,rfl,rfl⟩
    exact aP.mpr ⟨T,j,ai rfl⟩
  . have z:U.id≠T.id:=λz=>A (by rw[fg h.ok.d6 o j z];exact hi)
    exact aP.mpr ⟨U,o,ae z⟩
 |none=>
  have y:i.k∉S.tl.map λT=>T.i.k:=λz=>by
   obtain⟨T,j,e1⟩:=aP.mp z;rw[il]at ef;exact ef T j (by simpa using e1)
  have u:∀T∈S.tl,T.i≠i:=λT j z=>y (aP.mpr ⟨T,j,by rw[z]⟩)
  cases em:lk S.ns (aS f i)with
  |some m=>
   refine⟨m,rfl,⟨Ok.wrote (Ok.begun h.ok y em (by omega)),Nt.snoc h.nt ⟨hk,rfl⟩,by show(S.tl++ [_]).length<=c+1;rw[eF];show S.tl.length+1<=c+1;omega,by show S.ns.length<=c+1;omega,by show S.lb.length<=c+1;omega,by show(S.ds++ [v]).length<=c+1;rw[eF];show S.ds.length+1<=c+1;omega,by show S.un.length+S.ns.length<=c+1;omega,h.nr,λx hx=>?_,λT j=>?_⟩,h.nr _ (cQ em),λU o e1=>?_,λno=>?_,?_,⟨_,gV _ (.head _),rfl,rfl,rfl⟩,λU o _=>oM _ o,rfl⟩
   . obtain⟨T,j,e1⟩:=h.fl x hx
     exact⟨T,oM _ j,e1⟩
   . show S.now<T.ov
     rcases dZ.mp j with q|q
     . exact h.lv T q
     . cases fG.mp q;show S.now<S.now+f.t0;omega
   . have a:=h.ok.tn U o
     rw[e1,em]at a;exact(d0 a).symm
   . obtain⟨T,j,e1⟩:=h.fl _ (cQ em)
     have a:=h.ok.tn T j;have b:=fg (g:=λx:TK×Int=>x.2) h.ok.d3 (cQ a) (cQ em) e1
     exact aW (congrArg Prod.fst b) (no T j)
   . intro T j
     rcases dZ.mp j with q|q
     . exact .inr ⟨q,u T q⟩
     . cases fG.mp q;exact .inl ⟨rfl,rfl,rfl⟩
  |none=>
   have O:=UU (l:=S.ns) (x:=i.house);have I:¬f.most<=((jM (eX S.ns) i.house).length:Int):=by rw[s];omega
   simp only[ae I];obtain⟨m,E⟩:=R6 r h.ok L (by omega:S.un.length+S.ns.length<200) (b:=f.pick== "keep") (d:=i.door)
   rw[E];obtain⟨F,C,D⟩:=AS (GK E);have H:(dr S.un m).length<=S.un.length:=fX _ _;have t:∀U∈S.tl,U.m≠m:=λU o z=>F (by rw[<-z];exact aP.mpr ⟨_,cQ (h.ok.tn U o),rfl⟩)
   refine⟨m,rfl,⟨Ok.wrote (Ok.g9 h.ok r hk y em C D F ⟨by omega,by omega,by omega⟩),Nt.snoc h.nt ⟨hk,rfl⟩,by show(S.tl++ [_]).length<=c+1;rw[eF];show S.tl.length+1<=c+1;omega,by show(S.ns++ [_]).length<=c+1;rw[eF];show S.ns.length+1<=c+1;omega,by show(S.lb++ [_]).length<=c+1;rw[eF];show S.lb.length+1<=c+1;omega,by show(S.ds++ [v]).length<=c+1;rw[eF];show S.ds.length+1<=c+1;omega,by show(dr S.un m).length+(S.ns++ [_]).length<=c+1;rw[eF];show(dr S.un m).length+(S.ns.length+1)<=c+1;omega,λx hx=>?_,λx hx=>?_,λT j=>?_⟩,⟨C,D⟩,λU o e1=>?_,λ_=>t,?_,⟨_,gV _ (.head _),rfl,rfl,rfl⟩,λU o _=>oM _ o,rfl⟩
   . rcases dZ.mp hx with q|q
     . exact h.nr x q
     . cases fG.mp q;exact⟨C,D⟩
   . rcases dZ.mp hx with q|q
     . obtain⟨T,j,e1⟩:=h.fl x q
       exact⟨T,oM _ j,e1⟩
     . cases fG.mp q
       exact⟨_,gV _ (.head _),rfl⟩
   . show S.now<T.ov
     rcases dZ.mp j with q|q
     . exact h.lv T q
     . cases fG.mp q;show S.now<S.now+f.t0;omega
   . have a:=h.ok.tn U o
     rw[e1,em]at a;cases a
   . intro T j
     rcases dZ.mp j with q|q
     . exact .inr ⟨q,u T q⟩
     . cases fG.mp q;exact .inl ⟨rfl,rfl,rfl⟩
end
section
variable {e:Env}{n:Nat}{M M' M0:RM}{Q:ak}{f:Fm}{S S':GS}{i:ay}{c:Nat}{k m p far:Int}{v:RV}{ad:cK}
theorem GO:∀{l:List Tk} {S:GS},S.Ok f->(fA f l S).Ok f
 | [],_,h=>h
 |T::l,_,h=>GO (l:=l) (Ok.ended h)
theorem RX{T:Tk}(b:S.Ok f)(a:T∈S.tl):(S.ended f T mo).un.length+(S.ended f T mo).ns.length<=S.un.length+S.ns.length:=by
 unfold GS.ended;split
 . exact aU _
 . show(pt S.un T.m (mo+f.t3)).length+(S.ns.filter λx=>decide (x.2≠T.m)).length<=_
   have d:(pt S.un T.m (mo+f.t3)).length<=S.un.length+1:=uY;have g:(S.ns.filter λx=>decide (x.2≠T.m)).length<S.ns.length:=List.length_filter_lt_length_iff_exists.mpr ⟨_,cQ (b.tn T a),by simp⟩
   omega
theorem Gq:∀{l:List Tk} {S:GS},S.Ok f->(∀T∈l,T∈S.tl)->(l.map (·.id)).Nodup->(fA f l S).un.length+(fA f l S).ns.length<=S.un.length+S.ns.length
 | [],_,_,_,_=>aU _
 |T::l,S,ok,hl,nd=>by
  rw[bF,ip]at nd;refine cq (Gq (l:=l) (Ok.ended ok) (λU a=>?_) nd.2) (RX ok (hl T (.head _)))
  rw[rH];refine bB.mpr ⟨hl U (.tail _ a),?_⟩;have:U.id≠T.id:=λz=>nd.1 (by rw[<-z];exact aP.mpr ⟨U,a,rfl⟩)
  simpa using this
theorem UW{d:List Tk}(h:Gz f c S)(h0:0<=k)(w:d.Perm (S.at_ k).over):Gz f (c+1) ((fA f d (S.at_ k)).wrote v)/\(∀T,T∈((fA f d (S.at_ k)).wrote v).tl↔T∈S.tl/\S.now+k<T.ov)/\((fA f d (S.at_ k)).wrote v).now=S.now+k:=by
 have F:=Vx h.ok w;have C:(d.map (·.id)).Nodup:=(w.map _).nodup_iff.mpr (je h.ok.d6)
 have r:∀T,T∈d↔T∈S.tl/\T.ov<=S.now+k:=λT=>by
  rw[w.mem_iff];unfold GS.over;rw[bB];show T∈S.tl/\decide (T.ov<=S.now+k)=true↔_;rw[gY]
 have tl:∀T,T∈(fA f d (S.at_ k)).tl↔T∈S.tl/\S.now+k<T.ov:=λT=>by
  rw[F.tl];unfold GS.rem;rw[bB];show T∈S.tl/\decide (T.id∉d.map (·.id))=true↔_
  rw[gY];refine⟨λq=>⟨q.1,?_⟩,λq=>⟨q.1,λz=>?_⟩⟩
  . refine Int.not_le.mp λz=>q.2 (aP.mpr ⟨T,(r T).mpr ⟨q.1,z⟩,rfl⟩)
  . obtain⟨U,s,e1⟩:=aP.mp z
    have s:=(r U).mp s;have:U=T:=fg h.ok.d6 s.1 q.1 e1;rw[this]at s;omega
 have e0:(fA f d (S.at_ k)).tl.length<=S.tl.length:=by rw[F.tl];exact fX _ _
 have e1:(fA f d (S.at_ k)).ns.length<=S.ns.length:=by rw[F.ns];exact fX _ _
 have y:(fA f d (S.at_ k)).lb.length<=S.lb.length:=by rw[F.lb];exact fX _ _
 have A:(fA f d (S.at_ k)).ds=S.ds:=F.ds;have u:=Gq (f:=f) (l:=d) (S:=S.at_ k) { h.ok with } (λT j=>((r T).mp j).1) C
 have u:(fA f d (S.at_ k)).un.length+(fA f d (S.at_ k)).ns.length<=S.un.length+S.ns.length:=u;have t:∀x∈(fA f d (S.at_ k)).ns,x∈S.ns/\(S.at_ k).alive d x.2=true:=λx hx=>by rw[F.ns]at hx;exact bB.mp hx
 have g:Gz f c (fA f d (S.at_ k)):=⟨GO (S:=S.at_ k) { h.ok with },λU s=>h.nt U ((tl U).mp s).1,cq e0 h.s0,cq e1 h.s1,cq y h.s2,by rw[A];exact h.s3,cq u h.s4,λx hx=>h.nr x (t x hx).1,λx hx=>?_,λT j=>?_⟩
 . exact⟨rG g,tl,F.nw⟩
 . obtain⟨a,b⟩:=t x hx
   unfold GS.alive at b;rw[Bool.or_eq_true]at b;rcases b with b|b
   . have b:dR d x.2=none:=by
      cases q:dR d x.2 with
      |none=>rfl
      |some o=>rw[q]at b;cases b
     rw[bN]at b;obtain⟨T,j,e1⟩:=h.fl x a;exact⟨T,(tl T).mpr ⟨j,Int.not_le.mp λz=>b T ((r T).mpr ⟨j,z⟩) e1⟩,e1⟩
   . obtain⟨T,j,e1⟩:=gL.mp b
     rw[<-F.tl]at j;exact⟨T,j,by simpa using e1⟩
 . rw[F.nw];exact((tl T).mp j).2
end
section
variable {e:Env}{n:Nat}{M M' M0:RM}{Q:ak}{f:Fm}{S S':GS}{i:ay}{c:Nat}{k m p far:Int}{v:RV}{ad:cK}
theorem Q6:inR (.str "line") [.str "note",.str "line"]=true:=by decide+kernel
theorem Q7:inR (.str "open") [.str "open",.str "say",.str "close",.str "break"]=true:=by decide+kernel
theorem Px:aA (P e) (n+1) 6 [.str "line"] M Q=Q (.bl true) M:=by
 rw[us (i:=6) (d:=rA) rfl];simp only[rA];walk_at "ev";rw[Q6,uZ,true_and]
theorem Pu:aA (P e) (n+1) 25 [.str "line",.str "open"] M Q=Q (.bl true) M:=by
 rw[us (i:=25) (d:=rm) rfl];simp only[rm];walk_at "ev";rw[show(("line":Str)==("note":Str))=false by decide,ae (by simp),Q7,uZ,true_and]
theorem P5(h:Q (.bl true) M):aA (P e) (n+3) 49 [.str "line",.str "open",.str ""] M Q:=by
 rw[us (i:=49) (d:=rB) rfl];simp only[rB];walk_at "ev";rw[Px,jF,ai rfl,Pu,jF,ai rfl];exact Gd h
theorem Rk{a b c:Int}(g:1<=a/\a<=1000000)(j:1<=b/\b<=9999)(l:1<=c/\c<=9999)(h:Q (.bl true) M):aA (P e) (n+4) 10 [.tup [.str "line",.int a,.int b,.int c,.str "open",.str ""]] M Q:=by
 rw[us (i:=10) (d:=qb) rfl];simp only[qb];walk_at "ev";simp only[↓GG,↓uJ,↓jF,ib g.1 g.2,ib j.1 j.2,ib l.1 l.2,↓reduceIte];exact P5 h
theorem Ql(tb:Tb e){a b c:Int}(l:1<=a/\a<=1000000)(o:1<=b/\b<=9999)(r:1<=c/\c<=9999)(h:Q (.bl true) M):aA (P e) (n+5) 13 [.tup [.str "come",.str "line",.int a,.int b,.int c,.str "open",.str ""]] M Q:=by
 rw[us (i:=13) (d:=j0) rfl];simp only[j0];walk_at "ev";rw[x8];walk_at "ev";obtain⟨f,g,j⟩:=tb.come;rw[g,x9,ym,ae (by simp)]
 refine⟨_,aP.mpr ⟨_,j,rfl⟩,?_⟩;walk_at "ev";rw[oo];exact Rk l o r h
theorem GX(G:dw e M ad f S)(z:S.Ok f)(j:Q (kept "nobody") M):aA (P e) (n+3) 67 [.ref (ad .g),.str "line",.int p,.int m] M Q:=by
 have x:=G.at_ .g _ rfl;have l:=G.at_ .t _ rfl;have u:=G.at_ .ho _ rfl;rw[us (i:=67) (d:=p7) rfl];simp only[p7];walk_at "ev";rw[x];walk_at "ev";rw[l];walk_at "ev";rw[Gv l u];cases eh:lk (eX S.ns) m with
 |none=>
  unfold vX;walk_at "ev";exact j
 |some h=>
  obtain⟨w,y,e1⟩:=aP.mp (cQ eh);injection e1 with e1 o
  obtain⟨i,hk,r⟩:=z.hk w y;obtain⟨a,b,s⟩:=uS (f:=f) (i:=i);have t:h= [some (.inr "note"),some (.inl i.house),some (.inl i.door),a,b]:=by rw[<-o,r,s,hk]
  subst t;rw[show vX (some [some (.inr "note"),some (.inl i.house),some (.inl i.door),a,b])= .tup [.str "note",.int i.house,.int i.door,oR a,oR b]from rfl]
  walk_at "ev";have g:(("note":Str)==("line":Str))=false:=by decide
  rw[g,ai (by rfl)]
  exact j
theorem Rg(G:dw e M ad f S)(r:S.Ok f)(y:Nt S)(s:f.low<=m)(t:m<=f.high)(u:Q (kept "nobody") M):aA (P e) (n+4) 71 [.ref (ad .g),.str "line",.int p,.int far,.int m,.str "open"] M Q:=by
 have h:=G.at_ .g _ rfl;have j:=G.at_ .t _ rfl;have b:=G.at_ .bn _ rfl;have l:=G.at_ .pl _ rfl;rw[us (i:=71) (d:=p5) rfl];simp only[p5];walk_at "ev";rw[h];walk_at "ev";rw[j];walk_at "ev";cases hb:lk S.lb m with
 |none=>
  have a:lk (dh ad S.lb) m=none:=by unfold dh;rw[nR (g:=λk=>ad (.nb k)),hb];rfl
  rw[FO j b a];walk_at "ev";rw[h];walk_at "ev";rw[j];walk_at "ev";rw[l];walk_at "ev";rw[yH l,eQ,ai (by simp[s,t]),h]
  walk_at "ev";exact GX G r u
 |some k=>
  have a:lk (dh ad S.lb) m=some (ad (.nb k)):=by unfold dh;rw[nR (g:=λk=>ad (.nb k)),hb];rfl
  have w:M (ad (.nb k))=some (.dt (eA (outs ad S.tl m))):=G.at_ (.nb k) _ (by show Option.map _ (S.lb.find? λx=>decide (x.2=k))=_;rw[nM r.d2 (cQ hb)];rfl)
  rw[FN j b a w];rw[show lk (outs ad S.tl m) [some (.inr "line"),some (.inl p),some (.inl far)]=_ from AY (κ:=[some (.inr "line"),some (.inl p),some (.inl far)])]
  have A:S.tl.find? (λT=>decide (T.m=m/\bx T.i= [some (.inr "line"),some (.inl p),some (.inl far)]))=none:=il.mpr λT o z=>by
   have z:=(jo z).2;unfold bx at z;rw[(y T o).1]at z;injection z with z _
   injection z with z
   injection z with z
   exact aW z (by decide)
  rw[A];rw[show og (Option.map (λT:Tk=>ad (.tk T.id)) none)= .aq from rfl]
  walk_at "ev";rw[h];walk_at "ev";rw[j];walk_at "ev";rw[l];walk_at "ev";rw[yH l,eQ,ai (by simp[s,t]),h]
  walk_at "ev";exact GX G r u
noncomputable def ju(p far m:Int):RV:=.tup [.str "come",.str "line",.int p,.int far,.int m,.str "open",.str ""]
theorem Uy(G:dw e M ad f S)(u:S.Ok f)(tb:Tb e)(b:f.Ok)(l:Nt S)(h:f.low<=m)(j:m<=f.high)(s:1<=p/\p<=1000000)(r:1<=far/\far<=9999)(o:S.ds.length<900)
 (t:∀M',cN e M ad f S M' ad (S.wrote (.tup [ju p far m,kept "nobody"]))->Q (kept "nobody") M'):aA (P e) (n+7) 72 [.ref (ad .g),.str "line",.int p,.int far,.int m,.str "open",.str ""] M Q:=by
 have g:=G.at_ .g _ rfl;have a:=G.at_ .dn _ rfl;have:=b.lo;have:=b.hi;rw[us (i:=72) (d:=p4) rfl];simp only[p4];walk_at "ev";rw[g];walk_at "ev";rw[us (i:=39) (d:=jC) rfl];simp only[jC];walk_at "ev";refine Ql (n:=n) tb s r ⟨by omega,by omega⟩ ?_
 walk_at "ev";rw[g];walk_at "ev";rw[oo];rw[us (i:=58) (d:=jB) rfl];simp only[jB];walk_at "ev";rw[show(("come":Str)==("out":Str))=false by decide,ae (by simp),g]
 walk_at "ev";refine Rg G u l h j ?_;rw[g];walk_at "ev";rw[a];walk_at "ev";exact⟨_,_,rfl,a,fq o (by decide),t _ (yA G)⟩
end
section
variable {e:Env}{n:Nat}{M M' M0:RM}{Q:ak}{f:Fm}{S S':GS}{i:ay}{c:Nat}{k m p far:Int}{v:RV}{ad:cK}
theorem uQ{U:Tk}(a:U.i.kind= "note"):bx U.i=jn p far↔U.i.place=p/\U.i.far=far:=by
 unfold bx jn;rw[a];simp only[List.cons.injEq,kj,Sum.inl.injEq,and_true,true_and]
theorem Av(h:Gz f c S){T U:Tk}(a:T∈S.tl)(b:U∈S.tl)(e1:T.m=U.m):aS f T.i=aS f U.i:=
 congrArg Prod.fst (fg (g:=λx:TK×Int=>x.2) h.ok.d3 (cQ (h.ok.tn T a)) (cQ (h.ok.tn U b)) e1)
theorem RY{i j:ay}(e1:aS f i=aS f j):i.house=j.house/\i.door=j.door:=by
 obtain⟨a,b,d⟩:=uS (f:=f) (i:=i);obtain⟨h,l,g⟩:=uS (f:=f) (i:=j);rw[d,g]at e1;simp only[List.cons.injEq,kj,Sum.inl.injEq]at e1;exact⟨e1.2.1,e1.2.2.1⟩
def meets(S:GS)(m p far:Int):Bool:=S.tl.any λU=>decide (U.m=m/\U.i.place=p/\U.i.far=far)
theorem GC(h:Gz f c S):(S.tl.find? λT=>decide (T.m=m/\bx T.i=jn p far))=S.tl.find? λU=>decide (U.m=m/\U.i.place=p/\U.i.far=far):=by
 have:∀l:List Tk,(∀T∈l,T.i.kind= "note")->(l.find? λT=>decide (T.m=m/\bx T.i=jn p far))=l.find? λU=>decide (U.m=m/\U.i.place=p/\U.i.far=far):=λl a=>by
  induction l with
  |nil=>rfl
  |cons T l ih=>
   have e1:decide (T.m=m/\bx T.i=jn p far)=decide (T.m=m/\T.i.place=p/\T.i.far=far):=oT.mpr (and_congr Iff.rfl (uQ (a T (.head _))));rw[i7,i7,ih λU d=>a U (.tail _ d),e1]
 exact this S.tl λT b=>(h.nt T b).1
theorem SS(h:Gz f c S)(no:∀T∈S.tl,T.m≠m):S.cw f m p far=kept "nobody"/\S.cV f m p far=S:=by
 have d:(S.tl.find? λT=>decide (T.m=m/\bx T.i=jn p far))=none:=il.mpr λT a z=>no T a (jo z).1
 unfold GS.cw GS.cV;rw[d];have g:lk (eX S.ns) m=none:=by
  cases q:lk (eX S.ns) m with
  |none=>rfl
  |some y=>
   obtain⟨w,j,e1⟩:=aP.mp (cQ q);injection e1 with e1 l
   obtain⟨T,a,b⟩:=h.fl w j;exact aW (b.trans e1) (no T a)
 dsimp only;rw[g];exact⟨rfl,rfl⟩
theorem SR(h:Gz f c S){T:Tk}(g:T∈S.tl)(l:T.m=m):S.cw f m p far=if(meets S m p far||(f.sieve== "all" ||(f.sieve== "place" &&S.eZ m p)))=true then pR T.i.house T.i.door else kept "sieve":=by
 unfold GS.cw;rw[GC h];cases q:S.tl.find? λU=>decide (U.m=m/\U.i.place=p/\U.i.far=far)with
 |some U=>
  have j:=i8 q;have z:=jq (p:=λU:Tk=>decide (U.m=m/\U.i.place=p/\U.i.far=far)) q
  have d:meets S m p far=true:=gL.mpr ⟨U,j,z⟩;have z:=jo z;obtain⟨d1,o⟩:=RY (Av h g j (l.trans z.1.symm));rw[d,ai (by rfl),d1,o]
 |none=>
  have d:meets S m p far=false:=by
   unfold meets;rw[List.any_eq_false];exact il.mp q
  have r:lk (eX S.ns) m=some (aS f T.i):=jl (x:=(m,aS f T.i)) (by unfold eX;rw[bG];exact h.ok.d3) (aP.mpr ⟨_,cQ (h.ok.tn T g),by rw[l]⟩)
  dsimp only;rw[r,d,Bool.false_or];obtain⟨a,b,e1⟩:=uS (f:=f) (i:=T.i);dsimp only;rw[e1];rfl
structure yE(f:Fm)(c:Nat)(S:GS)(m p far:Int)(S':GS):Prop where
 gz:Gz f c S'
 tl:∀T∈S'.tl,∃U∈S.tl,T.i=U.i/\T.m=U.m/\T.ov=if f.renew=true/\U.m=m/\U.i.place=p/\U.i.far=far then S.now+f.t0 else U.ov
 old:∀U∈S.tl,∃T∈S'.tl,T.i=U.i/\T.m=U.m/\T.ov=if f.renew=true/\U.m=m/\U.i.place=p/\U.i.far=far then S.now+f.t0 else U.ov
 nw:S'.now=S.now
theorem UX(h:Gz f c S)(t:f.Ok):yE f (c+1) S m p far ((S.cV f m p far).wrote v):=by
 unfold GS.cV;rw[GC h];cases q:S.tl.find? λU=>decide (U.m=m/\U.i.place=p/\U.i.far=far)with
 |none=>
  have no:∀U∈S.tl,¬(f.renew=true/\U.m=m/\U.i.place=p/\U.i.far=far):=λU g z=>by
   have:=il.mp q U g;exact this (d8 z.2)
  exact⟨rG h,λT l=>⟨T,l,rfl,rfl,(ae (no T l)).symm⟩,λT l=>⟨T,l,rfl,rfl,(ae (no T l)).symm⟩,rfl⟩
 |some V=>
  have r:=i8 q;have z:=jo (jq (p:=λU:Tk=>decide (U.m=m/\U.i.place=p/\U.i.far=far)) q)
  dsimp only
  by_cases s:f.renew=true
  . rw[ai s]
    have o:∀U∈S.tl,(U.id=V.id)↔(f.renew=true/\U.m=m/\U.i.place=p/\U.i.far=far):=λU g=>by
     refine⟨λe1=>?_,λe1=>?_⟩
     . rw[fg h.ok.d6 g r e1];exact⟨s,z⟩
     . have hk:=Av h g r (e1.2.1.trans z.1.symm)
       have ho:bx U.i=bx V.i:=((uQ (h.nt U g).1).mpr e1.2.2).trans ((uQ (h.nt V r).1).mpr z.2).symm;rw[fg h.ok.d1 g r (by show U.i.k=V.i.k;rw[xT hk ho])]
    refine⟨rG (JT t h),λT l=>?_,λU g=>?_,rfl⟩
    . obtain⟨U,g,a,b,d⟩:=IY l
      refine⟨U,g,a,b,?_⟩;rw[d]
      by_cases y:U.id=V.id
      . rw[ai y,ai ((o U g).mp y)]
      . rw[ae y,ae λx=>y ((o U g).mpr x)]
    . obtain⟨T,l,a,b,d⟩:=Iq (f:=f) (j:=V.id) g
      refine⟨T,l,a,b,?_⟩;rw[d]
      by_cases y:U.id=V.id
      . rw[ai y,ai ((o U g).mp y)]
      . rw[ae y,ae λx=>y ((o U g).mpr x)]
  . rw[ae s]
    have no:∀U:Tk,¬(f.renew=true/\U.m=m/\U.i.place=p/\U.i.far=far):=λU z=>s z.1
    exact⟨rG h,λT l=>⟨T,l,rfl,rfl,(ae (no T)).symm⟩,λT l=>⟨T,l,rfl,rfl,(ae (no T)).symm⟩,rfl⟩
end
section
variable {e:Env}{n:Nat}{M M' M0:RM}{Q:ak}{f:Fm}{S S':GS}{i:ay}{c:Nat}{k m p far now:Int}{v:RV}{o a b:Addr}
abbrev En:=List (TK×(Int×Int))
def pV(x:Int×Int):RV:=.tup [.int x.1,.int x.2]
def eE(E:En):List (TK×RV):=enc id pV E
def eD(H:List (Int×Unit)):bP:=enc Sum.inl (λ_=>RV.bl true) H
noncomputable def jm(now:Int)(a b:Addr):RO:=.dk [(.inr "now",.int now),(.inr "ends",.ref a),(.inr "had",.ref b)]
structure Own(M:RM)(o a b:Addr)(now:Int)(E:En)(H:List (Int×Unit)):Prop where
 own:M o=some (jm now a b)
 ends:M a=some (.dt (eE E))
 had:M b=some (.dk (eD H))
theorem yK:lk (eE E) κ=(lk E κ).map pV:=nS (g:=id) iA
theorem vI:gO Q (.str "now") M (some (jm now a b))=Q (.int now) M:=rfl
theorem qo:gO Q (.str "ends") M (some (jm now a b))=Q (.ref a) M:=rfl
theorem KS:gO Q (.str "had") M (some (jm now a b))=Q (.ref b) M:=rfl
def ij(E:En)(now:Int):En:=E.filter λx=>decide (now<x.2.2)
def sr(E:En)(now:Int):RV->Bool:=λy=>match cI y with
 |some κ=>(match lk E κ with|some x=>decide (now<x.2)|none=>false)
 |none=>false
theorem HB{E:En}{x:TK×(Int×Int)}(d:(E.map (·.1)).Nodup)(hx:x∈E):sr E now (cz x.1)=decide (now<x.2.2):=by
 unfold sr;rw[hZ];dsimp only;rw[jl d hx]
theorem Vo{E:En}(nd:(E.map (·.1)).Nodup):(((iY true (eE E)).filter (sr E now)).map λx=>x)=(ij E now).map λx=>cz x.1:=by
 rw[List.map_id'];show((enc id pV E).map λkv=>RV.tup (kv.1.map oR)).filter (sr E now)=_
 unfold enc ij;rw[bG,m9];congr 1;exact kh λx hx=>HB nd hx
theorem AL(h:Own M o a b now E H)(l:(E.map (·.1)).Nodup)(u:E.length<1000)(w:Q (.ls ((ij E now).map λx=>cz x.1)) M):aA (P e) (n+1) 22 [.ref o] M Q:=by
 have s:o≠a:=λz=>by have:=h.own;rw[z,h.ends]at this;cases this
 have ho:=h.own;rw[us (i:=22) (d:=xE) rfl];simp only[xE];walk_at "ev";rw[ho,qo];unfold mS;simp only[h.ends];refine⟨by unfold iY eE;simp only[if_true,bo,hO];exact fq u (by decide),jg (bd:=fW false 1) (sr E now) (λx=>x) bw _ _ (λx hx=>?_) ?_⟩
 . obtain⟨A,j,rfl⟩:=aP.mp hx
   obtain⟨y,r,rfl⟩:=aP.mp j;refine⟨_,rfl,λK g=>?_,λ_ K g=>g⟩
   have g:K (sr E now (cz y.1)) _:=g;rw[HB l r]at g;walk_at "ev";rw[ao s,ho,qo];walk_at "ev";rw[ZN (show cI (RV.tup (List.map oR (id y.1)))=some y.1 from hZ y.1),yK,jl l r]
   show gO (λz t=>cU CmpOp.Gt (.int y.2.2) z t (kB K)) (RV.str "now") (put M a (RO.ft (eE E))) (put M a (RO.ft (eE E)) o)
   rw[ao s,ho,vI,Ng,eQ];exact g
 . rw[jU,Vo l,gq,rF h.ends,nT]
   exact w
end
section
variable {e:Env}{n:Nat}{M M' M0:RM}{Q:ak}{f:Fm}{S S':GS}{i:ay}{c:Nat}{k m p far now:Int}{v:RV}{g:Addr}{ad ad':cK}
def Fv(e:Env)(ad:cK)(f:Fm)(S:GS)(a:Addr):Prop:=∃r o,ct e ad f S r=some o/\ad r=a
structure Rz(e:Env)(M0 M:RM)(g:Addr)(f:Fm)(c:Nat)(S:GS):Prop where
 ex:∃ad,dw e M ad f S/\ad .g=g/\∀a o,M0 a=some o->M a=some o/\¬Fv e ad f S a
 gz:Gz f c S
theorem yx(G:dw e M ad f S)(t:∀a o,M0 a=some o->M a=some o/\¬Fv e ad f S a)(st:cN e M ad f S M' ad' S')(s:Gz f c S'):Rz e M0 M' (ad .g) f c S':=by
 refine⟨⟨ad',st.1,st.2.2.1,λa o z=>?_⟩,s⟩
 obtain⟨h,j⟩:=t a o z;refine⟨st.2.1.keep a o h λr u d y=>j ⟨r,u,d,y⟩,λx=>?_⟩
 obtain⟨r,u,d,y⟩:=x;subst y;rcases st.2.1.new r u d with⟨A,w,b,l⟩|b
 . exact j ⟨A,w,b,l⟩
 . rw[h]at b;cases b
theorem Rz.out(h:Rz e M0 M g f c S)(tb:Tb e)(b:f.Ok)(d:i.Ok)(s:f.high=f.low+199)(a:f.most=200)(o:c<190)(r:∀M' S' m,Rz e M0 M' g f (c+1) S'->yS f (c+1) S i S' m->Q (led m) M'):
 aA (P e) (n+10) 74 [.ref g,.str "note",.int i.house,.int i.door,.int i.place,.int i.far,.str "say",.str ""] M Q:=by
 obtain⟨⟨ad,G,rfl,l⟩,gz⟩:=h;have s3:=gz.s3;refine XW b G gz.ok tb d gz.nt (by omega) λM' ad' st=>?_
 obtain⟨m,e1,j⟩:=Xx (v:=.tup [i.deed,(S.dj f i).2]) gz b s a o d.kind;have:=r M' _ m (yx G l st j.gz) j;rw[e1];exact this
theorem Rz.come(h:Rz e M0 M g f c S)(tb:Tb e)(a:f.Ok)(m1:f.low<=m)(m2:m<=f.high)(j:1<=p/\p<=1000000)(d:1<=far/\far<=9999)(o:c<800)(l:∀M' S',Rz e M0 M' g f (c+1) S'->yE f (c+1) S m p far S'->Q (S.cw f m p far) M'):
 aA (P e) (n+7) 72 [.ref g,.str "note",.int p,.int far,.int m,.str "say",.str ""] M Q:=by
 obtain⟨⟨ad,G,rfl,b⟩,gz⟩:=h;have s3:=gz.s3;refine Wf G gz.ok tb a gz.nt m1 m2 j d (by omega) λM' st=>?_
 have ct:=UX (m:=m) (p:=p) (far:=far) (v:=.tup [KO p far m,S.cw f m p far]) gz a;exact l M' _ (yx G b st ct.gz) ct
theorem Rz.ju(h:Rz e M0 M g f c S)(tb:Tb e)(b:f.Ok)(m1:f.low<=m)(m2:m<=f.high)(l:1<=p/\p<=1000000)(j:1<=far/\far<=9999)(r:c<800)(o:∀M' S',Rz e M0 M' g f (c+1) S'->S'.tl=S.tl->S'.now=S.now->Q (kept "nobody") M'):
 aA (P e) (n+7) 72 [.ref g,.str "line",.int p,.int far,.int m,.str "open",.str ""] M Q:=by
 obtain⟨⟨ad,G,rfl,d⟩,a⟩:=h;have s3:=a.s3;exact Uy G a.ok tb b a.nt m1 m2 l j (by omega) λM' st=>o M' _ (yx G d st (rG a)) rfl rfl
theorem Rz.wait(h:Rz e M0 M g f c S)(tb:Tb e)(b:M0 e.lP=some (cW e))(j:0<=k)(t:k<=1000000)(u:c<64)(s:∀M' S',Rz e M0 M' g f (c+1) S'->(∀T,T∈S'.tl↔T∈S.tl/\S.now+k<T.ov)->S'.now=S.now+k->Q .aq M'):
 aA (P e) (n+7) 40 [.ref g,.int k] M Q:=by
 obtain⟨⟨ad,G,rfl,d⟩,a⟩:=h;have s0:=a.s0;have s3:=a.s3;have s4:=a.s4;refine Wb G a.ok tb (d _ _ b).1 j t (by omega) (by omega) (by omega) λys M' p1 w st=>?_
 obtain⟨l,o,r⟩:=UW (v:=Kb k) a j p1;exact s M' _ (yx G d st l) o r
theorem Rz.other{a:Addr}(h:Rz e M0 M g f c S)(w:M0 a=some o):Rz e (put M0 a o') (put M a o') g f c S:=by
 obtain⟨⟨ad,G,e1,j⟩,t⟩:=h;obtain⟨x,s⟩:=j a o w;refine⟨⟨ad,⟨λr u l=>(ao (λ(z:ad r=a)=>s ⟨r,u,l,z⟩)).trans (G.at_ r u l),G.inj⟩,e1,λb u d=>?_⟩,t⟩
 by_cases z:b=a
 . subst z;rw[bw]at d;cases d;exact⟨bw,s⟩
 . rw[ao z]at d;rw[ao z];exact j b u d
theorem Rz.new{a:Addr}(h:Rz e M0 M g f c S)(x:M a=none):Rz e (put M0 a o) (put M a o) g f c S:=by
 obtain⟨⟨ad,G,e1,t⟩,s⟩:=h;have l:∀r u,ct e ad f S r=some u->ad r≠a:=λr u d z=>by have:=G.at_ r u d;rw[z,x]at this;cases this
 refine⟨⟨ad,⟨λr u d=>(ao (l r u d)).trans (G.at_ r u d),G.inj⟩,e1,λb u j=>?_⟩,s⟩
 by_cases z:b=a
 . subst z;rw[bw]at j;cases j;exact⟨bw,λ⟨r,w,d,y⟩=>l r w d y⟩
 . rw[ao z]at j;rw[ao z];exact t b u j
theorem Rz.grow(h:Rz e M0 M g f c S)(hx:∀b o,M b=some o->M' b=some o):Rz e M0 M' g f c S:=by
 obtain⟨⟨ad,G,e1,a⟩,j⟩:=h;exact⟨⟨ad,⟨λr u l=>hx _ _ (G.at_ r u l),G.inj⟩,e1,λb u d=>⟨hx _ _ (a b u d).1,(a b u d).2⟩⟩,j⟩
theorem Rz.at_{a:Addr}(h:Rz e M0 M g f c S)(d:M0 a=some o):M a=some o:=by
 obtain⟨⟨ad,G,e1,b⟩,j⟩:=h;exact(b a o d).1
theorem Rz.gate(h:Rz e M0 M g f c S):∃a rs rd,M g=some (cy e f.r a rs rd .aq):=by
 obtain⟨⟨ad,G,e1,d⟩,b⟩:=h;exact⟨_,_,_,e1 ▸ G.at_ .g _ rfl⟩
theorem A5{ok:RM->Prop}{un:RM->RM}{tt:ee}{te:ar}{base:List (Option RV)}(pp:RV->Bool)(gg:RV->RV)(I:RM->Prop)(av:∀M,I M->ok M):∀(xs acc:LR) (M:RM),I M->
 (∀x∈xs,∃bs,bd x=some bs/\(∀M,I M->∀K:Bool->RM->Prop,(∀M',I M'->K (pp x) M')->tt (bs.map some++base) M K)/\(pp x=true->∀M,I M->∀K:ak,(∀M',I M'->K (gg x) M')->te (bs.map some++base) M K))->
 (∀M',I M'->mQ md (acc++(xs.filter pp).map gg) (un M') Q)->gr bd md ok un tt te base xs acc M Q
 | [],acc,M,h,_,hq=>⟨av _ h,by simpa using hq M h⟩
 |x::xs,acc,M,h,hx,hq=>by
  obtain⟨bs,h1,h2,h3⟩:=hx x (.head _);have hx':=λy hy=>hx y (gJ x hy)
  refine⟨av _ h,?_⟩;rw[h1];refine h2 M h _ λM1 i1=>⟨λhp=>h3 hp M1 i1 _ λM2 i2=>A5 pp gg I av xs _ M2 i2 hx' λM' i'=>?_,λhp=>A5 pp gg I av xs _ M1 i1 hx' λM' i'=>?_⟩
  . have:=hq M' i'
    rw[wx hp,bF]at this;simpa using this
  . have:=hq M' i'
    rw[wy (by simp[hp])]at this
    exact this
end
section
variable {e:Env}{n:Nat}{M M' M0:RM}{Q:ak}{f:Fm}{S S':GS}{i:ay}{c:Nat}{k m p far now:Int}{v:RV}{o a b g:Addr}{E:En}{H:List (Int×Unit)}
theorem cg{κ d:Type}[DecidableEq κ]{l:List (κ×d)}{k:κ}{y:d}{x:κ×d}:x∈pt l k y↔x=(k,y)∨(x∈l/\x.1≠k):=by
 unfold pt;split
 . rename_i h
   obtain⟨w,r,e1⟩:=gL.mp h;have e1:w.1=k:=jo e1;rw[aP]
   constructor
   . rintro ⟨u,j,rfl⟩
     by_cases z:u.1=k
     . rw[ai z];exact .inl (by rw[z])
     . rw[ae z];exact .inr ⟨j,z⟩
   . rintro (rfl|⟨hx,z⟩)
     . exact⟨w,r,by rw[ai e1,e1]⟩
     . exact⟨x,hx,ae z⟩
 . rename_i h
   rw[dZ,fG]
   constructor
   . rintro (hx|rfl)
     . exact .inr ⟨hx,λz=>h (gL.mpr ⟨x,hx,d8 z⟩)⟩
     . exact .inl rfl
   . rintro (rfl|⟨hx,_⟩)
     . exact .inr rfl
     . exact .inl hx
theorem BF{κ β:Type}[DecidableEq κ]{l:List (κ×β)}{k:κ}{y:β}(nd:(l.map (·.1)).Nodup):((pt l k y).map (·.1)).Nodup:=by
 unfold pt;split
 . rw[bG]
   have:l.map ((λx:κ×β=>x.1) ∘ λkv=>if kv.1=k then(kv.1,y)else kv)=l.map (·.1):=iG λx _=>by
    show(if x.1=k then(x.1,y)else x:κ×β).1=x.1
    split<;>rfl
   rw[this];exact nd
 . rename_i h
   rw[fF];refine mC nd λz=>h ?_
   obtain⟨x,hx,e1⟩:=aP.mp z;exact gL.mpr ⟨x,hx,d8 e1⟩
structure fH(f:Fm)(c:Nat)(E:En)(H:List (Int×Unit))(S:GS):Prop where
 nd:(E.map (·.1)).Nodup
 into:∀T∈S.tl,(T.i.k,(T.m,T.ov))∈E
 back:∀x∈E,S.now<x.2.2->∃T∈S.tl,T.i.k=x.1/\T.m=x.2.1/\T.ov=x.2.2
 key:∀x∈E,∃i:ay,i.Ok/\i.k=x.1
 hr:∀x∈H,f.low<=x.1/\x.1<=f.high
 hn:(H.map (·.1)).Nodup
 l1:E.length<=c
 l2:H.length<=c
theorem Vm(h:fH f c E H S)(t:i.Ok)(l:yS f (c+1) S i S' m):fH f (c+1) (pt E i.k (m,S.now+f.t0)) (pt H m ()) S' where
 nd:=BF h.nd
 into:=λT j=>by
  rcases l.tl T j with⟨a,b,d⟩|⟨a,b⟩
  . exact cg.mpr (.inl (by rw[a,b,d]))
  . exact cg.mpr (.inr ⟨h.into T a,λz=>b (BA z)⟩)
 back:=λx hx u=>by
  rcases cg.mp hx with rfl|⟨a,b⟩
  . obtain⟨T,j,d1,r,s⟩:=l.has
    exact⟨T,j,by rw[d1],r,s⟩
  . rw[l.nw]at u
    obtain⟨T,j,d1,r,s⟩:=h.back x a u;exact⟨T,l.old T j λz=>b (by rw[<-d1,z]),d1,r,s⟩
 key:=λx hx=>by
  rcases cg.mp hx with rfl|⟨a,b⟩
  . exact⟨i,t,rfl⟩
  . exact h.key x a
 hr:=λx hx=>by
  rcases cg.mp hx with rfl|⟨a,b⟩
  . exact l.mr
  . exact h.hr x a
 hn:=BF h.hn
 l1:=cq uY (Nat.succ_le_succ h.l1)
 l2:=cq uY (Nat.succ_le_succ h.l2)
theorem S9(d:fH f c E H S)(h0:0<=k)(tl:∀T,T∈S'.tl↔T∈S.tl/\S.now+k<T.ov)(s:S'.now=S.now+k):fH f (c+1) E H S':=
 ⟨d.nd,λT h=>d.into T ((tl T).mp h).1,λx hx l=>by
  rw[s]at l;obtain⟨T,h,d1,r,j⟩:=d.back x hx (by omega)
  exact⟨T,(tl T).mpr ⟨h,by rw[j];exact l⟩,d1,r,j⟩,d.key,d.hr,d.hn,jR d.l1,jR d.l2⟩
theorem Ta(d:fH f c E H S)(tl:S'.tl=S.tl)(l:S'.now=S.now):fH f (c+1) E H S':=
 ⟨d.nd,λT h=>d.into T (tl ▸ h),λx hx j=>by rw[tl];exact d.back x hx (l ▸ j),d.key,d.hr,d.hn,jR d.l1,jR d.l2⟩
theorem uO(h:fH f c E H S)(r:Gz f c S){x:TK×(Int×Int)}:x∈ij E S.now↔∃T∈S.tl,x=(T.i.k,(T.m,T.ov)):=by
 unfold ij;rw[bB,gY]
 constructor
 . rintro ⟨hx,s⟩
   obtain⟨T,d,d1,j,l⟩:=h.back x hx s;exact⟨T,d,by rw[d1,j,l]⟩
 . rintro ⟨T,d,rfl⟩
   exact⟨h.into T d,r.lv T d⟩
end
section
variable {e:Env}{n:Nat}{M M' M0:RM}{Q:ak}{f:Fm}{S S':GS}{i:ay}{c:Nat}{k m p far now:Int}{v:RV}{o a b g:Addr}{E:En}{H:List (Int×Unit)}
abbrev Keeps(M M':RM):Prop:=∀b o,M b=some o->M' b=some o
theorem Keeps.put{x:Addr}{r:RO}(h:M x=none):Keeps M (put M x r):=λb o hb=>(ao (λz=>by rw[z,h]at hb;cases hb)).trans hb
theorem Own.keep(h:Own M o a b now E H)(hk:Keeps M M'):Own M' o a b now E H:=⟨hk _ _ h.own,hk _ _ h.ends,hk _ _ h.had⟩
noncomputable def Om:RV->Option ay
 | .tup [.str x,.int a,.int b,.int c,.int d]=>some ⟨x,a,b,c,d⟩
 |_=>none
def Bv(f:Fm)(i:ay):RV->Bool:=λy=>match Om y with
 |some j=>decide (aS f j=aS f i)
 |none=>false
def numOf(E:En):RV->RV:=λy=>match cI y with
 |some κ=>(match lk E κ with|some x=>.int x.1|none=>.aq)
 |none=>.aq
theorem yh{x:TK×(Int×Int)}(d:(E.map (·.1)).Nodup)(hx:x∈E):numOf E (cz x.1)= .int x.2.1:=by
 unfold numOf;rw[hZ];dsimp only;rw[jl d hx]
theorem XC{x y:bV}:bh (oR x) (oR y)=decide (x=y):=by
 cases x with
 |none=>cases y with
  |none=>simp[oR,bh]
  |some z=>cases z<;>simp[oR,kR,bh]
 |some u=>cases y with
  |none=>cases u<;>simp[oR,kR,bh]
  |some z=>cases u<;>cases z<;>simp only[oR,kR,bh]<;>rw[Bool.eq_iff_iff]<;>simp
theorem Jj:∀{r s:TK},eV (r.map oR) (s.map oR)=decide (r=s)
 | [],[]=>by simp[eV]
 | [],_::_=>by simp[eV]
 |_::_,[]=>by simp[eV]
 |x::r,y::s=>by
  rw[bF,bF];unfold eV;rw[XC,Jj (r:=r) (s:=s)]
  by_cases z:x=y
  . simp[z]
  . simp[z]
theorem Yr{k:Nat}{x:bV}:aF k (oR x)=true:=by
 cases x with
 |none=>cases k<;>rfl
 |some z=>cases z<;>cases k<;>rfl
theorem AW{k:Nat}:aF (k+1) (cz r)=true:=by
 show(r.map oR).all (aF k)=true;rw[List.all_map,gM];exactλx _=>Yr
theorem yP:cU .Eq (cz κ) (cz κ') M Q=Q (.bl (decide (κ=κ'))) M:=by
 show(aF 16 (cz κ)=true/\aF 16 (cz κ')=true/\Q (.bl (bh (cz κ) (cz κ'))) M)=_;rw[AW,AW,show bh (cz κ) (cz κ')=decide (κ=κ')from Jj]
 simp
theorem Bz{s:TK}(h:cI y=some s):gO Q y M (some (.dt kvs))=wO (lk kvs s) λv=>Q v M:=by
 show(match(cI y).map (lk kvs)with|some (some v)=>Q v M|_=>False)=_
 rw[h];show(match some (lk kvs s)with|some (some v)=>Q v M|_=>False)=_
 cases lk kvs s<;>rfl
theorem Own.of(d:Rz e M0 M g f c S)(w:Own M0 o a b now E H):Own M o a b now E H:=⟨d.at_ w.own,d.at_ w.ends,d.at_ w.had⟩
def BG(f:Fm)(E:En)(now:Int)(i:ay):LR:=(((ij E now).map λx=>cz x.1).filter (Bv f i)).map (numOf E)
theorem Mp(w:Own M o a b now E H)(C:(E.map (·.1)).Nodup)(I:E.length<1000)(A:∀x∈E,∃i:ay,i.Ok/\i.k=x.1)(r:f.Ok)
 (R:∀M',Keeps M M'->(tr ((P e).Gn (n+10)) zr).S D [some (.ref o),some (.ref g),some f.r,some i.r,some (.ls (BG f E now i)),z] M'):(tr ((P e).Gn (n+10)) B7).S D [some (.ref o),some (.ref g),some f.r,some i.r,none,z] M:=by
 unfold B7;rw[gb,vS];dsimp only[List.set_cons_zero,List.set_cons_succ];rw[yU];walk_at "ev";refine AL (n:=n+9) w C I ?_;rw[vi];refine⟨?_,A5 (bd:=fW false 1) (Bv f i) (numOf E) (λM'=>Keeps M M') (λ_ _=>hR) _ _ M (λ_ _ h=>h) (λx hx=>?_) λM' t=>?_⟩
 . rw[bo]
   exact mZ (fX _ _) (fq I (by decide))
 . obtain⟨y,l,rfl⟩:=aP.mp hx
   have l:=(bB.mp l).1;obtain⟨j,U,L⟩:=A y l;have F:cz y.1=j.r:=by rw[<-L];exact(ay.Cc j).symm
   refine⟨_,rfl,λM1 s K d=>?_,λ_ M1 s K d=>?_⟩
   . have d:∀M',Keeps M M'->K (decide (aS f j=aS f i)) M':=λM' t=>by
      have:=d M' t;rw[F]at this;exact this
     rw[F];walk_at "ev";refine He (n:=n+9) r λp1 N=>?_
     refine He (n:=n+9) r λp2 O=>?_
     rw[yP,eQ];exact d _ λx u hx=>(Keeps.put O) x u ((Keeps.put N) x u (s x u hx))
   . have d:=d M1 s
     rw[yh C l]at d;have J:=w.keep s;walk_at "ev";rw[J.own,qo];walk_at "ev";rw[J.ends,Bz (hZ y.1),yK,jl C l];exact d
 . rw[jU,nT]
   exact R M' t
end
section
variable {e:Env}{n:Nat}{M M' M0:RM}{Q:ak}{f:Fm}{S S':GS}{i:ay}{c:Nat}{k m p far now:Int}{v:RV}{o a b g:Addr}{E:En}{H:List (Int×Unit)}
def yJ(f:Fm)(E:En)(now:Int)(i:ay):List Int:=((ij E now).filter λx=>Bv f i (cz x.1)).map (·.2.1)
theorem Tc(d:(E.map (·.1)).Nodup):BG f E now i=(yJ f E now i).map RV.int:=by
 unfold BG yJ;rw[m9,bG,bG];refine iG λx hx=>?_
 exact yh d (bB.mp (bB.mp hx).1).1
theorem Ie(r:fH f c E H S)(l:Gz f c S){x:Int}:x∈yJ f E S.now i↔∃T∈S.tl,aS f T.i=aS f i/\T.m=x:=by
 unfold yJ;rw[aP]
 constructor
 . rintro ⟨y,s,rfl⟩
   obtain⟨d,h⟩:=bB.mp s;obtain⟨T,j,rfl⟩:=(uO r l).mp d;have h:decide (aS f T.i=aS f i)=true:=h;exact⟨T,j,jo h,rfl⟩
 . rintro ⟨T,j,d,rfl⟩
   exact⟨(T.i.k,(T.m,T.ov)),bB.mpr ⟨(uO r l).mpr ⟨T,j,rfl⟩,show decide (aS f T.i=aS f i)=true from d8 d⟩,rfl⟩
theorem Je{k:Nat}{l:List Int}:aF (k+1) (.ls (l.map RV.int))=true:=by
 show(l.map RV.int).all (aF k)=true;rw[List.all_map,gM];intro x _;cases k<;>rfl
theorem Xf{l:List Int}:cU .NotEq (.ls (l.map RV.int)) (.ls []) M Q=Q (.bl (!l.isEmpty)) M:=by
 show(aF 16 (.ls (l.map RV.int))=true/\aF 16 (.ls [])=true/\Q (.bl (!bh (.ls (l.map RV.int)) (.ls []))) M)=_;rw[Je,show aF 16 (.ls [])=true from rfl]
 cases l with
 |nil=>simp[bh,eV]
 |cons x l=>simp[bh,eV]
theorem Xh{l:List Int}:cU .Eq (.ls (l.map RV.int)) (.ls []) M Q=Q (.bl l.isEmpty) M:=by
 show(aF 16 (.ls (l.map RV.int))=true/\aF 16 (.ls [])=true/\Q (.bl (bh (.ls (l.map RV.int)) (.ls []))) M)=_;rw[Je,show aF 16 (.ls [])=true from rfl]
 cases l with
 |nil=>simp[bh,eV]
 |cons x l=>simp[bh,eV]
theorem QK{x:Int}:aA (P e) (n+1) 20 [.int x] M Q=Q (.bl true) M:=by
 rw[us (i:=20) (d:=xC) rfl];simp only[xC];walk_at "ev"
theorem Mq{l:List Int}(rz:Rz e M0 M g f c S)(tb:Tb e)(okf:f.Ok)(hw:f.high=f.low+199)(hmost:f.most=200)(oki:i.Ok)(hc:c<63)
 (hl:∀x∈l,∃T∈S.tl,aS f T.i=aS f i/\T.m=x)
 (hq:∀M' S' m,Rz e M0 M' g f (c+1) S'->yS f (c+1) S i S' m->(tr ((P e).Gn (n+10)) zq).S D [some (.ref o),some (.ref g),some f.r,some i.r,some (.ls (l.map RV.int)),some (led m)] M'):(tr ((P e).Gn (n+10)) zr).S D [some (.ref o),some (.ref g),some f.r,some i.r,some (.ls (l.map RV.int)),z] M:=by
 have e0:i.r= .tup [.str i.kind,.int i.house,.int i.door,.int i.place,.int i.far]:=rfl;obtain⟨_,_,_,hg⟩:=rz.gate;rw[e0]at hq ⊢;unfold zr;walk_at "ev";rw[hg];walk_at "ev";refine rz.out (n:=n) tb okf oki hw hmost (by omega) λM2 S' m rz2 ot=>?_
 have hq:=hq M2 S' m rz2 ot;unfold Ff led;walk_at "ev";rw[QK,eQ,ae (by simp)]
 unfold Fe;walk_at "ev";rw[Xf,eQ];cases l with
 |nil=>
  rw[ae (by simp)]
  exact hq
 |cons y l=>
  obtain⟨T,hT,h1,h2⟩:=hl y (.head _);have hy:m=y:=(ot.same T hT h1).symm.trans h2;subst hy;walk_at "ev";rw[ai (by rfl)]
  exact hq
theorem Mr{l:List Int}(w:Own M o a b now E H)(j:(E.map (·.1)).Nodup)(s:E.length<1000)(u:l= []->∀x∈ij E now,x.2.1≠m)
 (r:(tr ((P e).Gn (n+10)) zp).S D [some (.ref o),some (.ref g),some f.r,some i.r,some (.ls (l.map RV.int)),some (led m)] M):(tr ((P e).Gn (n+10)) zq).S D [some (.ref o),some (.ref g),some f.r,some i.r,some (.ls (l.map RV.int)),some (led m)] M:=by
 unfold led at r ⊢;unfold zq;walk_at "ev";rw[Xh,eQ];cases l with
 |cons y l=>
  rw[ae (by simp)]
  exact r
 |nil=>
  rw[ai (by rfl)]
  walk_at "ev";refine AL (n:=n+9) w j s ?_;rw[vi];refine⟨?_,jg (bd:=fW false 1) (λ_=>true) (numOf E) hR _ _ (λx hx=>?_) ?_⟩
  . rw[bo]
    exact mZ (fX _ _) (fq s (by decide))
  . obtain⟨y,h,rfl⟩:=aP.mp hx
    have h:=(bB.mp h).1;refine⟨_,rfl,λK d=>d,λ_ K d=>?_⟩
    rw[yh j h]at d;walk_at "ev";rw[w.own,qo];walk_at "ev";rw[w.ends,Bz (hZ y.1),yK,jl j h];exact d
  . rw[jU,nT]
    have e1:(((ij E now).map λx=>cz x.1).filter λ_=>true).map (numOf E)=((ij E now).map (·.2.1)).map RV.int:=by
     rw[qV.mpr (λ_ _=>rfl),bG,bG]
     exact iG λx hx=>yh j (bB.mp hx).1
    rw[e1,id_eq,Y8,eQ,ae]
    . exact r
    . simp only[gY]
      intro z;obtain⟨x,hx,t⟩:=aP.mp z;exact u rfl x hx t
theorem Ms{D:RD}{l:List Int}(w:Own M o a b now E H)(okf:f.Ok)(hr:f.low<=m/\m<=f.high)(l1:E.length<900)(l2:H.length<900)
 (hq:D.rt (.bl true) (put (put M a (.dt (eE (pt E i.k (m,now+f.t0))))) b (.dk (eD (pt H m ()))))):(tr ((P e).Gn (n+10)) zp).S D [some (.ref o),some (.ref g),some f.r,some i.r,some (.ls (l.map RV.int)),some (led m)] M:=by
 unfold led;unfold zp;walk_at "ev";rw[w.own,vI];have e7:∀{M:RM} {Q:ak},bI f.r (.int 7) M Q=Q (.tup [.int f.t0,.int f.t1,.int f.t2,.int f.t3]) M:=bz.trans (by rw[K6];rfl)
 have t0:∀{M:RM} {Q:ak},bI (.tup [.int f.t0,.int f.t1,.int f.t2,.int f.t3]) (.int 0) M Q=Q (.int f.t0) M:=bz.trans (by rw[yV];rfl)
 have noa:o≠a:=λz=>by have:=w.own;rw[z,w.ends]at this;cases this
 have nab:b≠a:=λz=>by have:=w.had;rw[z,w.ends]at this;cases this
 have nob:o≠b:=λz=>by have:=w.own;rw[z,w.had]at this;unfold jm eD at this;injection this with this;injection this with this;cases H with
  |nil=>cases this
  |cons x H=>injection this with h1 h2;injection h1 with h1 h3;cases h1
 rw[e7,t0];walk_at "ev";rw[w.own,qo];walk_at "ev";rw[w.ends,qw (show cI i.r=some i.k from hZ i.k)]
 refine⟨by unfold eE;rw[hO];exact fq l1 (by decide),?_⟩
 rw[show pt (eE E) i.k (RV.tup [RV.int m,RV.int (now+f.t0)])=eE (pt E i.k (m,now+f.t0))from jG (g:=id) iA (v:=pV) (y:=(m,now+f.t0))]
 unfold Fd;walk_at "ev";rw[ao noa,w.own,KS];walk_at "ev";rw[ao nab,w.had,WX];refine⟨by unfold eD;rw[hO];exact fq l2 (by decide),?_⟩
 rw[show pt (eD H) (.inl m) (RV.bl true)=eD (pt H m ())from jG (g:=Sum.inl) iV (v:=λ_=>RV.bl true) (y:=())]
 unfold Ef;walk_at "ev";rw[zV,K9,T4,ai (by simpa using hr.1)]
 walk_at "ev";rw[Cz,K9,d8 hr.2];exact hq
theorem Tw(s:Rz e M0 M g f c S)(w:Own M0 o a b S.now E H)(h:fH f c E H S)(tb:Tb e)(l:f.Ok)(O:f.high=f.low+199)(j:f.most=200)(r:i.Ok)(L:c<63)
 (N:∀M' S' A C,Rz e (put (put M0 a (.dt (eE A))) b (.dk (eD C))) M' g f (c+1) S'->fH f (c+1) A C S'->S'.now=S.now->Q (.bl true) M'):aA (P e) (n+11) 68 [.ref o,.ref g,f.r,i.r] M Q:=by
 have l1:=h.l1;have l2:=h.l2;rw[us (i:=68) (d:=xB) rfl];simp only[xB];walk_at "ev";refine Mp (w.of s) h.nd (by omega) h.key l λM1 R=>?_
 rw[Tc h.nd];refine Mq (s.grow R) tb l O j r L (λx hx=>(Ie h s.gz).mp hx) λM2 S' m t u=>?_
 have D:=w.of t;refine Mr D h.nd (by omega) (λz x hx e1=>?_) ?_
 . obtain⟨T,I,rfl⟩:=(uO h s.gz).mp hx
   refine u.new (λU J F=>?_) T I e1
   have:=(Ie h s.gz (x:=U.m)).mpr ⟨U,J,F,rfl⟩;rw[z]at this;cases this
 . refine Ms D l u.mr (by omega) (by omega) ?_
   have r1:=t.other (o':=.dt (eE (pt E i.k (m,S.now+f.t0)))) w.ends;have y:b≠a:=λz=>by have:=w.had;rw[z,w.ends]at this;cases this
   have W:=r1.other (o':=.dk (eD (pt H m ()))) ((ao y).trans w.had);exact N _ _ _ _ W (Vm h r u) u.nw
end
section
variable {e:Env}{n:Nat}{M M' M0:RM}{Q:ak}{f:Fm}{S S':GS}{i:ay}{c:Nat}{k m p far now:Int}{v:RV}{o a b g:Addr}{E:En}{H:List (Int×Unit)}
noncomputable def KR:TK->ay
 | [some (.inr k),some (.inl h),some (.inl d),some (.inl p),some (.inl q)]=>⟨k,h,d,p,q⟩
 |_=>⟨"",0,0,0,0⟩
def vE(E:En)(m:Int):RV->Bool:=λy=>match cI y with
 |some κ=>(match lk E κ with|some x=>x.1==m|none=>false)
 |none=>false
theorem HZ{x:TK×(Int×Int)}(d:(E.map (·.1)).Nodup)(hx:x∈E):vE E m (cz x.1)=(x.2.1==m):=by
 unfold vE;rw[hZ];dsimp only;rw[jl d hx]
def mL(E:En)(now m:Int):List ay:=((ij E now).filter λx=>x.2.1==m).map λx=>KR x.1
theorem Sg(j:fH f c E H S)(h:Gz f c S):i∈mL E S.now m↔∃T∈S.tl,T.i=i/\T.m=m:=by
 unfold mL;rw[aP]
 constructor
 . rintro ⟨x,hx,rfl⟩
   obtain⟨l,r⟩:=bB.mp hx;obtain⟨T,d,rfl⟩:=(uO j h).mp l;exact⟨T,d,rfl,by simpa using r⟩
 . rintro ⟨T,d,rfl,rfl⟩
   exact⟨(T.i.k,(T.m,T.ov)),bB.mpr ⟨(uO j h).mpr ⟨T,d,rfl⟩,by simp⟩,rfl⟩
theorem Cv{A C s pr t:RV}(w:Own M o a b now E H)(l:(E.map (·.1)).Nodup)(u:E.length<1000)(r:∀x∈E,∃i:ay,i.Ok/\i.k=x.1)
 (I:(tr ((P e).Gn (n+10)) vY).S D [some (.ref o),some (.ref g),some f.r,some A,some pr,some t,some (.int m),some C,some s,some (.ls ((mL E now m).map ay.r)),z10,z11] M):
 (tr ((P e).Gn (n+10)) B4).S D [some (.ref o),some (.ref g),some f.r,some A,some pr,some t,some (.int m),some C,some s,z,z10,z11] M:=by
 unfold B4;rw[gb,vS];dsimp only[List.set_cons_zero,List.set_cons_succ];rw[yU];walk_at "ev";refine AL (n:=n+9) w l u ?_;rw[vi];refine⟨?_,jg (bd:=fW false 1) (vE E m) (λx=>x) hR _ _ (λx hx=>?_) ?_⟩
 . rw[bo]
   exact mZ (fX _ _) (fq u (by decide))
 . obtain⟨y,h,rfl⟩:=aP.mp hx
   have h:=(bB.mp h).1;refine⟨_,rfl,λK d=>?_,λ_ K d=>d⟩
   rw[HZ l h]at d;walk_at "ev";rw[w.own,qo];walk_at "ev";rw[w.ends,Bz (hZ y.1),yK,jl l h];show cU .Eq (.int y.2.1) (.int m) M (kB K);rw[Ke,eQ];exact d
 . rw[jU,nT,List.map_id']
   have e1:((ij E now).map λx=>cz x.1).filter (vE E m)=(mL E now m).map ay.r:=by
    unfold mL;rw[m9,bG];have:(ij E now).filter ((vE E m) ∘ λx=>cz x.1)=(ij E now).filter λx=>x.2.1==m:=kh λx hx=>HZ l (bB.mp hx).1
    rw[this];refine iG λx hx=>?_
    obtain⟨j,_,F⟩:=r x (bB.mp (bB.mp hx).1).1;show cz x.1=(KR x.1).r;rw[<-F];rfl
   rw[e1,id_eq];exact I
theorem IT{k:Nat}{l:List ay}:aF (k+2) (.ls (l.map ay.r))=true:=by
 show(l.map ay.r).all (aF (k+1))=true;rw[List.all_map,gM];intro x _;exact AW (r:=x.k)
theorem vh{l:List ay}:cU .Eq (.ls (l.map ay.r)) (.ls []) M Q=Q (.bl l.isEmpty) M:=by
 show(aF 16 (.ls (l.map ay.r))=true/\aF 16 (.ls [])=true/\Q (.bl (bh (.ls (l.map ay.r)) (.ls []))) M)=_;rw[IT,show aF 16 (.ls [])=true from rfl]
 cases l with
 |nil=>simp[bh,eV]
 |cons x l=>simp[bh,eV]
theorem Xg{l:List ay}:cU .NotEq (.ls (l.map ay.r)) (.ls []) M Q=Q (.bl (!l.isEmpty)) M:=by
 show(aF 16 (.ls (l.map ay.r))=true/\aF 16 (.ls [])=true/\Q (.bl (!bh (.ls (l.map ay.r)) (.ls []))) M)=_;rw[IT,show aF 16 (.ls [])=true from rfl]
 cases l with
 |nil=>simp[bh,eV]
 |cons x l=>simp[bh,eV]
def iF(p far:Int)(l:List ay):List ay:=l.filter λi=>decide (i.place=p/\i.far=far)
def qX(p:Int)(l:List ay):List ay:=l.filter λi=>i.place==p
noncomputable def B0(p far:Int):RV->Bool
 | .tup [_,_,_,.int a,.int b]=>decide (a=p/\b=far)
 |_=>false
noncomputable def zY(p:Int):RV->Bool
 | .tup [_,_,_,.int a,_]=>a==p
 |_=>false
theorem Zs{x y:Int}:cU .Eq (.tup [.int x,.int y]) (.tup [.int p,.int far]) M Q=Q (.bl (decide (x=p/\y=far))) M:=by
 have:=yP (M:=M) (Q:=Q) (κ:=[some (.inl x),some (.inl y)]) (κ':=[some (.inl p),some (.inl far)]);rw[show(decide (([some (.inl x),some (.inl y)]:TK)= [some (.inl p),some (.inl far)]))=decide (x=p/\y=far)from oT.mpr (by simp)]at this
 exact this
end
section
variable {e:Env}{n:Nat}{M M' M0:RM}{Q:ak}{f:Fm}{S S':GS}{i:ay}{c:Nat}{k m p far now:Int}{v:RV}{o a b g:Addr}{E:En}{H:List (Int×Unit)}
theorem U5:B0 p far i.r=decide (i.place=p/\i.far=far):=rfl
theorem Wv:zY p i.r=(i.place==p):=rfl
theorem Ox:gy [.str i.kind,.int i.house,.int i.door,.int i.place,.int i.far] (some 3) none= [.int i.place,.int i.far]:=rfl
theorem Jn{l:List ay}{K:ak}(hs:s3= .cm .Eq (.sl (.v 0) (.p1 (.i 3)) .p0) (.tu (.ec (.v 1) (.ec (.v 2) .e0))))(d:K (.ls ((iF p far l).map ay.r)) M):
 gr (fW false 1) false eM id (tr ((P e).Gn n) s3).T (tr ((P e).Gn n) (.v 0)).E [some (.int p),some (.int far)] (l.map ay.r) [] M K:=by
 subst hs;refine jg (bd:=fW false 1) (B0 p far) (λx=>x) hR _ _ (λx hx=>?_) ?_
 . obtain⟨j,h,rfl⟩:=aP.mp hx
   refine⟨_,rfl,λK d=>?_,λ_ K d=>d⟩
   rw[U5]at d;have e0:j.r= .tup [.str j.kind,.int j.house,.int j.door,.int j.place,.int j.far]:=rfl;rw[e0];walk_at "ev";rw[Ox,Zs,eQ];exact d
 . rw[jU,nT,List.map_id']
   have e1:(l.map ay.r).filter (B0 p far)=(iF p far l).map ay.r:=by
    unfold iF;rw[m9];rfl
   rw[e1];exact d
theorem Xe{l:List ay}{K:ak}(d:K (.ls ((qX p l).map ay.r)) M):
 gr (fW false 1) false eM id (tr ((P e).Gn n) (.cm .Eq (.ix (.v 0) (.i 3)) (.v 1))).T (tr ((P e).Gn n) (.v 0)).E [some (.int p)] (l.map ay.r) [] M K:=by
 refine jg (bd:=fW false 1) (zY p) (λx=>x) hR _ _ (λx hx=>?_) ?_
 . obtain⟨j,h,rfl⟩:=aP.mp hx
   refine⟨_,rfl,λK d=>?_,λ_ K d=>d⟩
   rw[Wv]at d;have e0:j.r= .tup [.str j.kind,.int j.house,.int j.door,.int j.place,.int j.far]:=rfl;rw[e0];walk_at "ev";exact d
 . rw[jU,nT,List.map_id']
   have e1:(l.map ay.r).filter (zY p)=(qX p l).map ay.r:=by
    unfold qX;rw[m9];rfl
   rw[e1];exact d
noncomputable def jH (f:Fm)(p far:Int)(l:List ay):List ay:=if((iF p far l).isEmpty&&f.sieve== "place")=true then qX p l else if(f.sieve== "all")=true then l else iF p far l
theorem Mt{l:List ay}(t:l.length<1000)
 (d:(tr ((P e).Gn (n+10)) zo).S D [some (.ref o),some (.ref g),some f.r,some kd,some (.int p),some (.int far),some (.int m),some wd,some fd,some (.ls (l.map ay.r)),some (.ls ((jH f p far l).map ay.r)),z11] M):
 (tr ((P e).Gn (n+10)) B3).S D [some (.ref o),some (.ref g),some f.r,some kd,some (.int p),some (.int far),some (.int m),some wd,some fd,some (.ls (l.map ay.r)),z,z11] M:=by
 have h:(l.map ay.r).length<sizeLine:=by rw[bo];exact fq t (by decide)
 unfold B3;rw[gb,vS];dsimp only[List.set_cons_zero,List.set_cons_succ];rw[yU];walk_at "ev";refine⟨h,Jn rfl ?_⟩;unfold Ee;walk_at "ev";rw[vh,eQ];unfold jH at d
 by_cases j:(iF p far l).isEmpty=true
 . rw[ai j,xb,Br,eQ]
   by_cases s:(f.sieve== "place")=true
   . rw[ai s]
     refine⟨h,Xe ?_⟩;rw[j,s,ai (by rfl)]at d
     exact d
   . rw[ae s,xb,Br,eQ]
     rw[ae (by rw[j];simpa using s)]at d
     by_cases r:(f.sieve== "all")=true
     . rw[ai r]at d ⊢;exact d
     . rw[ae r]at d ⊢;exact d
 . rw[ae j,xb,Br,eQ]
   rw[ae (by simp[j])]at d
   by_cases r:(f.sieve== "all")=true
   . rw[ai r]at d ⊢;exact d
   . rw[ae r]at d ⊢;exact d
theorem R1(mi:fH f c E H S)(gz:Gz f c S){l:List ay}(hl:∀i,i∈l↔∃T∈S.tl,T.i=i/\T.m=m)(hi:i∈l):S.cw f m p far=if(jH f p far l).isEmpty=true then kept "sieve" else pR i.house i.door:=by
 obtain⟨T,hT,rfl,hm⟩:=(hl i).mp hi;rw[SR gz hT hm];have eq:(meets S m p far||(f.sieve== "all" ||(f.sieve== "place" &&S.eZ m p)))= !(jH f p far l).isEmpty:=by
  have a1:meets S m p far= !(iF p far l).isEmpty:=by
   rw[Bool.eq_iff_iff];unfold meets iF;rw[gL,jT,List.isEmpty_eq_false_iff_exists_mem]
   constructor
   . rintro ⟨U,hU,z⟩
     have z:=jo z;exact⟨U.i,bB.mpr ⟨(hl U.i).mpr ⟨U,hU,rfl,z.1⟩,d8 z.2⟩⟩
   . rintro ⟨j,hj⟩
     obtain⟨h1,h2⟩:=bB.mp hj;obtain⟨U,hU,rfl,z⟩:=(hl j).mp h1;exact⟨U,hU,d8 ⟨z,jo h2⟩⟩
  have a2:S.eZ m p= !(qX p l).isEmpty:=by
   rw[Bool.eq_iff_iff];unfold GS.eZ qX;rw[gL,jT,List.isEmpty_eq_false_iff_exists_mem]
   constructor
   . rintro ⟨U,hU,z⟩
     obtain⟨h1,h2⟩:=bB.mp hU;exact⟨U.i,bB.mpr ⟨(hl U.i).mpr ⟨U,h1,rfl,jo h2⟩,z⟩⟩
   . rintro ⟨j,hj⟩
     obtain⟨h1,h2⟩:=bB.mp hj;obtain⟨U,hU,rfl,z⟩:=(hl j).mp h1;exact⟨U,bB.mpr ⟨hU,d8 z⟩,h2⟩
  have a3:l.isEmpty=false:=by cases l with|nil=>cases hi|cons _ _=>rfl
  rw[a1,a2];unfold jH;cases z1:(iF p far l).isEmpty with
  |true=>
   by_cases z2:(f.sieve== "place")=true
   . have z3:(f.sieve== "all")=false:=by
      have:f.sieve= "place":=by simpa using z2
      rw[this];decide
     simp[z2,z3]
   . have z2:(f.sieve== "place")=false:=by simpa using z2
     cases z3:(f.sieve== "all")<;>simp[z2,z1,a3]
  |false=>cases z3:(f.sieve== "all")<;>simp[z1,a3]
 rw[eq];cases(jH f p far l).isEmpty<;>rfl
end
section
variable {e:Env}{n:Nat}{M M' M0:RM}{Q:ak}{f:Fm}{S S':GS}{i j:ay}{c:Nat}{k m p far now:Int}{v:RV}{o a b g:Addr}{E:En}{H:List (Int×Unit)}
theorem GR(d:fH f c E H S)(ct:yE f (c+1) S m p far S')(no:∀U∈S.tl,¬(f.renew=true/\U.m=m/\U.i.place=p/\U.i.far=far)):fH f (c+1) E H S':=
 ⟨d.nd,λT t=>by
  obtain⟨U,l,r,s,h⟩:=ct.tl T t;rw[ae (no U l)]at h;rw[r,s,h];exact d.into U l,λx hx u=>by
  rw[ct.nw]at u;obtain⟨U,l,d1,w,y⟩:=d.back x hx u;obtain⟨T,t,r,s,h⟩:=ct.old U l;rw[ae (no U l)]at h;exact⟨T,t,by rw[r,d1],by rw[s,w],by rw[h,y]⟩,d.key,d.hr,d.hn,jR d.l1,jR d.l2⟩
theorem Sf(l:fH f c E H S)(C:Gz f c S)(ct:yE f (c+1) S m p far S')(hr:f.renew=true){V:Tk}(u:V∈S.tl)(F:V.m=m)(vp:V.i.place=p/\V.i.far=far):fH f (c+1) (pt E V.i.k (m,S.now+f.t0)) H S':=by
 have d:∀U∈S.tl,(f.renew=true/\U.m=m/\U.i.place=p/\U.i.far=far)↔U.i=V.i:=λU h=>by
  constructor
  . intro z
    have ho:bx U.i=bx V.i:=((uQ (C.nt U h).1).mpr z.2.2).trans ((uQ (C.nt V u).1).mpr vp).symm;exact xT (Av C h u (z.2.1.trans F.symm)) ho
  . intro z
    have:U=V:=fg C.ok.d1 h u (by show U.i.k=V.i.k;rw[z])
    rw[this];exact⟨hr,F,vp⟩
 refine⟨BF l.nd,λT t=>?_,λx hx J=>?_,λx hx=>?_,l.hr,l.hn,cq uY (Nat.succ_le_succ l.l1),jR l.l2⟩
 . obtain⟨U,h,r,s,D⟩:=ct.tl T t
   by_cases z:U.i=V.i
   . have y:=(d U h).mpr z
     rw[ai y]at D;exact cg.mpr (.inl (by rw[r,z,s,y.2.1,D]))
   . rw[ae λy=>z ((d U h).mp y)]at D
     rw[r,s,D];exact cg.mpr (.inr ⟨l.into U h,λy=>z (BA y)⟩)
 . rcases cg.mp hx with rfl|⟨r,s⟩
   . obtain⟨T,t,d1,I,A⟩:=ct.old V u
     rw[ai ⟨hr,F,vp⟩]at A;exact⟨T,t,by rw[d1],by rw[I,F],A⟩
   . rw[ct.nw]at J
     obtain⟨U,h,d1,I,A⟩:=l.back x r J;obtain⟨T,t,O,R,L⟩:=ct.old U h;rw[ae λy=>s (by rw[<-d1,(d U h).mp y])]at L
     exact⟨T,t,by rw[O,d1],by rw[R,I],by rw[L,A]⟩
 . rcases cg.mp hx with rfl|⟨r,s⟩
   . obtain⟨w,N,e1⟩:=l.key _ (l.into V u)
     exact⟨w,N,e1⟩
   . exact l.key x r
theorem Pa{x y:T}{K:Bool->RM->Prop}:(tr Γ (.ix x y)).T σ M K=(tr Γ (.ix x y)).E σ M (kB K):=rfl
theorem yC{x y:Str}:cU .Eq (kept x) (.tup [.str "kept",.str y]) M Q=Q (.bl (x==y)) M:=by
 have:=yP (M:=M) (Q:=Q) (κ:=[some (.inr "kept"),some (.inr x)]) (κ':=[some (.inr "kept"),some (.inr y)]);rw[show(decide (([some (.inr "kept"),some (.inr x)]:TK)= [some (.inr "kept"),some (.inr y)]))=(x==y)from by rw[Bool.eq_iff_iff];simp]at this
 exact this
theorem Zv{x y:Int}:cU .Eq (pR x y) (.tup [.str "in",.int x,.int y]) M Q=Q (.bl true) M:=by
 have:=yP (M:=M) (Q:=Q) (κ:=[some (.inr "in"),some (.inl x),some (.inl y)]) (κ':=[some (.inr "in"),some (.inl x),some (.inl y)]);rw[d8 rfl]at this;exact this
theorem Mu{D:RD}{l:List ay}(w:Own M o a b now E H)(C:l.length<1000)(l1:E.length<900)(h:fd=if(jH f p far (j::l)).isEmpty=true then kept "sieve" else pR j.house j.door)
 (h0:(f.renew=true->iF p far (j::l)= [])->D.rt (.bl true) M)
 (t:∀x∈iF p far (j::l),f.renew=true->D.rt (.bl true) (put M a (.dt (eE (pt E x.k (m,now+f.t0)))))):
 (tr ((P e).Gn (n+10)) zo).S D [some (.ref o),some (.ref g),some f.r,some (.str "note"),some (.int p),some (.int far),some (.int m),some wd,some fd,some (.ls ((j::l).map ay.r)),some (.ls ((jH f p far (j::l)).map ay.r)),z11] M:=by
 unfold zo;walk_at "ev";rw[vh,eQ]
 by_cases z:(jH f p far (j::l)).isEmpty=true
 . rw[ai z]at h ⊢
   rw[h,yC,show(("sieve":Str)== "sieve")=true from by decide]
   refine h0 λ_=>?_
   unfold jH at z;cases q:iF p far (j::l)with
   |nil=>rfl
   |cons x r=>
    rw[q,ae (by simp)]at z
    split at z<;>simp at z
 . rw[ae z]at h ⊢
   have e0:j.r= .tup [.str j.kind,.int j.house,.int j.door,.int j.place,.int j.far]:=rfl;have d:∀(M':RM) (y:Option RV),D.rt (.bl true) M'->(tr ((P e).Gn (n+10)) B2).S D [some (.ref o),some (.ref g),some f.r,some (.str "note"),some (.int p),some (.int far),some (.int m),some wd,some fd,some (.ls (j.r::l.map ay.r)),some (.ls ((jH f p far (j::l)).map ay.r)),y] M':=λM' y A=>by
    unfold B2;rw[e0];walk_at "ev";rw[h,Zv];exact A
   unfold Ed;rw[gb,vS];dsimp only[List.set_cons_zero,List.set_cons_succ];rw[yU];walk_at "ev";refine⟨by rw[bo];exact mZ (Nat.succ_le_of_lt C) (by decide),?_⟩
   refine Jn (l:=j::l) rfl ?_;unfold Ec;walk_at "ev";rw[Pa];walk_at "ev";rw[CA,eQ]
   by_cases s:f.renew=true
   . rw[ai s,Xg,eQ]
     cases q:iF p far (j::l)with
     |nil=>
      rw[ae (by simp)]
      exact d _ _ (h0 λ_=>q)
     |cons x r=>
      rw[ai (by rfl)]
      have t:=t x (by rw[q];exact .head _) s
      have u:∀{M:RM} {Q:ak},bI f.r (.int 7) M Q=Q (.tup [.int f.t0,.int f.t1,.int f.t2,.int f.t3]) M:=bz.trans (by rw[K6];rfl)
      have t0:∀{M:RM} {Q:ak},bI (.tup [.int f.t0,.int f.t1,.int f.t2,.int f.t3]) (.int 0) M Q=Q (.int f.t0) M:=bz.trans (by rw[yV];rfl)
      walk_at "ev";rw[w.own,vI,u,t0];walk_at "ev";rw[w.own,qo];walk_at "ev";rw[w.ends,qw (show cI x.r=some x.k from hZ x.k)]
      refine⟨by unfold eE;rw[hO];exact fq l1 (by decide),?_⟩
      rw[show pt (eE E) x.k (RV.tup [RV.int m,RV.int (now+f.t0)])=eE (pt E x.k (m,now+f.t0))from jG (g:=id) iA (v:=pV) (y:=(m,now+f.t0))]
      walk_at "ev";exact d _ _ t
   . rw[ae s]
     exact d _ _ (h0 λy=>aW y s)
theorem UL{kl:Bool}(rz:Rz e M0 M g f c S)(w:Own M0 o a b S.now E H)(mi:fH f c E H S)(tb:Tb e)(okf:f.Ok)(m1:f.low<=m)(m2:m<=f.high)(hp:1<=p/\p<=1000000)(hf:1<=far/\far<=9999)(hc:c<63)
 (hq:∀M' S' E',Rz e (put M0 a (.dt (eE E'))) M' g f (c+1) S'->fH f (c+1) E' H S'->S'.now=S.now->Q (.bl true) M'):aA (P e) (n+11) 73 [.ref o,.ref g,f.r,.str (if kl then "line" else "note"),.int p,.int far,.int m] M Q:=by
 have l1:=mi.l1;have l2:=mi.l2;obtain⟨_,_,_,hg⟩:=rz.gate;have same:put M0 a (.dt (eE E))=M0:=rF w.ends;have len:∀{l:List ay},mL E S.now m=l->l.length<=c:=λ{l} z=>by
  rw[<-z];unfold mL ij;rw[bo];exact cq (fX _ _) (cq (fX _ _) l1)
 rw[us (i:=73) (d:=xx) rfl];simp only[xx];walk_at "ev";cases kl with
 |true=>
  rw[ai rfl];unfold B6;walk_at "ev";rw[show(("line":Str)== "note")=false from by decide,ae (by simp)]
  unfold B5;walk_at "ev";rw[hg];walk_at "ev";refine rz.ju (n:=n+3) tb okf m1 m2 hp hf (by omega) λM2 S' rz2 t1 t2=>?_
  refine Cv (w.of rz2) mi.nd (by omega) mi.key ?_
  have fin:Q (.bl true) M2:=hq M2 S' E (by rw[same];exact rz2) (Ta mi t1 t2) t2
  unfold vY;walk_at "ev";rw[vh,eQ]
  by_cases z:(mL E S.now m).isEmpty=true
  . rw[ai z,yC];exact fin
  . rw[ae z,yC];exact fin
 |false=>
  rw[ae (by simp)]
  unfold B6;walk_at "ev";unfold B5;walk_at "ev";rw[hg];walk_at "ev";refine rz.come (n:=n+3) tb okf m1 m2 hp hf (by omega) λM2 S' rz2 ct=>?_
  have w2:=w.of rz2;refine Cv w2 mi.nd (by omega) mi.key ?_
  have hl:=λi=>Sg (i:=i) (m:=m) mi rz.gz
  cases q:mL E S.now m with
  |nil=>
   have no:∀T∈S.tl,T.m≠m:=λT hT z=>by
    have:=(hl T.i).mpr ⟨T,hT,rfl,z⟩;rw[q]at this;cases this
   have fin:Q (.bl true) M2:=hq M2 S' E (by rw[same];exact rz2) (GR mi ct λU hU z=>no U hU z.2.1) ct.nw
   unfold vY;walk_at "ev";have c0:∀{K:ak},cU .Eq (.ls []) (.ls []) M2 K=K (.bl true) M2:=vh (l:=[]);rw[c0,eQ,ai rfl,(SS rz.gz no).1,yC];exact fin
  |cons j l=>
   rw[q]at hl;have ll:=len q;rw[cY]at ll;unfold vY;walk_at "ev";rw[<-bF (f:=ay.r),vh,eQ,ae (by simp),show(("note":Str)== "line")=false from by decide,ae (by simp)]
   refine Mt (l:=j::l) (by rw[cY];omega) ?_
   refine Mu w2 (by omega) (by omega) (R1 mi rz.gz hl (.head _)) (λno=>?_) λx hx hr=>?_
   . refine hq M2 S' E (by rw[same];exact rz2) (GR mi ct λU hU z=>?_) ct.nw
     have:U.i∈iF p far (j::l):=bB.mpr ⟨(hl U.i).mpr ⟨U,hU,rfl,z.2.1⟩,d8 z.2.2⟩;rw[no z.1]at this;cases this
   . obtain⟨h1,h2⟩:=bB.mp hx
     obtain⟨V,hV,rfl,vm⟩:=(hl x).mp h1;exact hq _ S' _ (rz2.other w.ends) (Sf mi rz.gz ct hr hV vm (jo h2)) ct.nw
end
section
variable {e:Env}{n:Nat}{M:RM}{Q:ak}
theorem TB{x:Addr}{g:cE}(hx:M x=some g.l)(ok:g.In k)(hk:k<800000)(hq:∀f g',Fm.Ok f->f.high=f.low+199->f.most=200->cE.In g' (k+10)->Q f.r (put M x g'.l)):aA (P e) (n+3) 21 [.ref x] M Q:=by
 rw[us (i:=21) (d:=xG) rfl];simp only[xG];walk_at "ev";unfold FI;rw[gb,iC];dsimp only[List.set_cons_zero,List.set_cons_succ];walk_at "ev";refine gH (n:=n+1) hx ok (by omega) (by decide) (by decide) λv1 g1 a1 b1 ok1=>?_
 obtain⟨le,hle,ey⟩:=BV ["door","place","talk"] a1 b1
 change ∀{M:RM} {Q:ak},bI (.ls [.str "door",.str "place",.str "talk"]) _ M Q=_ at ey
 rw[ey];unfold FH;rw[gb,iC];dsimp only[List.set_cons_zero,List.set_cons_succ];walk_at "ev";refine gH (n:=n+1) bw ok1 (by omega) (by decide) (by decide) λv2 g2 a2 b2 ok2=>?_
 obtain⟨si,hsi,ey⟩:=BV ["all","place","talk"] a2 b2
 change ∀{M:RM} {Q:ak},bI (.ls [.str "all",.str "place",.str "talk"]) _ M Q=_ at ey
 rw[ey];rw[gq];refine VZ (n:=n) bw ok2 (by omega) (by simpa using hle) (by simpa using hsi) λf g3 okf hw hm ok3=>?_
 unfold FG;rw[gq];have e0:f.r= .tup [.int f.low,.int f.high,.str f.lend,.str f.sieve,.str f.pick,.int f.most,.bl f.renew,.tup [.int f.t0,.int f.t1,.int f.t2,.int f.t3]]:=rfl;rw[e0];walk_at "ev";refine gH (n:=n+1) bw ok3 (by omega) (by decide) (by decide) λv3 g4 a4 b4 ok4=>?_
 rw[qp];refine⟨show 4<=sizeLine by decide,show 8<=sizeLine by decide,?_⟩
 rw[gq];have t0:=okf.t0;exact hq { f with t0:=1+v3 } g4 ⟨okf.lo,okf.le,okf.hi,okf.wide,okf.lend,okf.sieve,okf.pick,okf.most,⟨by show 1<=1+v3;omega,by show 1+v3<=1000000;omega⟩,okf.t1,okf.t2,okf.t3⟩ hw hm ⟨ok4.a,ok4.b,ok4.c.1,by have:=ok4.c.2;omega⟩
def vH(y:RV):Prop:=∃h d:Int,y= .tup [.str "note",.int h,.int d]/\(0<=h/\h<=99)/\(1<=d/\d<=9999)
theorem RI{x:Addr}{g:cE}(hx:M x=some g.l)(ok:g.In k)(hk:k<800000)
 (hq:∀(ds:LR) (ps fs:LR) g',ds.length=3->(∀y∈ds,vH y)->ps.length=3->jP 1 1000000 ps->fs.length=3->jP 1 9999 fs->cE.In g' (k+12)->Q (.tup [.ls ds,.ls ps,.ls fs]) (put M x g'.l)):aA (P e) (n+2) 23 [.ref x] M Q:=by
 rw[us (i:=23) (d:=xD) rfl];simp only[xD];walk_at "ev";unfold FF;rw[gb,vS];dsimp only[List.set_cons_zero,List.set_cons_succ];walk_at "ev";refine⟨by decide,by decide,by decide,?_⟩
 refine Ig (λacc M'=>(∀y∈acc,vH y)/\∃g':cE,M'=put M x g'.l/\g'.In (k+2*acc.length)) (λσ M K h=>h) (λ_ _ _=>hR) _ _ _ ⟨gK _,g,(rF hx).symm,by show g.In (k+2*0);exact⟨ok.a,ok.b,ok.c.1,by have:=ok.c.2;omega⟩⟩ (λy hy acc M' hlt h=>?_) λacc' M' hl h=>?_
 . obtain⟨h1,g',rfl,h3⟩:=h
   refine⟨[y],rfl,λK hK=>?_⟩
   show(tr ((P e).Gn (n+1)) _).E [some y,some (.ref x)] _ K;have hlt:acc.length<3:=hlt;walk_at "ev";refine gH (n:=n) bw h3 (by omega) (by decide) (by decide) λv1 g1 a1 b1 o1=>?_
   rw[gq];refine gH (n:=n) bw o1 (by omega) (by decide) (by decide) λv2 g2 a2 b2 o2=>?_
   rw[gq,qp];refine hK _ _ ⟨λz hz=>?_,g2,rfl,⟨o2.a,o2.b,o2.c.1,by have:=o2.c.2;rw[eF];show g2.c<=k+2*((acc.length+1:Nat):Int);omega⟩⟩
   rcases dZ.mp hz with q|q
   . exact h1 z q
   . cases fG.mp q;exact⟨v1,1+v2,rfl,⟨a1,by omega⟩,by omega,by omega⟩
 . obtain⟨h1,g',rfl,h3⟩:=h
   have hl:acc'.length=3:=hl;rw[hl]at h3;have h3:g'.In (k+6):=h3;rw[nT,id_eq];unfold FE;rw[gb,iC];dsimp only[List.set_cons_zero,List.set_cons_succ];walk_at "ev";refine gH (n:=n) bw h3 (by omega) (by decide) (by decide) λv1 g1 a1 b1 o1=>?_
   rw[gq];walk_at "ev";unfold FC;rw[gb,iC];dsimp only[List.set_cons_zero,List.set_cons_succ];walk_at "ev";refine gH (n:=n) bw o1 (by omega) (by decide) (by decide) λv2 g2 a2 b2 o2=>?_
   rw[gq];walk_at "ev";unfold Fy;walk_at "ev";refine gH (n:=n) bw o2 (by omega) (by decide) (by decide) λv3 g3 a3 b3 o3=>?_
   rw[gq];walk_at "ev";refine gH (n:=n) bw o3 (by omega) (by decide) (by decide) λv4 g4 a4 b4 o4=>?_
   rw[gq];walk_at "ev";exact hq acc' [.int (1+v1),.int (1+v1+1),.int (1+v3)] [.int (1+v2),.int (1+v2+1),.int (1+v4)] g4 hl h1 rfl (by simp only[jP];omega) rfl (by simp only[jP];omega) ⟨o4.a,o4.b,o4.c.1,by have:=o4.c.2;omega⟩
end
section
variable {e:Env}{n:Nat}{M M' M0:RM}{Q:ak}{f:Fm}{S S':GS}{i j:ay}{c:Nat}{k m p far now:Int}{v:RV}{o a b g:Addr}{E:En}{H:List (Int×Unit)}
structure Tn(e:Env)(M0 M:RM)(g o a b:Addr)(f:Fm)(c:Nat)(S:GS)(E:En)(H:List (Int×Unit)):Prop where
 rz:Rz e M0 M g f c S
 w:Own M0 o a b S.now E H
 mi:fH f c E H S
 lp:M0 e.lP=some (cW e)
theorem Tn.new{x:Addr}(h:Tn e M0 M g o a b f c S E H)(hx:M x=none):Tn e (put M0 x r) (put M x r) g o a b f c S E H:=by
 have d:∀y u,M0 y=some u->y≠x:=λy u l z=>by have:=h.rz.at_ l;rw[z,hx]at this;cases this
 exact⟨h.rz.new hx,⟨(ao (d _ _ h.w.own)).trans h.w.own,(ao (d _ _ h.w.ends)).trans h.w.ends,(ao (d _ _ h.w.had)).trans h.w.had⟩,h.mi,(ao (d _ _ h.lp)).trans h.lp⟩
theorem Tn.bag{x:Addr}{l d:cE}(h:Tn e M0 M g o a b f c S E H)(hx:M0 x=some l.l):Tn e (put M0 x d.l) (put M x d.l) g o a b f c S E H:=by
 have r:o≠x:=λz=>by have:=h.w.own;rw[z,hx]at this;cases this
 have s:a≠x:=λz=>by have:=h.w.ends;rw[z,hx]at this;cases this
 have t:b≠x:=λz=>by have:=h.w.had;rw[z,hx]at this;cases this
 have u:e.lP≠x:=λz=>by have:=h.lp;rw[z,hx]at this;cases this
 exact⟨h.rz.other hx,⟨(ao r).trans h.w.own,(ao s).trans h.w.ends,(ao t).trans h.w.had⟩,h.mi,(ao u).trans h.lp⟩
theorem Tn.draw{x:Addr}{s:cE}{q:Int}(h:Tn e M0 M g o a b f c S E H)(hx:M0 x=some s.l)(A:s.In q)(hk:q<999999)(w:0<m)(r:m<1073741824)
 (y:∀v l d M',0<=v->v<m->cE.In l (q+1)->Tn e d M' g o a b f c S E H->d x=some l.l->Q (.int v) M'):aA (P e) (n+1) 45 [.ref x,.int m] M Q:=
 gH (h.rz.at_ hx) A hk w r λv l t u z=>y v l _ _ t u z (h.bag hx) bw
end
section
variable {e:Env}{n:Nat}{M M' M0:RM}{Q:ak}{f:Fm}{S S':GS}{i j:ay}{c:Nat}{k m p far now:Int}{v:RV}{o a b g:Addr}{E:En}{H:List (Int×Unit)}
theorem Xc{sc:RV}{xs:List Int}{ds ps fs:LR}(h:Tn e M0 M g o a b f c S E H)(h0:0<=k)(hk:k<1000)(hx:0<xs.length)(hl:xs.length<1000)(lp:ps.length=3)(ap:jP 1 1000000 ps)(lf:fs.length=3)(af:jP 1 9999 fs)(hc:c<62)
 (hq:∀M0 M x (g1:cE) (way p far:Int) (ns:List Int) (vv:Int),Tn e M0 M g o a b f c S E H->M0 x=some (cE.l g1)->g1.In 10->(1<=p/\p<=1000000)->(1<=far/\far<=9999)->(ns.Perm (H.map (·.1)))->(0<=vv/\vv<200)->
  (tr ((P e).Gn (n+12)) yD).S D [some sc,some f.r,some (.ref g),some (.ref o),some (.ls (xs.map RV.int)),some (.int k),some (.ls ds),some (.ls ps),some (.ls fs),some (.ref x),some (.int way),some (.int p),some (.int far),some (.ls (ns.map RV.int++ [.int (f.low+vv)])),z14,z15] M):
 (tr ((P e).Gn (n+12)) Bn).S D [some sc,some f.r,some (.ref g),some (.ref o),some (.ls (xs.map RV.int)),some (.int k),some (.ls ds),some (.ls ps),some (.ls fs),z9,z10,z11,z12,z13,z14,z15] M:=by
 unfold Bn;rw[gb,iC];dsimp only[List.set_cons_zero,List.set_cons_succ];walk_at "ev";refine Tz (n:=n+10) h0 hk hx hl λx g1 hxn ok=>?_
 have h:=h.new (r:=g1.l) hxn;unfold J5;rw[gb,iC];dsimp only[List.set_cons_zero,List.set_cons_succ];walk_at "ev";refine h.draw (n:=n+11) bw ok (by decide) (by decide) (by decide) λway g2 M1 M2 _ _ ok2 h hb=>?_
 unfold J4;rw[gb,iC];dsimp only[List.set_cons_zero,List.set_cons_succ];walk_at "ev";refine h.draw (n:=n+11) hb ok2 (by decide) (by decide) (by decide) λv1 g3 M3 M4 a1 b1 ok3 h hb=>?_
 obtain⟨p,hp,ey⟩:=EH 1 1000000 (xs:=ps) a1 (by rw[lp];exact b1) ap
 rw[ey];unfold J3;rw[gb,iC];dsimp only[List.set_cons_zero,List.set_cons_succ];walk_at "ev";refine h.draw (n:=n+11) hb ok3 (by decide) (by decide) (by decide) λv2 g4 M5 M6 a2 b2 ok4 h hb=>?_
 obtain⟨far,hf,ey⟩:=EH 1 9999 (xs:=fs) a2 (by rw[lf];exact b2) af
 rw[ey];unfold J2;rw[gb,iC];dsimp only[List.set_cons_zero,List.set_cons_succ];walk_at "ev";rw[(h.w.of h.rz).own,KS];have hl2:=h.mi.l2;refine V8 (ns:=H.map (·.1)) (h.w.of h.rz).had (by unfold eD enc;rw[bG,bG];rfl) (by rw[bo];omega) λns hpm _=>?_
 rw[zV];refine h.draw (n:=n+11) hb ok4 (by decide) (by decide) (by decide) λvv g5 M7 M8 a3 b3 ok5 h hb=>?_
 rw[qp,T5];refine⟨?_,hq M7 M8 x g5 way p far ns vv h hb ⟨ok5.a,ok5.b,ok5.c.1,by have:=ok5.c.2;omega⟩ hp hf hpm ⟨a3,b3⟩⟩
 rw[bo,hpm.length_eq,bo];exact cq (show H.length+1<=64 by omega) (by decide)
theorem Tn.put2{M1:RM}{H1:List (Int×Unit)}(h:Tn e M0 M g o a b f c S E H)(rz:Rz e (put (put M0 a (.dt (eE E1))) b (.dk (eD H1))) M1 g f (c+1) S1)(mi:fH f (c+1) E1 H1 S1)(nw:S1.now=S.now):Tn e (put (put M0 a (.dt (eE E1))) b (.dk (eD H1))) M1 g o a b f (c+1) S1 E1 H1:=by
 have noa:o≠a:=λz=>by have:=h.w.own;rw[z,h.w.ends]at this;cases this
 have nab:a≠b:=λz=>by have:=h.w.had;rw[<-z,h.w.ends]at this;cases this
 have nob:o≠b:=λz=>by have:=h.w.own;rw[z,h.w.had]at this;unfold jm eD at this;injection this with this;injection this with this;cases H with
  |nil=>cases this
  |cons x H=>injection this with h1 h2;injection h1 with h1 h3;cases h1
 have nla:e.lP≠a:=λz=>by have:=h.lp;rw[z,h.w.ends]at this;cases this
 have nlb:e.lP≠b:=λz=>by have:=h.lp;rw[z,h.w.had]at this;cases this
 exact⟨rz,⟨by rw[nw,ao nob,ao noa];exact h.w.own,(ao nab).trans bw,bw⟩,mi,by rw[ao nlb,ao nla];exact h.lp⟩
theorem Tn.Aj{M1:RM}(h:Tn e M0 M g o a b f c S E H)(u:Rz e (put M0 a (.dt (eE E1))) M1 g f (c+1) S1)(s:fH f (c+1) E1 H S1)(t:S1.now=S.now):Tn e (put M0 a (.dt (eE E1))) M1 g o a b f (c+1) S1 E1 H:=by
 have r:o≠a:=λz=>by have:=h.w.own;rw[z,h.w.ends]at this;cases this
 have d:b≠a:=λz=>by have:=h.w.had;rw[z,h.w.ends]at this;cases this
 have l:e.lP≠a:=λz=>by have:=h.lp;rw[z,h.w.ends]at this;cases this
 exact⟨u,⟨by rw[t,ao r];exact h.w.own,bw,(ao d).trans h.w.had⟩,s,(ao l).trans h.lp⟩
theorem KJ{D:RD}{sc:RV}{xs:List Int}{l:LR}{x:Addr}{A:cE}{ns:List Int}(h:Tn e M0 M g o a b f c S E H)(tb:Tb e)(u:f.Ok)(X:f.high=f.low+199)(d:f.most=200)(C:M0 x=some A.l)(ok:A.In 10)(U:1<=p/\p<=1000000)(O:1<=far/\far<=9999)(hc:c<62)(Z:l.length=3)(N:∀y∈l,vH y)
 (W:∀t M' S' w z r s,Tn e t M' g o a b f (c+1) S' w z->D.nx [some sc,some f.r,some (.ref g),some (.ref o),some (.ls (xs.map RV.int)),some (.int k),some (.ls l),some ps,some fs,some (.ref x),some (.int way),some (.int p),some (.int far),some (.ls (ns.map RV.int++ [.int (f.low+vv)])),r,s] M'):
 (tr ((P e).Gn (n+12)) AG).S D [some sc,some f.r,some (.ref g),some (.ref o),some (.ls (xs.map RV.int)),some (.int k),some (.ls l),some ps,some fs,some (.ref x),some (.int way),some (.int p),some (.int far),some (.ls (ns.map RV.int++ [.int (f.low+vv)])),r,s] M:=by
 unfold AG;walk_at "ev";refine h.draw (n:=n+11) C ok (by decide) (by decide) (by decide) λv1 g2 M1 M2 F b1 ok2 h C=>?_
 obtain⟨y,Y,I⟩:=vD (xs:=l) F (by rw[Z];exact b1)
 rw[I];obtain⟨R,dd,rfl,J,L⟩:=N y Y;rw[IV];refine⟨show 5<=sizeLine by decide,?_⟩
 refine Tw (n:=n+1) (i:=⟨"note",R,dd,p,far⟩) h.rz h.w h.mi tb u X d ⟨rfl,J,L,U,O⟩ (by omega) λM3 S' w z rz mi nw=>?_
 rw[eQ,ae (by simp)]
 exact W _ _ _ _ _ _ _ (h.put2 rz mi nw)
theorem O9{D:RD}{sc:RV}{xs:List Int}{x:Addr}{g1:cE}{way vv:Int}{ns:List Int}(h:Tn e M0 M g o a b f c S E H)(tb:Tb e)(okf:f.Ok)(hw:f.high=f.low+199)(hmost:f.most=200)(hb:M0 x=some g1.l)(ok:g1.In 10)(hp:1<=p/\p<=1000000)(hf:1<=far/\far<=9999)(hc:c<62)(hpm:ns.Perm (H.map (·.1)))(hv:0<=vv/\vv<200)
 (hq:∀M0' M' S' E' H' z14 z15,Tn e M0' M' g o a b f (c+1) S' E' H'->D.nx [some sc,some f.r,some (.ref g),some (.ref o),some (.ls (xs.map RV.int)),some (.int k),some (.ls ds),some ps,some fs,some (.ref x),some (.int way),some (.int p),some (.int far),some (.ls (ns.map RV.int++ [.int (f.low+vv)])),z14,z15] M'):
 (tr ((P e).Gn (n+12)) An).S D [some sc,some f.r,some (.ref g),some (.ref o),some (.ls (xs.map RV.int)),some (.int k),some (.ls ds),some ps,some fs,some (.ref x),some (.int way),some (.int p),some (.int far),some (.ls (ns.map RV.int++ [.int (f.low+vv)])),z14,z15] M:=by
 unfold An;rw[gb,iC];dsimp only[List.set_cons_zero,List.set_cons_succ];walk_at "ev";refine h.draw (n:=n+11) hb ok (by decide) (by decide) (by decide) λv1 g2 M1 M2 a1 b1 ok2 h hb=>?_
 obtain⟨kd,hkd,ey⟩:=BV ["note","note","note","line"] a1 b1
 change ∀{M:RM} {Q:ak},bI (.ls [.str "note",.str "note",.str "note",.str "line"]) _ M Q=_ at ey
 rw[ey];obtain⟨kl,rfl⟩:∃kl:Bool,kd=if kl then("line":Str)else("note":Str):=by
  have:kd= "note"∨kd= "line":=by simpa using hkd
  rcases this with z|z
  . exact⟨false,z⟩
  . exact⟨true,z⟩
 unfold FU;walk_at "ev";have hlen:((ns.map RV.int++ [RV.int (f.low+vv)]).length:Int)<1073741824/\0<((ns.map RV.int++ [RV.int (f.low+vv)]).length:Int):=by
  have:=h.mi.l2;rw[eF,bo,hpm.length_eq,bo];show((H.length+1:Nat):Int)<_/\0<((H.length+1:Nat):Int);omega
 refine h.draw (n:=n+11) hb ok2 (by decide) hlen.2 hlen.1 λv2 g3 M3 M4 a2 b2 ok3 h hb=>?_
 obtain⟨y,hy,ey⟩:=vD (xs:=ns.map RV.int++ [RV.int (f.low+vv)]) a2 b2;rw[ey];obtain⟨m,rfl,m1,m2⟩:∃m:Int,y= .int m/\f.low<=m/\m<=f.high:=by
  rcases dZ.mp hy with q|q
  . obtain⟨m,hm,rfl⟩:=aP.mp q
    obtain⟨u,hu,rfl⟩:=aP.mp (hpm.mem_iff.mp hm);exact⟨u.1,rfl,h.mi.hr u hu⟩
  . cases fG.mp q;exact⟨_,rfl,by omega,by omega⟩
 refine UL (n:=n+1) (kl:=kl) h.rz h.w h.mi tb okf m1 m2 hp hf (by omega) λM5 S' E' rz mi nw=>?_
 rw[eQ,ae (by simp)]
 exact hq _ _ _ _ _ _ _ (h.Aj rz mi nw)
theorem Xa{D:RD}{sc:RV}{xs:List Int}{x:Addr}{g1:cE}{way vv:Int}{ns:List Int}(h:Tn e M0 M g o a b f c S E H)(tb:Tb e)(okf:f.Ok)(hw:f.high=f.low+199)(hmost:f.most=200)(hb:M0 x=some g1.l)(ok:g1.In 10)(hp:1<=p/\p<=1000000)(hf:1<=far/\far<=9999)(hc:c<62)
 (hq:∀M0' M' S' E' H' z14 z15,Tn e M0' M' g o a b f (c+1) S' E' H'->D.nx [some sc,some f.r,some (.ref g),some (.ref o),some (.ls (xs.map RV.int)),some (.int k),some (.ls ds),some ps,some fs,some (.ref x),some (.int way),some (.int p),some (.int far),some (.ls (ns.map RV.int++ [.int (f.low+vv)])),z14,z15] M'):
 (tr ((P e).Gn (n+12)) Am).S D [some sc,some f.r,some (.ref g),some (.ref o),some (.ls (xs.map RV.int)),some (.int k),some (.ls ds),some ps,some fs,some (.ref x),some (.int way),some (.int p),some (.int far),some (.ls (ns.map RV.int++ [.int (f.low+vv)])),z14,z15] M:=by
 unfold Am;rw[gb,iC];dsimp only[List.set_cons_zero,List.set_cons_succ];walk_at "ev";refine h.draw (n:=n+11) hb ok (by decide) (by decide) (by decide) λv1 g2 M1 M2 a1 b1 ok2 h hb=>?_
 rw[qp];unfold FT;walk_at "ev";rw[(h.w.of h.rz).own,vI];walk_at "ev";rw[(h.w.of h.rz).own];have p0:∀{N:RM->Prop} {t:Int},pO (.str "now") (.int t) N o M2 (some (jm S.now a b))=(3<sizeLine/\N (put M2 o (jm t a b))):=rfl;rw[p0];refine⟨by decide,?_⟩
 have r1:=h.rz.other (o':=jm (S.now+(1+v1)) a b) h.w.own;have noa:a≠o:=λz=>by have:=h.w.own;rw[<-z,h.w.ends]at this;cases this
 have nob:b≠o:=λz=>by have:=h.w.own;rw[<-z,h.w.had]at this;unfold jm eD at this;injection this with this;injection this with this;cases H with
  |nil=>cases this
  |cons x H=>injection this with h1 h2;injection h1 with h1 h3;cases h1
 have nl:e.lP≠o:=λz=>by have:=h.lp;rw[z,h.w.own]at this;cases this
 obtain⟨_,_,_,hg⟩:=r1.gate;unfold FR;walk_at "ev";rw[hg];walk_at "ev";refine r1.wait (n:=n+5) tb ((ao nl).trans h.lp) (by omega) (by omega) (by omega) λM5 S' rz tl nw=>?_
 exact hq _ _ _ _ _ _ _ ⟨rz,⟨by rw[nw];exact bw,(ao noa).trans h.w.ends,(ao nob).trans h.w.had⟩,S9 h.mi (by omega) tl nw,(ao nl).trans h.lp⟩
theorem Xd{D:RD}{sc:RV}{xs:List Int}{t:LR}{x:Addr}{N:cE}{ns:List Int}(h:Tn e M0 M g o a b f c S E H)(tb:Tb e)(l:f.Ok)(F:f.high=f.low+199)(d:f.most=200)(u:M0 x=some N.l)(I:N.In 10)(A:1<=p/\p<=1000000)(z:1<=far/\far<=9999)(w:c<62)(R:t.length=3)(O:∀y∈t,vH y)(L:ns.Perm (H.map (·.1)))(hv:0<=vv/\vv<200)
 (C:∀J M' S' Y Z r s,Tn e J M' g o a b f (c+1) S' Y Z->D.nx [some sc,some f.r,some (.ref g),some (.ref o),some (.ls (xs.map RV.int)),some (.int k),some (.ls t),some ps,some fs,some (.ref x),some (.int way),some (.int p),some (.int far),some (.ls (ns.map RV.int++ [.int (f.low+vv)])),r,s] M'):
 (tr ((P e).Gn (n+12)) yD).S D [some sc,some f.r,some (.ref g),some (.ref o),some (.ls (xs.map RV.int)),some (.int k),some (.ls t),some ps,some fs,some (.ref x),some (.int way),some (.int p),some (.int far),some (.ls (ns.map RV.int++ [.int (f.low+vv)])),r,s] M:=by
 unfold yD;walk_at "ev"
 by_cases U:way<4
 . rw[ai (by simpa using U)]
   exact KJ h tb l F d u I A z w R O C
 . rw[ae (by simpa using U)]
   by_cases W:k=0
   . rw[ai (by simpa using W)]
     exact KJ h tb l F d u I A z w R O C
   . rw[ae (by simpa using W)]
     unfold Hg;walk_at "ev"
     by_cases X:way<8
     . rw[ai (by simpa using X)]
       exact O9 h tb l F d u I A z w L hv C
     . rw[ae (by simpa using X)]
       exact Xa h tb l F d u I A z w C
end
section
variable {e:Env}{n:Nat}{M M' M0:RM}{Q:ak}{f:Fm}{S S':GS}{i j:ay}{c:Nat}{k m p far now:Int}{v:RV}{o a b g:Addr}{E:En}{H:List (Int×Unit)}
theorem Vj{n c:Nat}(h:c<(nums n).length):(nums n)[c]=RV.int (c:Int):=by simp[nums]
theorem ZQ{x:RV}{K:List (Option RV)->RM->Prop}:kc 5 x (a0::a1::a2::a3::a4::a5::r) M K=K (a0::a1::a2::a3::a4::some x::r) M:=rfl
theorem Xb{sc:RV}{xs:List Int}{ds ps fs:LR}(tb:Tb e)(okf:f.Ok)(hw:f.high=f.low+199)(hmost:f.most=200)(hx:0<xs.length)(hl:xs.length<62)(ld:ds.length=3)(hd:∀y∈ds,vH y)(lp:ps.length=3)(ap:jP 1 1000000 ps)(lf:fs.length=3)(af:jP 1 9999 fs)(h:Tn e M0 M g o a b f 0 S E H)
 (hq:∀M0 M c S E H z5 r,Tn e M0 M g o a b f c S E H->(tr ((P e).Gn (n+12)) B8).S D (some sc::some f.r::some (.ref g)::some (.ref o)::some (.ls (xs.map RV.int))::z5::some (.ls ds)::some (.ls ps)::some (.ls fs)::r) M):
 (tr ((P e).Gn (n+12)) B9).S D [some sc,some f.r,some (.ref g),some (.ref o),some (.ls (xs.map RV.int)),none,some (.ls ds),some (.ls ps),some (.ls fs),none,none,none,none,none,none,none] M:=by
 unfold B9;walk_at "ev";rw[bo];generalize hN:(if(xs.length:Int) > 8 then(xs.length:Int)else 8)=N
 have n1:0<=N/\N<62:=by rw[<-hN];split<;>omega
 refine⟨by omega,by omega,?_⟩
 refine Ji (λys σ M=>∃(c:Nat) (M0:RM) (S:GS) (E:En) (H:List (Int×Unit)) (z5 z9 z10 z11 z12 z13 z14 z15:Option RV),ys=(nums N.toNat).drop c/\c+ys.length=N.toNat/\Tn e M0 M g o a b f c S E H/\σ= [some sc,some f.r,some (.ref g),some (.ref o),some (.ls (xs.map RV.int)),z5,some (.ls ds),some (.ls ps),some (.ls fs),z9,z10,z11,z12,z13,z14,z15]) (λ_ _ _ _=>hR) (λσ M h=>?_) (λy ys σ M W h hW=>?_) _ _ _ ⟨0,M0,S,E,H,none,none,none,none,none,none,none,none,rfl,by rw[yf];omega,h,rfl⟩
 . obtain⟨c,M0,S,E,H,z5,z9,z10,z11,z12,z13,z14,z15,_,_,h,rfl⟩:=h
   exact hq _ _ _ _ _ _ _ _ h
 . obtain⟨c,M0,S,E,H,z5,z9,z10,z11,z12,z13,z14,z15,h1,h2,h,rfl⟩:=h
   rw[cY]at h2;have hc:c<(nums N.toNat).length:=by rw[yf];omega
   rw[List.drop_eq_getElem_cons hc]at h1;injection h1 with e1 e2
   have e1:y= .int (c:Int):=by rw[e1,Vj]
   subst e1;rw[ZQ];refine Xc h (by omega) (by omega) hx (by omega) lp ap lf af (by omega) λM0 M x g1 way p far ns vv h hb ok hp hf hpm hv=>?_
   refine Xd h tb okf hw hmost hb ok hp hf (by omega) ld hd hpm hv λM0' M' S' E' H' z14 z15 h=>?_
   exact hW _ _ ⟨c+1,M0',S',E',H',_,_,_,_,_,_,_,_,e2,by omega,h,rfl⟩
end
section
variable {e:Env}{n:Nat}{M M' M0:RM}{Q:ak}{f:Fm}{S S':GS}{i j:ay}{c:Nat}{k m p far now:Int}{v:RV}{o a b g:Addr}{E:En}{H:List (Int×Unit)}
theorem ZL(d:f.Ok):Gz f 0 (S0 f):=⟨ZP d,gK _,aU _,aU _,aU _,aU _,aU _,gK _,gK _,gK _⟩
theorem Wz:fH f 0 [] [] (S0 f):=⟨jW,gK _,gK _,gK _,gK _,jW,aU _,aU _⟩
theorem ZO{sc:RV}(y:Rz e M0 M g f 0 (S0 f))(x:M0 e.lP=some (cW e))
 (A:∀M0 M o a b,Tn e M0 M g o a b f 0 (S0 f) [] []->(tr ((P e).Gn (n+12)) zt).S D [some sc,some f.r,some (.ref g),some (.ref o),none,none,some (.ls ds),some (.ls ps),some (.ls fs),none,none,none,none,none,none,none] M):
 (tr ((P e).Gn (n+12)) Ca).S D [some sc,some f.r,some (.ref g),none,none,none,some (.ls ds),some (.ls ps),some (.ls fs),none,none,none,none,none,none,none] M:=by
 unfold Ca;rw[gb,iC,Oa];dsimp only[List.set_cons_zero,List.set_cons_succ];intro o ho a s b l;have r1:=y.new (o:=.dk []) ho;have C:=r1.new (o:=.dt []) s;have F:=C.new (o:=.dk []) l;have h:o≠a:=λz=>by rw[<-z,bw]at s;cases s
 have r:o≠b:=λz=>by rw[<-z,ao h,bw]at l;cases l
 have u:a≠b:=λz=>by rw[<-z,bw]at l;cases l
 have l0:=y.at_ x;have d:e.lP≠o:=λz=>by rw[z,ho]at l0;cases l0
 have t:e.lP≠a:=λz=>by rw[<-z,ao d,l0]at s;cases s
 have w:e.lP≠b:=λz=>by rw[<-z,ao t,ao d,l0]at l;cases l
 have I:=F.other (a:=o) (o:=.dk []) (o':=jm 0 a b) (by rw[ao r,ao h,bw])
 show(put (put (put M o (RO.dk [])) a (RO.dt [])) b (RO.dk [])) o=some (.dk [])/\(tr ((P e).Gn (n+12)) zt).S D _ (put (put (put (put M o (RO.dk [])) a (RO.dt [])) b (RO.dk [])) o (jm 0 a b));refine⟨by rw[ao r,ao h,bw],?_⟩
 exact A _ _ o a b ⟨I,⟨bw,by rw[ao (aY h),ao u,bw];rfl,by rw[ao (aY r),bw];rfl⟩,Wz,by rw[ao d,ao w,ao t,ao d];exact x⟩
theorem SW{r1 r s rd1 u w x y z A:RV}{t:Addr}(h:M g=some (cy e f.r (.ref t) r1 r s))(l:M t=some (bE e u w (.int now) x y z A)):aA (P e) (n+1) 19 [.ref g] M Q=Q (.int now) M:=by
 rw[us (i:=19) (d:=uy) rfl];simp only[uy];walk_at "ev";rw[h];walk_at "ev";rw[l];walk_at "ev"
theorem Tv(h:Rz e M0 M g f c S)(d:Q (.int S.now) M):aA (P e) (n+1) 19 [.ref g] M Q:=by
 obtain⟨⟨l,G,rfl,s⟩,r⟩:=h;rw[SW (rd1:=.aq) (G.at_ .g _ rfl) (G.at_ .t _ rfl)];exact d
theorem Yu(tb:Tb e)(s:M e.lP=some (cW e)){xs:List Int}(O:∀M',M' e.lP=some (cW e)->Q (.bl true) M'):aA (P e) (n+13) 24 [.ls (xs.map RV.int)] M Q:=by
 rw[us (i:=24) (d:=r8) rfl];refine⟨rfl,?_⟩;simp only[r8];unfold Fi;walk_at "ev";refine(GF (n:=n+11) (xs:=xs) (k:=0)).mpr ?_;refine yB (n:=n+11) λp1 J=>?_
 refine TB (n:=n+9) bw yw (by decide) λf x t U l ok1=>?_
 rw[gq];have l1:put M p1 x.l e.lP=some (cW e):=(ao (λz=>by rw[z,J]at s;cases s)).trans s
 generalize put M p1 x.l=M1 at l1 ⊢;unfold Fh;walk_at "ev";refine(GF (n:=n+11) (xs:=xs) (k:=1)).mpr ?_;refine yB (n:=n+11) λp2 L=>?_
 refine RI (n:=n+10) bw yw (by decide) λds ps fs y Y N lp ap Z af _=>?_
 rw[gq];have l2:put M1 p2 y.l e.lP=some (cW e):=(ao (λz=>by rw[z,L]at l1;cases l1)).trans l1
 generalize put M1 p2 y.l=M2 at l2 ⊢;walk_at "ev";unfold Fg;rw[gb,iC];dsimp only[List.set_cons_zero,List.set_cons_succ];walk_at "ev";intro g w;refine We (n:=n+5) t w λM3 C I G W X k3=>⟨rfl,?_⟩
 have rz:Rz e M2 M3 g f 0 (S0 f):=⟨⟨C,G,I,λa o h=>⟨W a o h (eR w h),λ⟨r,u,R,z⟩=>by have:=X r u R;rw[z,h]at this;cases this⟩⟩,ZL t⟩
 refine ZO rz l2 λM0 M4 o a b h=>?_
 unfold zt;rw[gb,iC];dsimp only[List.set_cons_zero,List.set_cons_succ];walk_at "ev";have e1:gy (xs.map RV.int) (some 2) (some 62)=((xs.drop (HT.aQ xs.length 0 (some 2))).take (HT.aQ xs.length xs.length (some 62)-HT.aQ xs.length 0 (some 2))).map RV.int:=by unfold gy;rw[bo,List.map_take,List.map_drop]
 have e2:HT.aQ xs.length xs.length (some 62)<=62:=by rw[show(62:Int)=((62:Nat):Int)from rfl,HT.gf];omega
 have D:HT.aQ xs.length 0 (some 2)=min 2 xs.length:=by rw[show(2:Int)=((2:Nat):Int)from rfl,HT.gf]
 rw[e1];have ly:((xs.drop (HT.aQ xs.length 0 (some 2))).take (HT.aQ xs.length xs.length (some 62)-HT.aQ xs.length 0 (some 2))).length<=60:=by
  have F:HT.aQ xs.length xs.length (some 62)=min 62 xs.length:=by rw[show(62:Int)=((62:Nat):Int)from rfl,HT.gf]
  rw[List.length_take,List.length_drop,D,F];omega
 generalize (xs.drop (HT.aQ xs.length 0 (some 2))).take (HT.aQ xs.length xs.length (some 62)-HT.aQ xs.length 0 (some 2))=ys at ly ⊢;refine⟨by rw[bo];exact cq (show ys.length+1<=61 by omega) (by decide),?_⟩
 rw[show ys.map RV.int++ [RV.int 0]=(ys++ [0]).map RV.int from by rw[fF];rfl]
 refine Xb (xs:=ys++ [0]) tb t U l (by rw[eF];exact Nat.succ_pos _) (by rw[eF];show ys.length+1<62;omega) Y N lp ap Z af h λM0 A c S E H z5 r h=>?_
 obtain⟨_,_,_,w⟩:=h.rz.gate;unfold B8;walk_at "ev";rw[w];walk_at "ev";refine Tv (n:=n+11) h.rz ?_;rw[(h.w.of h.rz).own,vI,Ke,beq_self_eq_true];exact O A (h.rz.at_ h.lp)
end
noncomputable def Cx:Nat->Addr:=λi=>([338,411,432,552,767]:List Addr).getD i 0
noncomputable def IF:List (Str×Addr):=[("out",113),("come",120),("lost",127),("wait",134),("rule",141),("unrule",148)]
noncomputable def Hi:List (Str×Int):=[("note",0),("asked",1),("called",1),("up",2),("near",2),("far",2)]
noncomputable def zm:Env:=⟨λx=>if x= "DEEDS" then xh IF else if x= "TIME_AT" then gQ Hi else [],Cx,[(113,9),(120,10),(134,11)],546⟩
noncomputable def G0:List (FD×FA):=[(xI,fD H09.wM),(xN,fD H09.wQ),(xZ,fD H09.wR),(xM,fD H09.wU),(xk,fD H09.wV),(xK,fD H09.wW),(rA,fD H09.wX),(Hl,fD H09.wZ),(xW,⟨"is_text","is_text",Ry,99,98,.str "lentgate.ends" 194⟩),(uN,fD H09.ky),(qb,fD H09.kA),(uI,fD H09.kC)]
noncomputable def G1:List (FD×FA):=[(xV,fD H09.kD),(j0,fD H09.kE),(xJ,⟨"is_times","is_times",Rf,228,227,.str "lentgate.forms" 475⟩),(xY,fD H09.kG),(uD,fD H09.kL),(ue,fD H09.kQ),(t6,fD H09.la),(uy,fD H09.lK),(xC,fD H09.ma),(xG,fD H09.ml),(xE,⟨"_law_living","_law_living",PN,832,831,.str "law_lentgate_k09_strangers_notes_and_the_sie" 1437⟩),(xD,⟨"_law_a_world","_law_a_world",Pp,847,846,.str "law_lentgate_k09_strangers_notes_and_the_sie" 1437⟩)]
noncomputable def G2:List (FD×FA):=[(r8,fD H09.mn)]
noncomputable def G3:List (FD×FA):=[(rm,fD H09.wY),(xX,fD H09.kF),(xq,fD H09.kH),(xU,fD H09.kI),(xy,fD H09.kJ),(uu,fD H09.kN),(ui,fD H09.kW),(uB,fD H09.kZ),(uc,fD H09.k8),(t9,fD H09.lj),(ua,fD H09.lu),(uC,⟨"held","Talks.held",Qe,502,501,.str "lentgate.talks" 894⟩)]
noncomputable def G4:List (FD×FA):=[(aI,⟨"pass_by","Talks.pass_by",Pj,549,548,.str "lentgate.talks" 894⟩),(uq,fD H09.lE),(jC,fD H09.lF),(um,fD H09.lJ),(uo,fD H09.lM),(ub,fD H09.lR),(xu,fD H09.lX),(xt,fD H09.lY),(rD,fD H09.lZ),(xF,fD H09.mj),(xl,fD H09.mm)]
noncomputable def G5:List (FD×FA):=[(xm,fD H09.wN),(rB,fD H09.ku),(uj,fD H09.kM),(t7,fD H09.kO),(uk,fD H09.kX),(uf,⟨"is_with","Talks.is_with",Pk,469,468,.str "lentgate.talks" 894⟩),(uz,fD H09.lx),(uA,fD H09.lB),(ud,fD H09.lz),(pZ,fD H09.lD),(jB,fD H09.lL),(p9,fD H09.lN)]
noncomputable def G6:List (FD×FA):=[(jA,fD H09.lQ),(t8,fD H09.lU),(ug,fD H09.lW),(xr,fD H09.mh)]
noncomputable def G7:List (FD×FA):=[(xA,fD H09.kK),(ux,fD H09.kU),(p6,fD H09.lA),(p7,fD H09.lV),(xB,⟨"_law_wrote","_law_wrote",Qd,837,836,.str "law_lentgate_k09_strangers_notes_and_the_sie" 1437⟩)]
noncomputable def G8:List (FD×FA):=[(uh,fD H09.kY),(p8,fD H09.k9)]
noncomputable def G9:List (FD×FA):=[(p5,fD H09.lS)]
noncomputable def wz:List (FD×FA):=[(p4,fD H09.lH),(xx,⟨"_law_came","_law_came",Qj,842,841,.str "law_lentgate_k09_strangers_notes_and_the_sie" 1437⟩)]
noncomputable def wA:List (FD×FA):=[(uw,fD H09.lG)]
section
variable(Pm:Params)
theorem b0:iX (H09.K0 Pm) S Cx 546 1 G0=true:=by kernel_rfl
theorem l0:iP (H09.K0 Pm) G0:=by kernel_rfl
theorem u0:uT G0 1:=iU (n:=1) λ_=>by show _=_;kernel_rfl
theorem b1:iX (H09.K0 Pm) S Cx 546 1 G1=true:=by kernel_rfl
theorem l1:iP (H09.K0 Pm) G1:=by kernel_rfl
theorem u1:uT G1 1:=iU (n:=1) λ_=>by show _=_;kernel_rfl
theorem b2:iX (H09.K0 Pm) S Cx 546 1 G2=true:=by kernel_rfl
theorem l2:iP (H09.K0 Pm) G2:=by kernel_rfl
theorem u2:uT G2 1:=iU (n:=1) λ_=>by show _=_;kernel_rfl
theorem b3:iX (H09.K0 Pm) S Cx 546 2 G3=true:=by kernel_rfl
theorem l3:iP (H09.K0 Pm) G3:=by kernel_rfl
theorem u3:uT G3 2:=iU (n:=2) λ_ _=>by show _=_;kernel_rfl
theorem b4:iX (H09.K0 Pm) S Cx 546 2 G4=true:=by kernel_rfl
theorem l4:iP (H09.K0 Pm) G4:=by kernel_rfl
theorem u4:uT G4 2:=iU (n:=2) λ_ _=>by show _=_;kernel_rfl
theorem b5:iX (H09.K0 Pm) S Cx 546 3 G5=true:=by kernel_rfl
theorem l5:iP (H09.K0 Pm) G5:=by kernel_rfl
theorem u5:uT G5 3:=iU (n:=3) λ_ _ _=>by show _=_;kernel_rfl
theorem b6:iX (H09.K0 Pm) S Cx 546 3 G6=true:=by kernel_rfl
theorem l6:iP (H09.K0 Pm) G6:=by kernel_rfl
theorem u6:uT G6 3:=iU (n:=3) λ_ _ _=>by show _=_;kernel_rfl
theorem b7:iX (H09.K0 Pm) S Cx 546 4 G7=true:=by kernel_rfl
theorem l7:iP (H09.K0 Pm) G7:=by kernel_rfl
theorem u7:uT G7 4:=iU (n:=4) λ_ _ _ _=>by show _=_;kernel_rfl
theorem b8:iX (H09.K0 Pm) S Cx 546 5 G8=true:=by kernel_rfl
theorem l8:iP (H09.K0 Pm) G8:=by kernel_rfl
theorem u8:uT G8 5:=iU (n:=5) λ_ _ _ _ _=>by show _=_;kernel_rfl
theorem b9:iX (H09.K0 Pm) S Cx 546 6 G9=true:=by kernel_rfl
theorem l9:iP (H09.K0 Pm) G9:=by kernel_rfl
theorem u9:uT G9 6:=iU (n:=6) λ_ _ _ _ _ _=>by show _=_;kernel_rfl
theorem Mv:iX (H09.K0 Pm) S Cx 546 7 wz=true:=by kernel_rfl
theorem MB:iP (H09.K0 Pm) wz:=by kernel_rfl
theorem Z6:uT wz 7:=iU (n:=7) λ_ _ _ _ _ _ _=>by show _=_;kernel_rfl
theorem Mw:iX (H09.K0 Pm) S Cx 546 8 wA=true:=by kernel_rfl
theorem MC:iP (H09.K0 Pm) wA:=by kernel_rfl
theorem Z7:uT wA 8:=iU (n:=8) λ_ _ _ _ _ _ _ _=>by show _=_;kernel_rfl
theorem O7:(S.bl.all λx=>sG (PySem.W.nsIn (H09.K0 Pm) mainGlobals x))=true:=by kernel_rfl
theorem O2:(S.gi.all λx=>zl x.2 (PySem.W.nsIn (H09.K0 Pm) mainGlobals x.1))=true:=by kernel_rfl
theorem Oh:(S.gt.all λx=>yY (H09.K0 Pm) x.2 (PySem.W.nsIn (H09.K0 Pm) mainGlobals x.1))=true:=by kernel_rfl
theorem O4:(S.cl.zipIdx.all λx=>qI (H09.K0 Pm) (Cx x.2)&&nY (Cx x.2) (PySem.W.nsIn (H09.K0 Pm) mainGlobals x.1))=true:=by kernel_rfl
theorem O3:(S.fs.all λx=>qI (H09.K0 Pm) (Cx x.1)&&sG (PySem.W.findIn (H09.K0 Pm) (.ref (Cx x.1)) x.2))=true:=by kernel_rfl
theorem O6:zR (H09.K0 Pm) 546=true:=by kernel_rfl
theorem O5:yo (H09.K0 Pm) 548 546=true:=by kernel_rfl
theorem EG:(H09.K0 Pm).lookup 546=none:=by kernel_rfl
end
section
variable {w:World}{h:Heap}{mg:bC}(X:(H09.K0 w.2).In h)(G:h.Ns mainGlobals mg)
include X G
theorem Ea:∀x∈(G0++(G1++(G2++(G3++(G4++(G5++(G6++(G7++(G8++(G9++(wz++wA))))))))))),jY (H09.K0 w.2) mg S Cx 546 x.1 x.2.g (fdOf x.2):=(jE (jc X G (b0 _) (l0 _) u0) (jE (jc X G (b1 _) (l1 _) u1) (jE (jc X G (b2 _) (l2 _) u2) (jE (jc X G (b3 _) (l3 _) u3) (jE (jc X G (b4 _) (l4 _) u4) (jE (jc X G (b5 _) (l5 _) u5) (jE (jc X G (b6 _) (l6 _) u6) (jE (jc X G (b7 _) (l7 _) u7) (jE (jc X G (b8 _) (l8 _) u8) (jE (jc X G (b9 _) (l9 _) u9) (jE (jc X G (Mv _) (MB _) Z6) (jc X G (Mw _) (MC _) Z7))))))))))))
theorem Vw:∀d∈S.fd,∃g fd,jY (H09.K0 w.2) mg S Cx 546 d g fd:=XA (by rfl) (Ea X G)
theorem Xw:Hd PySem.Challenge.pw_lentgate_k09_strangers_notes_and_the_sie w (H09.K0 w.2) mg (P zm):=by
 refine ZK X G (O7 _) (O2 _) (Oh _) (O4 _) (O3 _) ?_ (λx l hx=>by cases hx) (Vw X G) (λ_ _ _ _=>⟨by decide,λh X2=>Y9 X G (O6 _) X2⟩) ?_
 . show ∀x∈[("DEEDS":Str),("TIME_AT":Str)],_
   refine wm.mpr ⟨show KTab _ _ _ _ _ (xh IF)from To (oH X G (n:="DEEDS") (v:=.ref 149) (by kernel_rfl)) (show(H09.K0 w.2).lookup 149=some (H09.qN w.2) by kernel_rfl) (by decide) ⟨⟨_,rfl⟩,rfl,rfl,⟨_,rfl⟩,rfl,rfl,⟨_,rfl⟩,rfl,rfl,⟨_,rfl⟩,rfl,rfl,⟨_,rfl⟩,rfl,rfl,⟨_,rfl⟩,rfl,rfl,trivial⟩ (by decide+kernel),?_⟩
   refine wm.mpr ⟨show KTab _ _ _ _ _ (gQ Hi)from Tj (oH X G (n:="TIME_AT") (v:=.ref 216) (by kernel_rfl)) (show(H09.K0 w.2).lookup 216=some (H09.qP w.2) by kernel_rfl) (by decide) ⟨⟨_,rfl⟩,rfl,⟨_,rfl⟩,⟨_,rfl⟩,rfl,⟨_,rfl⟩,⟨_,rfl⟩,rfl,⟨_,rfl⟩,⟨_,rfl⟩,rfl,⟨_,rfl⟩,⟨_,rfl⟩,rfl,⟨_,rfl⟩,⟨_,rfl⟩,rfl,⟨_,rfl⟩,trivial⟩ (by decide+kernel),?_⟩
   exact gK _
 . show ∀q∈[((113:Addr),(9:Nat)),((120:Addr),(10:Nat)),((134:Addr),(11:Nat))],_
   refine wm.mpr ⟨⟨uN,rfl,rfl,by kernel_rfl⟩,?_⟩
   refine wm.mpr ⟨⟨qb,rfl,rfl,by kernel_rfl⟩,?_⟩
   refine wm.mpr ⟨⟨uI,rfl,rfl,by kernel_rfl⟩,?_⟩
   exact gK _
end
def aL:FA:=⟨"law","law",YK,854,853,H09.hG⟩
theorem Z4:Tb zm:=⟨⟨_,by rfl,.head _⟩,⟨_,by rfl,.tail _ (.head _)⟩,⟨_,by rfl,.tail _ (.tail _ (.head _))⟩,by rfl⟩
theorem Th(ns:List Int):aA (P zm) 13 24 [.ls (ns.map RV.int)] (sj 546 S.lp S.lq) (λv a=>v= .bl true/\a 546=some (.tb 546 S.lp S.lq)):=Yu Z4 HW λ_ h=>⟨rfl,h⟩
theorem mv{p:Params}(X:(H09.K p).In h):(H09.K0 p).In h/\h.get? 546=some (PySem.W.tabObj #[]):=
 ⟨λa o e=>X a o (by show List.lookup a (H09.K0 p++_)=_;rw[List.lookup_append,e];rfl),X 546 _ (by show List.lookup _ (H09.K0 p++_)=_;rw[List.lookup_append,EG];rfl)⟩
theorem walk{l:PySem.W.OpenLaw}{q:Program}{loose:aE}{XP:(bC)->Heap->Prop}{YP:World->Heap->Prop}{d:DefRec}(hn:l.most=some 63)(hp:l.prog=PySem.Challenge.pw_lentgate_k09_strangers_notes_and_the_sie)(hdn:d.name= "law")(hdf:d.params.defaults= [])
 (hY:∀(w:World) (h:Heap),YP w h->(H09.K0 w.2).In h/\h.get? 546=some (PySem.W.tabObj #[])):PySem.W.WalkO q loose XP YP l.row.toRowW d [] (λf vs=>PySem.call f vs):=by
 refine R.jV (n:=63) (k:=13+1) (x:="script") (K:=H09.K0) (sp:=aA (P zm) 13 24) (T:=546) (c:=548) (pos:=S.lp) (lq:=S.lq) hn (by decide) hdf ⟨rfl,by decide,by decide⟩ hY EG (λp h X=>Hr (O5 p) X) (λw mg fa h X G hm=>?_) λns _=>Th ns
 have hl:=Ea X G (r8,aL) (dZ.mpr (.inr (dZ.mpr (.inr (dZ.mpr (.inl (.head _)))))));have hf:=hl.k0 rfl;rw[hdn]at hm;have:fa=aL.g:=by have:=hm.symm.trans hf;injection this with this;injection this
 subst this;rw[hp];exact⟨fdOf aL,λs u=>.of_eq (by kernel_rfl),λbase kb _=>(Ab (Xw X G) kb 13 24 r8 aL.g (fdOf aL) rfl hl).1⟩
end K09
open PySem PySem.W PyProof.Rows
theorem K09.wa:looksOpen PySem.Challenge.pw_lentgate_k09_strangers_notes_and_the_sie=true:=by kernel_rfl
theorem K09.wb:(PySem.Challenge.rw_lentgate_k09_strangers_notes_and_the_sie).row.wellSaid=true:=by
 delta OpenRow.wellSaid OpenRow.partSaid
 rw[show looksOpen (PySem.Challenge.rw_lentgate_k09_strangers_notes_and_the_sie).row.prog=true from K09.wa];kernel_rfl
theorem K09.ws:PySem.Challenge.rw_lentgate_k09_strangers_notes_and_the_sie.wellSaid=true:=by
 delta OpenLaw.wellSaid
 rw[K09.wb];kernel_rfl
theorem PySem.Challenge.cw_lentgate_k09_strangers_notes_and_the_sie_holds : PySem.Challenge.rw_lentgate_k09_strangers_notes_and_the_sie.Holds := by
 w_on;refine PySem.W.holds_law K09.ws λsaid=>?_
 refine PySem.W.holds_open (r:=(PySem.Challenge.rw_lentgate_k09_strangers_notes_and_the_sie).row) (q:=H09.q) (loose:=H09.loose) (Xt:=H09.Xt) (XP:=PySem.W.XL H09.q [])
  (Yf:=(PySem.W.kHook H09.K H09.ks H09.iw).obs) (Ya:=(PySem.W.kHook H09.K H09.ks H09.iw).val) (YP:=(PySem.W.kHook H09.K H09.ks H09.iw).says) (N:=H09.NN)
  H09.left (PySem.W.Hook.of _) (PySem.W.Hook.keeps _) (λs e=>PySem.W.xl_of s (Bool.and_eq_true_iff.mp e).1) PySem.W.XL.keeps (by rfl) (by rfl) (by rfl)
  (λs e=>PySem.W.recFacts_of (Bool.and_eq_true_iff.mp e).2) (by rfl) (by assumption) (by decide+kernel) ⟨rfl,rfl,rfl,rfl,rfl,by decide+kernel⟩ ?hw ?hc
 (case hw=>w_witness2)
 k_fill
 exact K09.walk (l:=PySem.Challenge.rw_lentgate_k09_strangers_notes_and_the_sie) rfl rfl rfl rfl (λw h Y=>K09.mv (PySem.W.kIn_of Y))
