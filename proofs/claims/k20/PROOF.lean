import PyProof.Rows.All
import Wide.All
import OpenK.AllK
import Wide.FinOn
import Lean
import PyProof.EqAt
import PyProof.EqKinds
import PyProof.TupleCall
import PyProof.NeKinds
import PyProof.ZipIter
import KE.KSortTup
import KE.KDictSum
import KE.KSortedM
import KE.KEqDict
import PyProof.DictWalks
import KE.KDictList
import PyProof.Conv_int_bool
import KE.KSortKey
import KE.KLam
import KE.KIntText
import PySem.Challenge.RW_lentgate_k20_whole_no_answer_astray
set_option Elab.async false
set_option linter.all false
set_option maxRecDepth 100000
set_option genInjectivity false
set_option genSizeOfSpec false
set_option genSizeOf false
set_option bootstrap.genMatcherCode false
set_option maxHeartbeats 0
set_option autoImplicit true
local macro_rules|`(∅)=>`(by omega)
local macro_rules|`(⋯)=>`(by decide)
abbrev ag:=PySem.W.Frag
local macro_rules | `(tactic| walk_at "w9") => `(tactic| (rw [PySem.W.Fast.te10110043849684766642, PySem.W.Fast.te14364793385576792824]; kernel_rfl))
def aj:=@PySem.wpAny_bind
def bw:=@PySem.Heap.get?_push_of_some
def aU:=@Bool.and_eq_true
def aK:=@Nat.le_refl
def ae:=@if_neg
def aV:=@List.mem_map
def bu:=@List.length_map
def aH:=@PySem.wpAny_pure
def bG:=@List.length_cons
def ai:=@if_pos
def bx:=@PySem.Heap.lt_size
def dE:=@PySem.Heap.get?_push_size
def cZ:=@List.size_toArray
def bQ:=@List.map_cons
def bR:=@Nat.le_trans
def eQ:=@List.length_append
def bT:=@List.map_map
def dH:=@Option.some.inj
def dR:=@List.mem_filter
def dW:=@List.mem_append
def fz:=@List.forall_mem_nil
def fu:=@Nat.lt_of_lt_of_le
def cJ:=@Nat.ne_of_lt
def dh:=@List.mem_cons
def mW:=@PySem.W.Fast.te10295753902157049106
def ff:=@List.all_eq_true
def eW:=@List.map_append
def gw:=@List.mem_cons_of_mem
def fK:=@List.getElem?_map
def d9:=@List.all_cons
def fg:=@decide_eq_true
def iJ:=@List.mem_append_right
def jT:=@List.getElem?_eq_some_iff
def hZ:=@Bool.false_ne_true
def ia:=@List.mem_cons_self
def ib:=@List.mem_singleton
def gK:=@decide_eq_true_eq
def i9:=@List.mem_of_getElem?
def jz:=@List.length_filter_le
def ba:=@absurd
def jA:=@Bool.false_eq_true
def gL:=@decide_eq_false
def fM:=@Nat.lt_trans
def iK:=@List.filter_cons
def ja:=@of_decide_eq_true
def jb:=@Bool.not_eq_true'
def eX:=@beq_iff_eq
def jB:=@PySem.wpAny_truthy_bool
def qG:=@List.getElem?_append_left
def bZ:=@Ne.symm
def jU:=@Nat.lt_of_le_of_lt
def i8:=@List.nodup_cons
def mS:=@List.map_congr_left
def jx:=@PySem.wpAny_call_entry
def jS:=@PySem.wpAny_newObj_type
def jy:=@List.find?_cons
def nZ:=@beq_eq_false_iff_ne
def mU:=@PySem.W.emptyDict
def iI:=@Nat.zero_add
def vQ:=@PyProof.Rows.callWith_type1
def mV:=@List.lookup_cons
def zA:=@PyProof.Rows.slot_tuple_getitem
def qH:=@List.replicate_succ
def n9:=@Option.some.injEq
def gx:=@PySem.wpAny_mono
def jD:=@PySem.wpAny_holding
def gd:=@LawfulBEq.eq_of_beq
def jV:=@Nat.lt_irrefl
def jW:=@List.any_cons
def mX:=@PySem.W.mg_of
def mY:=@List.nodup_nil
def qI:=@Option.isSome_map
def oe:=@PySem.W.instObj
def jX:=@Nat.le_of_lt
def og:=@List.mem_range
def vZ:=@List.forall_mem_cons
def qJ:=@List.append_nil
def zB:=@Option.isSome_iff_exists
def sD:=@List.flatten_cons
def qK:=@PySem.W.kia_one
def oh:=@List.map_nil
def jY:=@Nat.zero_le
def zC:=@Nat.add_sub_cancel_left
def sE:=@List.not_mem_nil
def zD:=@List.filter_eq_nil_iff
def wc:=@List.mem_filterMap
def sF:=@Nat.not_lt_zero
def zq:=@List.length_replicate
def vR:=@List.length_nil
def sA:=@List.forIn_cons
def sC:=@Bool.or_eq_true
def vS:=@List.filter_congr
def vU:=@PySem.wpAny_dictEntries
def zr:=@List.mem_append_left
def vV:=@PySem.W.plainGet
def vW:=@List.length_take
def vX:=@List.length_drop
def vY:=@decide_eq_decide
def n8:=@Nat.le_succ
def zt:=@List.filter_eq_self
def zu:=@PySem.W.callWith_K
def zv:=@List.pairwise_cons
def zw:=@PySem.W.hasDictIn
def zx:=@Nat.lt_succ_of_lt
def zy:=@Nat.lt_succ_of_le
noncomputable section
abbrev aF:=List (PySem.Addr×PySem.Obj)
abbrev aP:=PySem.Value->PySem.Shared->Prop
abbrev bo:=PySem.Str->Option PySem.Value
abbrev ak:=List PySem.Value
abbrev aS:=List PySem.Expr
abbrev aA:=List PySem.Str
abbrev cN:=Option PySem.Value
namespace R
open PySem PySem.W PyProof.Rows
def pw(b:Nat->Nat->Bool)(n:Nat):KasT α->(α->Prop)->Prop
 | .ret a,Q=>Q a
 | .ask i j k,Q=>i<n/\j<n/\pw b n (k (b i j)) Q
theorem rj{n:Nat}{g:α->KasT β}:∀{t:KasT α},pw lt n t (λa=>pw lt n (g a) Q)->pw lt n (t.bind g) Q
 | .ret _,h=>h
 | .ask _ _ _,⟨a,b,h⟩=>⟨a,b,rj h⟩
theorem LK{n:Nat}{s:Shared}(c:∀i j C,i<n->j<n->C (lt i j) s->cmp i j C s):∀{t:KasT α},pw lt n t (λa=>Q a s)->t.kasWp cmp Q s
 | .ret _,h=>h
 | .ask i j _,⟨a,b,h⟩=>c i j _ a b (LK c h)
structure Ar(n:Nat)(p:Array Nat):Prop where
 sz:p.size=n
 pm:p.toList.Perm (List.range n)
section
variable {O:KeyOrd}{f:Nat->O.α}{n:Nat}{p:Array Nat}
theorem nH:p.getD k 0=(p[k]?).getD 0:=by simp
theorem Ar.lt(a:Ar n p)(b:0<n)(k):p.getD k 0<n:=by
 rw[nH];cases e:p[k]? with
 |none=>exact b
 |some x=>
  have:x∈p.toList:=i9 (by rw[Array.getElem?_toList];exact e)
  exact og.mp (a.pm.mem_iff.mp this)
def ky(f:Nat->O.α)(p:Array Nat)(i:Nat):O.α:=f (p.getD i 0)
def SU(f:Nat->O.α)(p:Array Nat)(k:Nat):Prop:=∀i j,i<=j->j<k->O.kle (ky f p i) (ky f p j)
def SD(f:Nat->O.α)(p:Array Nat)(k:Nat):Prop:=∀i j,i<=j->j<k->O.kle (ky f p j) (ky f p i)
theorem SU.snoc(h:SU f p m)(d:1<=m)(c:O.kle (ky f p (m-1)) (ky f p m)):SU f p (m+1):=λi j a g=>by
 by_cases e:j<m
 . exact h i j a e
 have:j=m:=by omega
 subst this
 by_cases b:i=j
 . subst b;exact KeyOrd.kle_refl _
 . exact KeyOrd.kle_trans (h i (j-1) ∅ ∅) c
theorem SD.snoc(h:SD f p m)(d:1<=m)(c:O.kle (ky f p m) (ky f p (m-1))):SD f p (m+1):=λi j a g=>by
 by_cases e:j<m
 . exact h i j a e
 have:j=m:=by omega
 subst this
 by_cases b:i=j
 . subst b;exact KeyOrd.kle_refl _
 . exact KeyOrd.kle_trans c (h i (j-1) ∅ ∅)
theorem Bf{i j:Nat}(a:j<=p.size)(k:Nat):ky f (kas_rev p i j) k=if i<=k/\k<j then ky f p (i+j-1-k)else ky f p k:=by
 unfold ky kas_rev;rw[nH,getElem?_mirror_all a,nH,nH];split<;>rfl
theorem Az{i j:Nat}(a:j<=p.size)(h:∀k,i<=k->k<j->ky f p k=ky f p (j-1))(k:Nat):ky f (kas_rev p i j) k=ky f p k:=by
 rw[Bf a];split
 . rename_i q
   rw[h (i+j-1-k) ∅ ∅,h k q.1 q.2]
 . rfl
theorem Ar.rev(a:Ar n p)(i j):Ar n (kas_rev p i j):=⟨by rw[kas_rev_size];exact a.sz,(Array.perm_iff_toList_perm.mp (mirror_perm p i j _)).trans a.pm⟩
theorem Ar.NO(a:Ar n p)(i j):Ar n (bubble p i j):=⟨by rw[bubble_size];exact a.sz,(Array.perm_iff_toList_perm.mp (bubble_perm p i j)).trans a.pm⟩
theorem SD.up(h:SD f p m)(a:m<=p.size):SU f (kas_rev p 0 m) m:=λi j b c=>by
 rw[Bf a,Bf a,ai ⟨∅,∅⟩,ai ⟨∅,∅⟩]
 exact h _ _ ∅ ∅
theorem AW(h:SD f p m)(e:∀k,ky f p' k=ky f p k):SD f p' m:=λi j a b=>by rw[e,e];exact h i j a b
abbrev gR(f:Nat->O.α)(i j:Nat):Bool:=O.blt (f i) (f j)
theorem Bp{Q:Nat->Prop}(a:Ar n p)(hn:0<n):∀(u m:Nat),1<=m->m+u<=n->SU f p m->(∀m',m<=m'->m'<=m+u->SU f p m'->(m'=m+u∨O.klt (ky f p m') (ky f p (m'-1)))->Q m')->pw (gR f) n (kas_asc p u m) Q
 |0,m,_,_,hs,hq=>hq m (aK _) (aK _) hs (.inl rfl)
 |u+1,m,h1,h2,hs,hq=>by
  refine⟨a.lt hn _,a.lt hn _,?_⟩;cases e:gR f (p.getD m 0) (p.getD (m-1) 0)with
  |true=>exact hq m (aK _) ∅ hs (.inr e)
  |false=>exact Bp a hn u (m+1) ∅ ∅ (hs.snoc h1 e) λm' b c d e=>hq m' ∅ ∅ d (e.elim (λz=>.inl ∅) .inr)
structure Dn(f:Nat->O.α)(n:Nat)(p:Array Nat)(m q:Nat):Prop where
 a:Ar n p
 s:SD f p m
 le:q+1<=m
 r:∀i,m-(q+1)<=i->i<m->ky f p i=ky f p (m-1)
theorem yb{Q:Array Nat×Nat×Nat->Prop}(hn:0<n):∀(u:Nat) (p:Array Nat) (m q:Nat),m+u<=n->Dn f n p m q->(∀p' m' q',Dn f n p' m' q'->m<=m'->m'<=m+u->Q (p',m',q'))->pw (gR f) n (kas_desc u p m q) Q
 |0,p,m,q,_,d,hq=>hq p m q d (aK _) (aK _)
 |u+1,p,m,q,hu,d,hq=>by
  have m1:1<=m:=bR (Nat.le_add_left 1 q) d.le;refine⟨d.a.lt hn _,d.a.lt hn _,?_⟩;cases e:gR f (p.getD m 0) (p.getD (m-1) 0)with
  |true=>
   have e':O.klt (ky f p m) (ky f p (m-1)):=e;dsimp only;rw[ai rfl];split
   . have sm:=Az (f:=f) (p:=p) (i:=m-(q+1)) (j:=m) (by rw[d.a.sz];omega) d.r
     refine yb hn u _ (m+1) 0 ∅ ⟨d.a.rev _ _,(AW d.s sm).snoc m1 (by rw[sm,sm];exact KeyOrd.kle_of_klt e'),∅,λi a b=>by rw[show i=m+1-1 by omega]⟩ λp' m' q' d' b c=>hq p' m' q' d' ∅ ∅
   . exact yb hn u _ (m+1) 0 ∅ ⟨d.a,d.s.snoc m1 (KeyOrd.kle_of_klt e'),∅,λi a b=>by rw[show i=m+1-1 by omega]⟩ λp' m' q' d' b c=>hq p' m' q' d' ∅ ∅
  |false=>
   have e':O.kle (ky f p (m-1)) (ky f p m):=e;dsimp only;rw[ae (by simp)]
   refine⟨d.a.lt hn _,d.a.lt hn _,?_⟩;cases e2:gR f (p.getD (m-1) 0) (p.getD m 0)with
   |true=>exact hq p m q d (aK _) ∅
   |false=>
    have e3:ky f p m=ky f p (m-1):=O.total _ _ e e2;exact yb hn u p (m+1) (q+1) ∅ ⟨d.a,d.s.snoc m1 e2,by have:=d.le;omega,λi a b=>by
     rw[show m+1-1=m by omega]
     by_cases z:i=m
     . rw[z]
     . rw[d.r i ∅ ∅,e3]⟩ λp' m' q' d' b c=>hq p' m' q' d' ∅ ∅
theorem JV{Q:Nat×Array Nat->Prop}{m:Nat}(hn:0<n)(h1:1<=m)(hm:m<=n)(a:Ar n p)(s:SD f p m)(hq:∀m' p',Ar n p'->SU f p' m'->1<=m'->m'<=n->Q (m',p')):pw (gR f) n (kas_tail3 m n p) Q:=by
 unfold kas_tail3;exact rj (Bp (a.rev _ _) hn _ _ h1 ∅ (s.up (by rw[a.sz];exact hm)) λm' b c d _=>hq m' _ (a.rev _ _) d ∅ ∅)
theorem JW{Q:Nat×Array Nat->Prop}{m:Nat}(hn:0<n)(hm:m+1<=n)(a:Ar n p)(s:SD f p (m+1))(hq:∀m' p',Ar n p'->SU f p' m'->1<=m'->m'<=n->Q (m',p')):pw (gR f) n (kas_descPart m n p) Q:=by
 unfold kas_descPart;refine rj (yb hn _ p (m+1) 0 ∅ ⟨a,s,∅,λi b c=>by rw[show i=m+1-1 by omega]⟩ λp' m' q' d b c=>?_)
 dsimp only;split
 . have sm:=Az (f:=f) (p:=p') (i:=m'-(q'+1)) (j:=m') (by rw[d.a.sz];omega) d.r
   exact JV hn ∅ ∅ (d.a.rev _ _) (AW d.s sm) hq
 . exact JV hn ∅ ∅ d.a d.s hq
theorem Up(d:1<=n)(a:Ar n p)(g:∀l t,Ar n t->SU f t l->1<=l->l<=n->Q (l,t)):pw (gR f) n (kas_count n p) Q:=by
 unfold kas_count;refine rj (Bp a d _ 1 (aK _) ∅ (λi j b c=>by rw[show i=j by omega];exact KeyOrd.kle_refl _) λm b c o z=>?_)
 split
 . exact g m p a o b ∅
 . rename_i y
   have A:m≠n:=by simpa using y
   have z:O.klt (ky f p m) (ky f p (m-1)):=z.resolve_left ∅
   split
   . refine⟨a.lt d _,a.lt d _,?_⟩
     cases e:gR f (p.getD 0 0) (p.getD (m-1) 0)with
     |true=>exact g m p a o b ∅
     |false=>
      have x:O.kle (ky f p (m-1)) (ky f p 0):=e;have r:∀k,0<=k->k<m->ky f p k=ky f p (m-1):=λk _ h=>KeyOrd.kle_antisymm (o k (m-1) ∅ ∅) (KeyOrd.kle_trans x (o 0 k ∅ h))
      have v:=Az (f:=f) (p:=p) (i:=0) (j:=m) (by rw[a.sz];omega) r
      have u:SD f p m:=λi j s w=>by rw[r j ∅ w,r i ∅ ∅];exact KeyOrd.kle_refl _
      exact JW d ∅ (a.rev _ _) ((AW u v).snoc b (by rw[v,v];exact KeyOrd.kle_of_klt z)) g
   . have:m=1:=by omega
     subst this;have u:SD f p 1:=λi j s w=>by rw[show i=j by omega];exact KeyOrd.kle_refl _
     exact JW d ∅ a (u.snoc b (KeyOrd.kle_of_klt z)) g
theorem AH(a:Ar n p)(d:0<n)(h:SU f p k)(g:∀l,l<=k->(∀i,i<l->O.kle (ky f p i) (ky f p k))->(∀i,l<=i->i<k->O.kle (ky f p k) (ky f p i))->Q l):
 ∀u l r,l<=r->r<=k->r-l<=u->(∀i,i<l->O.kle (ky f p i) (ky f p k))->(∀i,r<=i->i<k->O.kle (ky f p k) (ky f p i))->pw (gR f) n (kas_place p k u l r) Q
 |0,l,r,h1,h2,h3,h4,h5=>g l ∅ h4 (by rw[show l=r by omega];exact h5)
 |u+1,l,r,h1,h2,h3,h4,h5=>by
  unfold kas_place;split
  . exact g l ∅ h4 (by rw[show l=r by omega];exact h5)
  . refine⟨a.lt d _,a.lt d _,?_⟩
    cases e:gR f (p.getD k 0) (p.getD ((l+r) / 2) 0)with
    |true=>
     have j:O.klt (ky f p k) (ky f p ((l+r) / 2)):=e;exact AH a d h g u l ((l+r) / 2) ∅ ∅ ∅ h4 λi b c=>KeyOrd.kle_trans (KeyOrd.kle_of_klt j) (h _ i b c)
    |false=>
     have j:O.kle (ky f p ((l+r) / 2)) (ky f p k):=e;exact AH a d h g u ((l+r) / 2+1) r ∅ h2 ∅ (λi b=>KeyOrd.kle_trans (h i _ ∅ ∅) j) h5
theorem Ku{k l:Nat}(a:k<p.size)(b:l<=k)(i:Nat):ky f (bubble p k (k-l)) i=if i=l then ky f p k else if l<i/\i<=k then ky f p (i-1)else ky f p i:=by
 unfold ky;rw[nH,getElem?_bubble a _ ∅,nH,nH,nH,show k-(k-l)=l by omega]
 repeat' split
 all_goals rfl
theorem K8(r:0<n)(t:∀g,Ar n g->SU f g n->Q g):∀(u:Nat) (p:Array Nat) (k:Nat),Ar n p->SU f p k->k+u=n->pw (gR f) n (kas_bin u p k) Q
 |0,p,k,a,s,h=>t p a (by rw[<-show k=n by omega];exact s)
 |u+1,p,k,a,s,h=>by
  refine rj (AH a r s (λl o lo hi=>K8 r t u _ (k+1) (a.NO _ _) (λi j v y=>?_) ∅) k 0 k (jY _) (aK _) ∅ (λi z=>ba z (sF _)) λi b c=>ba c ∅)
  have m:k<p.size:=by rw[a.sz];omega
  rw[Ku m o,Ku m o]
  by_cases d:i=l<;>by_cases e:j=l
  . rw[ai d,ai e];exact KeyOrd.kle_refl _
  . rw[ai d,ae e,ai ⟨∅,∅⟩];exact hi _ ∅ ∅
  . rw[ae d,ai e,ae ∅];exact lo _ ∅
  . rw[ae d,ae e]
    by_cases w:l<i
    . rw[ai ⟨w,∅⟩,ai ⟨∅,∅⟩];exact s _ _ ∅ ∅
    . rw[ae ∅]
      by_cases x:l<j
      . rw[ai ⟨x,∅⟩];exact s _ _ ∅ ∅
      . rw[ae ∅];exact s _ _ ∅ ∅
theorem VM(b:1<=n)(c:∀p,Ar n p->SU f p n->Q p):pw (gR f) n (kas_sort n) Q:=by
 unfold kas_sort;refine rj (Up b ⟨by simp,by simp⟩ λm p a s d e=>?_)
 dsimp only;split
 . rw[show max m 1=m by omega]
   exact K8 b c _ p m a s ∅
 . exact c p a ((show m=n by omega) ▸ s)
end
end R
namespace L2
open PySem PySem.Spec PyProof.Rows
abbrev Key:=Sum Int Str
def jN:Key->Value->Bool
 | .inl k,v=>Value.isInt k v
 | .inr x,v=>Value.isStrOf x v
def EB(w:World):Key->Int
 | .inl k=>hashInt k
 | .inr x=>hashStr w x
theorem iX:∀{k:Key} {v:Value},jN k v=true->(∃i t,k=Sum.inl i/\v=Value.int i t)∨(∃x t,k=Sum.inr x/\v=Value.str x t)
 | .inl i,v,h=>by
  obtain⟨t,e⟩:=Value.isInt_shape (k:=i) (v:=v) h;exact .inl ⟨i,t,rfl,e⟩
 | .inr x,v,h=>by
  obtain⟨t,e⟩:=Value.isStrOf_shape (x:=x) (v:=v) h;exact .inr ⟨x,t,rfl,e⟩
theorem TM(i)(t):jN (.inl i) (.int i t)=true:=by simp[jN,Value.isInt]
theorem TL(x)(t):jN (.inr x) (.str x t)=true:=by simp[jN,Value.isStrOf]
theorem X5(a b):decide ((Sum.inl a:Key)=Sum.inl b)=(a==b):=by
 by_cases e:a=b
 . subst e;simp
 . have h:¬(Sum.inl a:Key)=Sum.inl b:=λq=>e (Sum.inl.inj q)
   rw[gL h];exact(nZ.mpr e).symm
theorem X1(a b):decide ((Sum.inr a:Key)=Sum.inr b)=decide (a=b):=by
 by_cases e:a=b
 . subst e;simp
 . have h:¬(Sum.inr a:Key)=Sum.inr b:=λq=>e (Sum.inr.inj q)
   rw[gL h,gL e]
theorem X4(a)(b):decide ((Sum.inl a:Key)=Sum.inr b)=false:=gL (λq=>nomatch q)
theorem X3(a)(b):decide ((Sum.inr a:Key)=Sum.inl b)=false:=gL (λq=>nomatch q)
noncomputable def cX (prog:Program)(w:World):PySem.KeyKind prog w Key where
 is:=jN
 hash:=EB w
 inj:=λv a b ha hb=>by
  rcases iX ha with⟨i,t,rfl,rfl⟩|⟨x,t,rfl,rfl⟩
  . rcases iX hb with⟨j,u,rfl,e⟩|⟨y,u,rfl,e⟩
    . injection e with e1 _;rw[e1]
    . exact nomatch e
  . rcases iX hb with⟨j,u,rfl,e⟩|⟨y,u,rfl,e⟩
    . exact nomatch e
    . injection e with e1 _;rw[e1]
 byValue:=λk v h=>by
  rcases iX h with⟨i,t,rfl,rfl⟩|⟨x,t,rfl,rfl⟩<;>rfl
 pyHash:=λhv h=>by
  rcases iX hv with⟨i,t,rfl,rfl⟩|⟨x,t,rfl,rfl⟩
  . exact wpAny_pyHash_int h
  . exact wpAny_pyHash_str h
 eqBool:=λhu hv h=>by
  rcases iX hu with⟨i,t,rfl,rfl⟩|⟨x,t,rfl,rfl⟩
  . rcases iX hv with⟨j,u,rfl,rfl⟩|⟨y,u,rfl,rfl⟩
    . rw[X5]at h;exact wpAny_eqBool_int h
    . rw[X4]at h;exact SeqAt.EqAt.int_str i t y u _ _ _ _ h
  . rcases iX hv with⟨j,u,rfl,rfl⟩|⟨y,u,rfl,rfl⟩
    . rw[X3]at h;exact SeqAt.EqAt.str_int x t j u _ _ _ _ h
    . rw[X1]at h;exact wpAny_eqBool_str h
 «strs»:=λk x t v h=>by
  rcases iX h with⟨i,u,rfl,e⟩|⟨y,u,rfl,e⟩
  . exact nomatch e
  . injection e with e1 _
    subst e1;cases v<;>rfl
theorem RK(prog)(w)(i)(t):(cX prog w).is (.inl i) (.int i t)=true:=TM i t
theorem HK(prog)(w)(x)(t):(cX prog w).is (.inr x) (.str x t)=true:=TL x t
inductive V where
 |au|bl (b:Bool)|int (i:Int)|str (x:Str)|wx (b:Array UInt8)|lR (b:UInt64)|ref (a:Addr)|ty (n:String)
 deriving DecidableEq
abbrev LV:=List V
noncomputable def RelV:V->Value->Prop
 | .au,u=>u=Value.none
 | .bl b,u=>u=Value.bool b
 | .int i,u=>∃t,u=Value.int i t
 | .str x,u=>∃t,u=Value.str x t
 | .wx b,u=>∃t,u=Value.bytes b t
 | .lR b,u=>∃t,u=Value.float b t
 | .ref a,u=>u=Value.ref a
 | .ty n,u=>u=Value.type n
abbrev Vals:LV->ak->Prop:=Paired RelV
theorem Vals.length{us:ak}(r:Vals xs us):xs.length=us.length:=Paired.length r
theorem Vals.get:∀{xs:LV} {us:ak} {i:Nat} {x:V},Vals xs us->xs[i]? =some x->∃u,us[i]? =some u/\RelV x u
 |_,_,_,_,.nil,e=>by simp at e
 |_,_,0,_,.cons r _,e=>by simp at e;subst e;exact⟨_,rfl,r⟩
 |_,_,i+1,x,.cons _ t,e=>by
  obtain⟨u,a,b⟩:=Vals.get (i:=i) (x:=x) t (by simpa using e)
  exact⟨u,by simpa using a,b⟩
theorem Vals.set{x:V}(r:RelV x u):∀{xs:LV} {us:ak} (i:Nat),Vals xs us->Vals (xs.set i x) (us.set i u)
 |_,_,_,.nil=>.nil
 |_,_,0,.cons _ t=>.cons r t
 |_,_,i+1,.cons q t=>.cons q (Vals.set r i t)
theorem Vals.append:∀{xs a:LV} {us ws:ak},Vals xs us->Vals a ws->Vals (xs++a) (us++ws)
 |_,_,_,_,.nil,s=>s
 |_,_,_,_,.cons r t,s=>.cons r (Vals.append t s)
theorem Vals.take:∀{xs:LV} {us:ak} (n:Nat),Vals xs us->Vals (xs.take n) (us.take n)
 |_,_,0,_=>.nil
 |_,_,_+1,.nil=>.nil
 |_,_,n+1,.cons r t=>.cons r (Vals.take n t)
theorem Vals.drop:∀{xs:LV} {us:ak} (n:Nat),Vals xs us->Vals (xs.drop n) (us.drop n)
 |_,_,0,r=>r
 |_,_,_+1,.nil=>.nil
 |_,_,n+1,.cons _ t=>Vals.drop n t
def bN:Option V->cN->Prop
 |some v,some u=>RelV v u
 |none,none=>True
 |_,_=>False
def KV:List (κ×V)->List (κ×Value)->Prop:=Paired λ(p:κ×V) (q:κ×Value)=>p.1=q.1/\RelV p.2 q.2
def kV:Key->V
 | .inl i=>.int i
 | .inr x=>.str x
abbrev bC:=Option Key
def oV:bC->V
 |none=>.au
 |some k=>kV k
def yX:Option Key->Value->Bool
 |none,.none=>true
 |none,_=>false
 |some k,v=>jN k v
def wQ(w:World):Option Key->Int
 |none=>0xFCA86420
 |some k=>EB w k
theorem lZ:∀{k:Option Key} {v:Value},yX k v=true->(k=none/\v=Value.none)∨∃j,k=some j/\jN j v=true
 |none,v,h=>by cases v<;>first|exact .inl ⟨rfl,rfl⟩|(simp[yX]at h)
 |some k,v,h=>.inr ⟨k,rfl,h⟩
theorem HX:jN k Value.none=false:=by cases k<;>rfl
section
variable {prog:Program}{w:World}{A:Around}{E:aP}{s:Shared}
theorem Tu(h:Q 0xFCA86420 { s with toks:=s.toks+1 }):wpAny (model prog w) A (PySem.pyHash .none) Q E s:=by
 have a:s.TypeIs .none "NoneType":=rfl;unfold PySem.pyHash;have b:[Value.none].any Value.onHeap=false:=rfl;refine aj ?_;rw[cRoomFor,ae (by rw[b];exact hZ)];refine aH ?_
 refine aj (wpAny_specialOf a F.slot_NoneType_hash.lookup ?_);show wpAny _ _ (if(some (Value.builtin "NoneType.__hash__")==some Value.none)=true then _ else _) Q E s
 rw[ae (by rw[beq_builtin_none];exact hZ)]
 refine aj (wpAny_specialOf a F.slot_NoneType_hash.lookup ?_);show wpAny _ _ (callSpecialIfBoundUnlessNone? .none "__hash__" _ >>= _) Q E s;refine aj (wpAny_callSpecialIfBoundUnlessNone?_slot a F.slot_NoneType_hash
  (jx F.slot_NoneType_hash a F.entry_NoneType_hash
   (show wpAny _ _ (do ret (<-mkInt 0xFCA86420)) _ _ s from wpAny_ret_mkInt ?_) (F.args_NoneType_hash_1 _)))
 show wpAny _ _ (if(decide (-(2:Int) ^ 63<=0xFCA86420)&&decide ((0xFCA86420:Int)<2 ^ 63))=true then _ else _) Q E _
 rw[ai ⋯]
 exact aH h
end
noncomputable def optKind (prog:Program)(w:World):PySem.KeyKind prog w (Option Key) where
 is:=yX
 hash:=wQ w
 inj:=λv a b ha hb=>by
  rcases lZ ha with⟨rfl,rfl⟩|⟨j,rfl,hj⟩
  . rcases lZ hb with⟨rfl,_⟩|⟨i,rfl,hi⟩
    . rfl
    . rw[HX]at hi;cases hi
  . rcases lZ hb with⟨rfl,rfl⟩|⟨i,rfl,hi⟩
    . rw[HX]at hj;cases hj
    . rw[(cX prog w).inj v j i hj hi]
 byValue:=λk v h=>by
  rcases lZ h with⟨rfl,rfl⟩|⟨j,rfl,hj⟩
  . rfl
  . exact(cX prog w).byValue j v hj
 pyHash:=λhv h=>by
  rcases lZ hv with⟨rfl,rfl⟩|⟨j,rfl,hj⟩
  . exact Tu h
  . exact(cX prog w).pyHash hj h
 eqBool:=λ{A E s a b u v Q} hu hv h=>by
  rcases lZ hu with⟨rfl,rfl⟩|⟨i,rfl,hi⟩
  . rcases lZ hv with⟨rfl,rfl⟩|⟨j,rfl,hj⟩
    . exact SeqAt.EqAt.same _ _ _ _ _ (by simpa using h)
    . have e:decide ((none:Option Key)=some j)=false:=gL (λq=>nomatch q)
      rw[e]at h;rcases iX hj with⟨k,t,rfl,rfl⟩|⟨x,t,rfl,rfl⟩
      . exact SeqAt.EqAt.none_int k t _ _ _ _ h
      . exact SeqAt.EqAt.none_str x t _ _ _ _ h
  . rcases lZ hv with⟨rfl,rfl⟩|⟨j,rfl,hj⟩
    . have e:decide ((some i:Option Key)=none)=false:=gL (λq=>nomatch q)
      rw[e]at h;rcases iX hi with⟨k,t,rfl,rfl⟩|⟨x,t,rfl,rfl⟩
      . exact SeqAt.EqAt.int_none k t _ _ _ _ h
      . exact SeqAt.EqAt.str_none x t _ _ _ _ h
    . have e:decide (some i=some j)=decide (i=j):=by
       by_cases q:i=j
       . subst q;simp
       . rw[gL q,gL λz=>q (dH z)]
      rw[e]at h;exact(cX prog w).eqBool hi hj h
 «strs»:=λk x t v h=>by
  rcases lZ h with⟨rfl,e⟩|⟨j,rfl,hj⟩
  . cases e
  . exact(cX prog w).strs j x t v hj
inductive HO where
 |lst (xs:LV)
 |tup (xs:LV)
 |dK (kvs:List (Key×V))|dT (kvs:List (List bC×V))
 |set (S:Int->Bool) (n:Nat)
 |ins (C dx:Addr) (fs:List (Str×V))
 |own (x:Addr)
 |xd (fs:List (Str×V))
 |met (f x:Addr)
 |zk (lo hi:Int)
 |aZ (o:Obj) (u:HO)
 |nX (ps:Array Value)
 |ext (φ:Heap->Prop)
abbrev Hp:=Addr->Option HO
def upd(H:Hp)(a:Addr)(o:HO):Hp:=λb=>if b=a then some o else H b
theorem c6{a:Addr}:upd H a o a=some o:=by unfold upd;rw[ai rfl]
theorem aD{a b:Addr}(h:b≠a):upd H a o b=H b:=by unfold upd;rw[ae h]
theorem JD{a:Addr}:upd (upd H a o) a u=upd H a u:=by
 funext b;unfold upd;split<;>rfl
theorem jm{H:Hp}{a b:Addr}{o u:HO}(h:H a=some o)(h':H b=some u)(d:o≠u):a≠b:=by
 intro e;subst e;rw[h]at h';exact d (dH h')
theorem eC{H:Hp}{a b:Addr}{o:HO}(h:H a=some o)(h':H b=none):a≠b:=by
 intro e;subst e;rw[h]at h';cases h'
section
variable(P:Program)(w:World)
noncomputable def aC (H:Hp)(h:Heap)(a:Addr):HO->Prop
 | .lst b=>b.length<=sizeLine/\∃(ab:ak) (n:Nat),Vals b ab/\h.get? a=some { cls:=.type "list",data:=.seq ab.toArray n }
 | .tup b=>b.length<=sizeLine/\∃ab:ak,Vals b ab/\IsTup h a ab.toArray
 | .dK kvs=>kvs.length<=sizeLine/\(a==sysModules)=false/\∃vs,KV kvs vs/\h.DictOf (cX P w) a vs
 | .dT kvs=>kvs.length<=sizeLine/\(a==sysModules)=false/\∃b:List (List bC×Addr×Value),
  Paired (λ(p:List bC×V) (q:List bC×Addr×Value)=>p.1=q.1/\H q.2.1=some (.tup (p.1.map oV))/\RelV p.2 q.2.2) kvs b/\
  ∃o d i,h.get? a=some o/\o.ExactDict/\o.data= .dict d i/\d.toList=b.map (entryOfKey (tupleKind (optKind P w)))/\(b.map (·.1)).Nodup
 | .set S n=>h.SetOf (intKind P w) a S n
 | .ins C dx fs=>H dx=some (.own a)/\fs.length<=1000/\dx≠a/\h.get? a=some (oe C dx)/\
  ∃c,h.Ns1 dx c/\(∀f,bN (fs.lookup f) (c f))/\PySem.Within c (fs.map (·.1))
 | .own _=>∃o,h.get? a=some o
 | .xd fs=>∃c,h.Ns1 a c/\∀f,bN (fs.lookup f) (c f)
 | .zk lo hi=>∃t u v,h.get? a=some { cls:=.type "range",data:=.fields #[.int lo t,.int hi u,.int 1 v] }
 | .aZ o u=>h.get? a=some o/\aC H h a u
 | .nX ps=>h.get? a=some { cls:=.none,data:=.fields ps }
 | .met f x=>h.get? a=some (PySem.W.methodObj (.ref f) (.ref x))
 | .ext φ=>φ h/\(∃o,h.get? a=some o)/\∀e g:Heap,φ e->(∀o,e.get? a=some o->g.get? a=some o)->φ g
def cM(H:Hp)(h:Heap):Prop:=∀a o,H a=some o->aC P w H h a o
end
section
variable {P:Program}{w:World}{H H':Hp}{h h':Heap}{a:Addr}{o:HO}
theorem aC.lt(x:aC P w H h a o):a<h.objs.size:=by
 cases o with
 |lst xs=>obtain⟨_,_,_,_,e⟩:=x;exact bx e
 |tup xs=>obtain⟨_,_,_,p⟩:=x;exact p.lt
 |dK kvs=>obtain⟨_,_,_,_,o,_,_,e,_⟩:=x;exact bx e
 |dT kvs=>obtain⟨_,_,_,_,o,_,_,e,_⟩:=x;exact bx e
 |set S n=>obtain⟨o,_,_,_,e,_⟩:=x;exact bx e
 |ins C dx fs=>obtain⟨_,_,_,e,_⟩:=x;exact bx e
 |own y=>obtain⟨_,e⟩:=x;exact bx e
 |xd fs=>obtain⟨_,⟨_,_,_,e,_⟩,_⟩:=x;exact bx e
 |zk lo hi=>obtain⟨_,_,_,e⟩:=x;exact bx e
 |aZ ob u=>obtain⟨e,_⟩:=x;exact bx e
 |nX ps=>exact bx (show h.get? a=some _ from x)
 |met f y=>exact bx (show h.get? a=some _ from x)
 |ext φ=>obtain⟨_,⟨_,e⟩,_⟩:=x;exact bx e
theorem Paired.pA{F G:α->β->Prop}:∀{c:List α} {l₂:List β},Paired F c l₂->(∀a b,F a b->G a b)->Paired G c l₂
 |_,_,.nil,_=>.nil
 |_,_,.cons r t,f=>.cons (f _ _ r) (Paired.pA t f)
theorem aC.eF(x:aC P w H h a o)(k:∀b u,(b=a∨H b=some (.own a))->h.get? b=some u->h'.get? b=some u)
 (A:∀b,H b=some (.own a)->H' b=some (.own a)) (D:∀b j,H b=some (.tup j)->H' b=some (.tup j)):aC P w H' h' a o:=by
 induction o with
 |lst j=>obtain⟨z,ab,n,r,e⟩:=x;exact⟨z,ab,n,r,k _ _ (.inl rfl) e⟩
 |tup j=>obtain⟨z,ab,r,ob,e,c⟩:=x;exact⟨z,ab,r,ob,k _ _ (.inl rfl) e,c⟩
 |dK kvs=>obtain⟨z,y,vs,r,ob,i,g,e,c⟩:=x;exact⟨z,y,vs,r,ob,i,g,k _ _ (.inl rfl) e,c⟩
 |dT kvs=>
  obtain⟨z,y,j,r,ob,i,g,e,c⟩:=x;exact⟨z,y,j,Paired.pA r λp q z=>⟨z.1,D _ _ z.2.1,z.2.2⟩,ob,i,g,k _ _ (.inl rfl) e,c⟩
 |set S n=>obtain⟨ob,i,g,t,e,c⟩:=x;exact⟨ob,i,g,t,k _ _ (.inl rfl) e,c⟩
 |ins C dx fs=>
  obtain⟨d,z,E,e,l,⟨m,i,g,s,c⟩,r⟩:=x;exact⟨A _ d,z,E,k _ _ (.inl rfl) e,l,⟨m,i,g,k _ _ (.inr d) s,c⟩,r⟩
 |own y=>obtain⟨ob,e⟩:=x;exact⟨ob,k _ _ (.inl rfl) e⟩
 |xd fs=>obtain⟨l,⟨m,i,g,e,c⟩,r⟩:=x;exact⟨l,⟨m,i,g,k _ _ (.inl rfl) e,c⟩,r⟩
 |zk lo hi=>obtain⟨t,u,v,e⟩:=x;exact⟨t,u,v,k _ _ (.inl rfl) e⟩
 |aZ ob u ih=>obtain⟨e,q⟩:=x;exact⟨k _ _ (.inl rfl) e,ih q⟩
 |nX ps=>
  have e:h.get? a=some { cls:=.none,data:=.fields ps }:=x;show h'.get? a=some { cls:=.none,data:=.fields ps };exact k a _ (.inl rfl) e
 |met f y=>
  have e:h.get? a=some (PySem.W.methodObj (.ref f) (.ref y)):=x;show h'.get? a=some (PySem.W.methodObj (.ref f) (.ref y));exact k a _ (.inl rfl) e
 |ext φ=>obtain⟨p,⟨o,e⟩,st⟩:=x;exact⟨st _ _ p λo q=>k _ _ (.inl rfl) q,⟨o,k _ _ (.inl rfl) e⟩,st⟩
theorem cM.lt(x:cM P w H h)(e:H a=some o):a<h.objs.size:=(x a o e).lt
theorem cM.fresh(x:cM P w H h)(e:h.objs.size<=a):H a=none:=by
 cases q:H a with
 |none=>rfl
 |some u=>exact ba (fu (x.lt q) e) (jV _)
theorem cM.kept(x:cM P w H h)(k:∀b u,h.get? b=some u->h'.get? b=some u):cM P w H h':=λa o e=>
 (x a o e).eF (λb u _ q=>k b u q) (λ_ q=>q) λ_ _ q=>q
theorem cM.laid(x:cM P w H h)(k:∀b u,h.get? b=some u->h'.get? b=some u)(i:h.objs.size<=a)(d:aC P w (upd H a o) h' a o):cM P w (upd H a o) h':=λb u e=>by
 have g:=x.fresh i
 by_cases f:b=a
 . subst f;rw[c6]at e;cases e;exact d
 . rw[aD f]at e
   exact(x b u e).eF (λc v _ q=>k c v q) (λc q=>by rw[aD (eC q g)];exact q) λc j q=>by rw[aD (eC q g)];exact q
end
def Rd(H:Hp)(a:Addr)(u:HO):Prop:=H a=some u∨∃o,H a=some (.aZ o u)
theorem Rd.ok{P:Program}{a:Addr}(r:Rd H a u)(x:cM P w H h):aC P w H h a u:=by
 rcases r with r|⟨o,r⟩
 . exact x a u r
 . obtain⟨_,q⟩:=x a _ r
   exact q
noncomputable def sI:Option HO->Prop
 |some (.lst _)=>True
 |some (.dK _)=>True
 |some (.dT _)=>True
 |some (.set _ _)=>True
 |some (.ins _ _ _)=>True
 |some (.ext _)=>True
 |_=>False
section
variable {P:Program}{w:World}{H:Hp}{h h':Heap}{x e:Addr}{o':HO}
theorem cM.write(A:cM P w H h)(j:sI (H x))(o:e=x∨H e=some (.own x))(k:∀b u,b≠e->h.get? b=some u->h'.get? b=some u)(m:∃u,h'.get? e=some u)
 (n:aC P w (upd H x o') h' x o'):cM P w (upd H x o') h':=λb u q=>by
 have d:∀c y,H c=some (.own y)->c≠x:=λc y r z=>by subst z;rw[r]at j;exact j
 have f:∀c l,H c=some (.tup l)->c≠x:=λc l r z=>by subst z;rw[r]at j;exact j
 by_cases g:b=x
 . subst g;rw[c6]at q;cases q;exact n
 . rw[aD g]at q
   by_cases a:b=e
   . have s:H b=some (.own x):=by
      rcases o with z|z
      . exact ba (a.trans z) g
      . rw[a];exact z
     rw[q]at s;cases s;obtain⟨v,t⟩:=m;exact⟨v,by rw[a];exact t⟩
   . refine(A b u q).eF (λc v i r=>k c v ?_ r) (λc r=>by rw[aD (d c b r)];exact r) λc l r=>by rw[aD (f c l r)];exact r
     rcases i with rfl|i
     . exact a
     . rintro rfl
       rcases o with z|z
       . exact d c b i z
       . rw[i]at z;cases z;exact g rfl
end
structure Un(fs ex:List Addr)(H H':Hp)(h h':Heap):Prop where
 keep:∀b o,h.get? b=some o->H b=none->b∉fs->b∉ex->h'.get? b=some o
 slot:∀b o,h.get? b=some o->H b=none->b∈fs->b∉ex->∃sl,h'.get? b=some { o with slots:=sl }
 free:∀b o,h.get? b=some o->H b=none->b∉ex->H' b=none
 there:∀b o,h.get? b=some o->b∉ex->∃o',h'.get? b=some o'
 bh:∀b xs,H b=some (.tup xs)->H' b=some (.tup xs)
 aJ:∀b o u,H b=some (.aZ o u)->H' b=some (.aZ o u)
 eG:∀b ps,H b=some (.nX ps)->∃more,H' b=some (.nX (ps++more))
section
variable {fs fs' ex ex':List Addr}{H H1 H2:Hp}{h h1 h2 h':Heap}{a x e:Addr}{o:HO}
theorem Un.any(u:Un fs ex H H1 h h1){b:Addr}{ob:Obj}(q:h.get? b=some ob)(n:H b=none)(hx:b∉ex):∃sl,h1.get? b=some { ob with slots:=sl }:=by
 by_cases c:b∈fs
 . exact u.slot b ob q n c hx
 . exact⟨ob.slots,u.keep b ob q n c hx⟩
theorem Un.kept(k:∀b u,h.get? b=some u->h'.get? b=some u):Un fs ex H H h h':=
 ⟨λb ob q _ _ _=>k b ob q,λb ob q _ _ _=>⟨ob.slots,k b ob q⟩,λ_ _ _ n _=>n,λb ob q _=>⟨ob,k b ob q⟩,λ_ _ q=>q,λ_ _ _ q=>q,λ_ c q=>⟨#[],by rw[q];simp⟩⟩
theorem Un.refl:Un fs ex H H h h:=Un.kept λ_ _ q=>q
theorem Un.laid(k:∀b u,h.get? b=some u->h'.get? b=some u)(d:h.objs.size<=a)(c:H a=none):Un fs ex H (upd H a o) h h' where
 keep:=λb u q _ _ _=>k b u q
 slot:=λb u q _ _ _=>⟨u.slots,k b u q⟩
 free:=λb u q n _=>by rw[aD (cJ (fu (bx q) d))];exact n
 there:=λb u q _=>⟨u,k b u q⟩
 bh:=λb f q=>by rw[aD (eC q c)];exact q
 aJ:=λb u f q=>by rw[aD (eC q c)];exact q
 eG:=λb g q=>⟨#[],by rw[aD (eC q c),q];simp⟩
theorem Un.write(d:sI (H x))(j:e=x∨H e=some (.own x))(k:∀b u,b≠e->h.get? b=some u->h'.get? b=some u)(f:∃u,h'.get? e=some u):Un fs ex H (upd H x o) h h':=by
 have hx:∀b,H b=none->b≠x:=λb n z=>by subst z;rw[n]at d;exact d
 have i:∀b,H b=none->b≠e:=λb n z=>by
  subst z;rcases j with r|r
  . exact hx b n r
  . rw[n]at r;cases r
 have g:∀b u,H b=some u->¬sI (some u)->b≠x:=λb u q nm z=>by subst z;rw[q]at d;exact nm d
 refine⟨λb u q n _ _=>k b u (i b n) q,λb u q n _ _=>⟨u.slots,k b u (i b n) q⟩,λb u q n _=>by rw[aD (hx b n)];exact n,λb u q _=>?_,
  λb l q=>by rw[aD (g b _ q λz=>z)];exact q,λb u l q=>by rw[aD (g b _ q λz=>z)];exact q,λb m q=>⟨#[],by rw[aD (g b _ q λz=>z),q];simp⟩⟩
 by_cases c:b=e
 . subst c;exact f
 . exact⟨u,k b u c q⟩
end
def zm(h:Heap)(H:Hp):List Addr:=(List.range h.objs.size).filter λa=>(H a).isSome
def iD(h:Heap)(H:Hp):Heap:=PySem.W.hideAll h (zm h H)
theorem IF(h)(H):(iD h H).objs.size=h.objs.size:=PySem.W.hideAll_size _ _
theorem AL{h:Heap}{b:Addr}(e:h.get? b=some o)(n:H b=none):(iD h H).get? b=some o:=
 PySem.W.hideAll_get _ e λhm=>by
  have q:(H b).isSome=true:=(dR.mp hm).2;rw[n]at q;simp at q
theorem JO{b:Addr}(e:(iD h H).get? b=some o):h.get? b=some o/\H b=none:=by
 have a:h.get? b=some o:=PySem.W.of_hideAll (zm h H) e;refine⟨a,?_⟩;cases q:H b with
 |none=>rfl
 |some x=>
  have c:b∈zm h H:=dR.mpr ⟨og.mpr (bx a),by simp[q]⟩
  have z:(iD h H).get? b=none:=PySem.W.hideAll_none (zm h H) c;rw[z]at e;cases e
def x6(g h:Heap)(L:Addr):aF:=(List.range h.objs.size).filterMap λa=>if a=L∨(g.get? a).isSome=true then none else(h.get? a).map λo=>(a,o)
theorem RL{g h:Heap}{L a:Addr}(c:a≠L)(d:g.get? a=none)(b:h.get? a=some o):(a,o)∈x6 g h L:=
 wc.mpr ⟨a,og.mpr (bx b),by simp[c,d,b]⟩
theorem Q9{g h:Heap}{p:Addr×Obj}(c:p∈x6 g h L):p.1≠L/\g.get? p.1=none/\h.get? p.1=some p.2:=by
 obtain⟨b,_,e⟩:=wc.mp c;split at e
 . cases e
 . rename_i a
   cases q:h.get? b with
   |none=>rw[q]at e;simp at e
   |some u=>
    rw[q]at e;simp only[Option.map_some,n9]at e;subst e;refine⟨λz=>a (.inl z),?_,q⟩
    show g.get? b=none;cases r:g.get? b with
    |none=>rfl
    |some v=>exact(a (.inr (by simp[r]))).elim
def rest(g h:Heap)(L d:Addr):aF:=(x6 g h L).filter λp=>decide (p.1≠d)
theorem I0{g h:Heap}{L d a:Addr}(b:a≠L)(c:g.get? a=none)(e:h.get? a=some o)(f:a≠d):(a,o)∈rest g h L d:=
 dR.mpr ⟨RL b c e,fg f⟩
theorem U6{g h:Heap}:News g L h (x6 g h L):=λp d=>let⟨a,b,c⟩:=Q9 d;⟨c,a,b⟩
theorem HE{g h h':Heap}(k:∀b o,g.get? b=some o->h.get? b=some o)(F:Fr g L h' m)(N:News g L h' (rest g h L d)):
 ∀b o,b≠L->b≠d->h.get? b=some o->h'.get? b=some o:=λb o a c e=>by
 cases q:g.get? b with
 |some u=>
  have:=k b u q;rw[e]at this;cases this;exact F.keep b _ q
 |none=>exact(N (b,o) (I0 a q e c)).1
structure Mod(K:ag)(mg:bo)(base:Heap):Prop where
 iR:K.In base
 glob:base.Ns mainGlobals mg
 blt:∃mb,base.Ns builtinsNs mb/\∀x:Str,x≠"__name__"->mb x=bootBuiltins x
 nolimit:base.NoLimit
structure Cx where
 prog:Program
 w:World
 K:ag
 mg:bo
 base:Heap
 A:Around
 N:aA
 s₀:Shared
 H₀:Hp
 env:Env
 outer:List Env
 stack:List Env
 ex:List Addr
 fn:Str->Bool
 calm:Bool
 pn:aF
 xe:aP
def ip(l:List Env):List Addr:=l.filterMap (·.frame)
abbrev Cx.fs(X:Cx):List Addr:=ip X.outer
def qM(sc:Scope)(x:Str):Prop:=sc.names.lookup x=some .local∨sc.names.lookup x=some .cell∨sc.names.lookup x=some .free
def Loc(sc:Scope)(x:Str):Prop:=sc.names.lookup x=some .local∨sc.names.lookup x=some .cell
def Look(env:Env)(h:Heap)(m:bo)(x:Str)(u:Value):Prop:=
 (env.kindOf x=some .local/\m x=some u)∨((env.kindOf x=some .cell∨env.kindOf x=some .free)/\∃c,env.cells.lookup x=some c/\h.IsCell c (some u))
structure Cx.Ok(X:Cx):Prop where
 mod:Mod X.K X.mg X.base
 kind:X.env.scope.kind= .function
 glob:X.env.globals=mainGlobals
 blt:X.env.builtins=builtinsNs
 above:X.s₀.heap.objs.size<=X.env.locals
 inj:∀x y c,X.env.cells.lookup x=some c->X.env.cells.lookup y=some c->x=y
 has:∀x,(X.env.kindOf x=some .cell∨X.env.kindOf x=some .free)->∃c,X.env.cells.lookup x=some c
 qN:∀x c,X.fn x=true->X.env.cells.lookup x=some c->X.s₀.heap.objs.size<=c
 hd:X.calm=true->X.A.handled=none
 frames:X.A.frames=some X.stack
 vN:X.stack=X.outer∨(X.stack=X.env::X.outer/\X.env.frame=some X.env.locals)
 sT:∀b∈X.ex,b≠X.env.locals/\∀x c,X.env.cells.lookup x=some c->c≠b
 bs:∀b o,X.base.get? b=some o->X.s₀.heap.get? b=some o/\X.H₀ b=none
 jd:X.base.objs.size<=X.s₀.heap.objs.size
 iu:∀b o,X.base.get? b=some o->b∉X.ex
 il:∀b∈X.ex,b∉X.fs
 dP:X.s₀.heap.FunFrames X.base X.outer
 nh:∀b∈X.fs,X.H₀ b=none
structure Inv(X:Cx)(pins:aF)(σ:List (Option V))(H:Hp)(s:Shared):Prop where
 ok:X.Ok
 os:s.os=X.s₀.os
 bare:AllBare s.gens
 base:Un X.fs X.ex X.H₀ H X.s₀.heap s.heap
 loc:∃m,s.heap.Ns X.env.locals m/\∀(i:Nat) (x:Str) (v:V),X.N[i]? =some x->σ[i]? =some (some v)->qM X.env.scope x->∃u,RelV v u/\Look X.env s.heap m x u
 cell:∀x c,X.env.cells.lookup x=some c->∃v,s.heap.IsCell c v
 free:H X.env.locals=none
 bO:∀x c,X.env.cells.lookup x=some c->H c=none
 pin:∀p∈X.pn++pins,s.heap.get? p.1=some p.2/\H p.1=none/\p.1≠X.env.locals/\p.1∉X.fs/\∀v,p.2.data≠.cell v
 av:cM X.prog X.w H s.heap
 len:σ.length=X.N.length
section
variable {X:Cx}{pins:aF}{σ:List (Option V)}{H H':Hp}{s:Shared}{h':Heap}
theorem Cx.Ok.Ac(ok:X.Ok){b:Addr}(e:X.base.get? b=some o):b∉X.fs:=λhb=>by
 have:=(ok.dP.mem hb).1;rw[e]at this;cases this
theorem Inv.bs(I:Inv X pins σ H s):∀b o,X.base.get? b=some o->s.heap.get? b=some o/\H b=none:=λb o e=>
 ⟨I.base.keep b o (I.ok.bs b o e).1 (I.ok.bs b o e).2 (I.ok.Ac e) (I.ok.iu b o e),I.base.free b o (I.ok.bs b o e).1 (I.ok.bs b o e).2 (I.ok.iu b o e)⟩
theorem Inv.bk(I:Inv X pins σ H s):∀b o,X.base.get? b=some o->s.heap.get? b=some o:=λb o e=>(I.bs b o e).1
theorem Inv.mod(I:Inv X pins σ H s):Mod X.K X.mg X.base:=I.ok.mod
theorem Inv.dj(I:Inv X pins σ H s):X.K.In s.heap:=I.ok.mod.iR.keeps I.bk
theorem Inv.fr(I:Inv X pins σ H s):∃m,Fr X.base X.env.locals s.heap m:=
 let⟨m,hn,_⟩:=I.loc
 ⟨m,hn,I.bk,bR I.ok.jd I.ok.above⟩
theorem Inv.lt(I:Inv X pins σ H s):X.env.locals<s.heap.objs.size:=let⟨_,hn,_⟩:=I.loc;hn.lt
theorem Inv.sz(I:Inv X pins σ H s):X.s₀.heap.objs.size<=s.heap.objs.size:=bR I.ok.above (jX I.lt)
theorem Inv.tj(I:Inv X pins σ H s){a:Addr}(h:s.heap.objs.size<=a):a∉X.fs:=λhb=>by
 obtain⟨_,o,ho,_⟩:=I.ok.dP.mem hb;exact ba (fu (bx ho) (bR I.sz h)) (jV _)
theorem Inv.oz(I:Inv X pins σ H s):∀x c,X.env.cells.lookup x=some c->c≠X.env.locals:=λx c e z=>by
 obtain⟨v,o,f,d⟩:=I.cell x c e;obtain⟨m,⟨i,h,g,b,a,_⟩,_⟩:=I.loc;rw[z,b]at f;cases f;rw[a]at d;cases d
theorem Inv.dP(I:Inv X pins σ H s):s.heap.FunFrames X.base X.outer:=by
 have a:∀(l:List Env),(∀b∈ip l,b∈X.fs)->X.s₀.heap.FunFrames X.base l->s.heap.FunFrames X.base l:=by
  intro l
  induction l with
  |nil=>intro _ _;trivial
  |cons env r ih=>
   intro hs i;obtain⟨h,⟨L,o,f,j,k,g⟩,m⟩:=i;have c:L∈X.fs:=hs L (by unfold ip;rw[List.filterMap_cons,f];exact ia)
   obtain⟨sl,e⟩:=I.base.slot L o k (I.ok.nh L c) c λz=>I.ok.il L z c
   exact⟨h,⟨L,_,f,j,e,g⟩,ih (λb d=>hs b (by unfold ip;rw[List.filterMap_cons,f];exact gw _ d)) m⟩
 exact a X.outer (λ_ d=>d) I.ok.dP
theorem Inv.stack(I:Inv X pins σ H s):s.heap.FunFrames X.base X.stack:=by
 rcases I.ok.vN with e|⟨e,a⟩
 . rw[e];exact I.dP
 . rw[e]
   obtain⟨m,b,_⟩:=I.loc;refine .cons (by rw[I.ok.kind];decide) a b ?_ I.dP
   exact Heap.get?_none_of_le (bR I.ok.jd I.ok.above)
theorem Inv.fJ(I:Inv X pins σ H s):∀b∈ip X.stack,b∈X.env.locals::X.fs:=λb a=>by
 rcases I.ok.vN with e|⟨e,c⟩
 . rw[e]at a;exact gw _ a
 . rw[e]at a
   unfold ip at a;rw[List.filterMap_cons,c]at a;exact a
theorem Inv.fI(I:Inv X pins σ H s):∀b∈ip X.stack,H b=none:=λb a=>by
 rcases dh.mp (I.fJ b a)with e|a
 . rw[e];exact I.free
 . obtain⟨_,o,c,_⟩:=I.ok.dP.mem a
   exact I.base.free b o c (I.ok.nh b a) λz=>I.ok.il b z a
theorem Inv.step{t':Nat}{d':Drawn}{ch:List Addr}(I:Inv X pins σ H s)
 (hch:∀b∈ch,(b∈X.ex∨X.s₀.heap.objs.size<=b)/\b≠X.env.locals/\(∀x c,X.env.cells.lookup x=some c->c≠b)/\∀p∈X.pn++pins,p.1≠b)
 (keep:∀b o,b≠X.env.locals->b∉X.fs->b∉ch->s.heap.get? b=some o->H b=none->h'.get? b=some o)
 (slot:∀b o,b≠X.env.locals->b∈X.fs->b∉ch->s.heap.get? b=some o->H b=none->∃sl,h'.get? b=some { o with slots:=sl }) (free:∀b o,b∉ch->s.heap.get? b=some o->H b=none->H' b=none)
 (there:∀b o,b∉ch->s.heap.get? b=some o->∃o',h'.get? b=some o')
 (bh:∀b xs,H b=some (.tup xs)->H' b=some (.tup xs)) (aJ:∀b o u,H b=some (.aZ o u)->H' b=some (.aZ o u)) (eG:∀b ps,H b=some (.nX ps)->∃more,H' b=some (.nX (ps++more)))
 (ns:∀m,s.heap.Ns X.env.locals m->h'.Ns X.env.locals m) (av:cM X.prog X.w H' h') (hg:AllBare g'):
 Inv X pins σ H' { s with heap:=h',gens:=g',drawn:=d',toks:=t' }:=by
 have neL:∀b o,X.s₀.heap.get? b=some o->b≠X.env.locals:=λb o e=>cJ (fu (bx e) I.ok.above)
 have neC:∀b o,X.s₀.heap.get? b=some o->b∉X.ex->b∉ch:=λb o e hx hb=>by
  rcases(hch b hb).1 with z|z
  . exact hx z
  . exact ba (fu (bx e) z) (jV _)
 have cellK:∀x c,X.env.cells.lookup x=some c->∀v,s.heap.IsCell c v->h'.IsCell c v:=λx c e v ⟨o,ho,hd⟩=>by
  have nch:c∉ch:=λz=>(hch c z).2.2.1 x c e rfl
  by_cases hc:c∈X.fs
  . obtain⟨sl,q⟩:=slot c o (I.oz x c e) hc nch ho (I.bO x c e)
    exact⟨_,q,hd⟩
  . exact⟨o,keep c o (I.oz x c e) hc nch ho (I.bO x c e),hd⟩
 refine⟨I.ok,I.os,hg,⟨λb o e n hb hx=>?_,λb o e n hb hx=>?_,λb o e n hx=>?_,λb o e hx=>?_,λb xs e=>bh b xs (I.base.bh b xs e),λb o xs e=>aJ b o xs (I.base.aJ b o xs e),λb ps e=>?_⟩,?_,λx c e=>?_,?_,λx c e=>?_,λp hp=>?_,av,I.len⟩
 . exact keep b o (neL b o e) hb (neC b o e hx) (I.base.keep b o e n hb hx) (I.base.free b o e n hx)
 . obtain⟨sl,e1⟩:=I.base.slot b o e n hb hx
   obtain⟨sl',e2⟩:=slot b _ (neL b o e) hb (neC b o e hx) e1 (I.base.free b o e n hx);exact⟨sl',e2⟩
 . obtain⟨o',e1⟩:=I.base.there b o e hx
   exact free b o' (neC b o e hx) e1 (I.base.free b o e n hx)
 . obtain⟨o',e1⟩:=I.base.there b o e hx
   exact there b o' (neC b o e hx) e1
 . obtain⟨m1,e1⟩:=I.base.eG b ps e
   obtain⟨m2,e2⟩:=eG b _ e1;exact⟨m1++m2,by rw[e2,Array.append_assoc]⟩
 . obtain⟨m,hn,hl⟩:=I.loc
   refine⟨m,ns m hn,λi x v e1 e2 e3=>?_⟩
   obtain⟨u,r,l⟩:=hl i x v e1 e2 e3;refine⟨u,r,?_⟩;rcases l with l|⟨k,c,e,z⟩
   . exact .inl l
   . exact .inr ⟨k,c,e,cellK x c e _ z⟩
 . obtain⟨v,z⟩:=I.cell x c e
   exact⟨v,cellK x c e v z⟩
 . obtain⟨m,⟨o,_,_,ho,_⟩,_⟩:=I.loc
   exact free _ o (λz=>(hch _ z).2.1 rfl) ho I.free
 . obtain⟨v,o,ho,hd⟩:=I.cell x c e
   exact free c o (λz=>(hch c z).2.2.1 x c e rfl) ho (I.bO x c e)
 . obtain⟨e,n,ne,nf,d⟩:=I.pin p hp
   have nch:p.1∉ch:=λz=>(hch p.1 z).2.2.2 p hp rfl
   exact⟨keep p.1 p.2 ne nf nch e n,free p.1 p.2 nch e n,ne,nf,d⟩
theorem Inv.un(I:Inv X pins σ H s)(u:Un X.fs [] H H' s.heap h')(h:cM X.prog X.w H' h'):Inv X pins σ H' { s with heap:=h',toks:=t' }:=by
 obtain⟨m,⟨o,t,l,g,r⟩,_⟩:=id I.loc;obtain⟨sl,i⟩:=u.any g I.free (by simp)
 exact I.step (g':=s.gens) (d':=s.drawn) (ch:=[]) (λ_ z=>nomatch z) (λb o _ f _ e n=>u.keep b o e n f (by simp)) (λb o _ f _ e n=>u.slot b o e n f (by simp)) (λb o _ e n=>u.free b o e n (by simp)) (λb o _ e=>u.there b o e (by simp)) u.bh u.aJ u.eG (λm' j=>by
  obtain⟨v,d,c,a,k⟩:=j;rw[g]at a;cases a;exact⟨_,d,c,i,k⟩) h I.bare
theorem Inv.call{ch:List Addr}(I:Inv X pins σ H s)(u:Un (ip X.stack) ch H H' s.heap h')(k:cM X.prog X.w H' h')(t:AllBare g')
 (d:∀b∈ch,(b∈X.ex∨X.s₀.heap.objs.size<=b)/\b≠X.env.locals/\(∀x c,X.env.cells.lookup x=some c->c≠b)/\∀p∈X.pn++pins,p.1≠b):
 Inv X pins σ H' { s with heap:=h',gens:=g',drawn:=d',toks:=t' }:=by
 obtain⟨m,⟨o,A,y,j,r⟩,_⟩:=id I.loc;obtain⟨sl,i⟩:=u.any j I.free λz=>(d _ z).2.1 rfl
 exact I.step (ch:=ch) d (λb o i l a e n=>u.keep b o e n (λz=>(dh.mp (I.fJ b z)).elim i l) a) (λb o _ _ a e n=>u.any e n a) (λb o a e n=>u.free b o e n a) (λb o a e=>u.there b o e a) u.bh u.aJ u.eG (λm' v=>by
  obtain⟨C,h,g,f,w⟩:=v;rw[j]at f;cases f;exact⟨_,h,g,i,w⟩) k t
theorem Inv.turned(I:Inv X pins σ H s)(k:∀b o,b≠it->s.heap.get? b=some o->h'.get? b=some o)(w:H it=none)(f:it≠X.env.locals)
 (i:it∈X.ex∨X.s₀.heap.objs.size<=it) (j:∀x c,X.env.cells.lookup x=some c->c≠it) (l:∀p∈X.pn++pins,p.1≠it):Inv X pins σ H { s with heap:=h',toks:=t' }:=by
 have d:∀b u,H b=some u->b≠it:=λb u e z=>by rw[z,w]at e;cases e
 refine I.step (g':=s.gens) (d':=s.drawn) (ch:=[it]) (λb m=>?_) (λb o _ _ a e _=>k b o (λz=>a (by simp[z])) e) (λb o _ _ a e _=>⟨o.slots,k b o (λz=>a (by simp[z])) e⟩) (λ_ _ _ _ n=>n)
  (λb o a e=>⟨o,k b o (λz=>a (by simp[z])) e⟩) (λ_ _ e=>e) (λ_ _ _ e=>e) (λb A e=>⟨#[],by rw[e];simp⟩) (λm t=>?_) (λb u e=>?_) I.bare
 . have e:b=it:=by simpa using m
   subst e;exact⟨i,f,j,l⟩
 . obtain⟨o,h,g,y,r⟩:=t
   exact⟨o,h,g,k _ o (bZ f) y,r⟩
 . refine(I.av b u e).eF (λc v a q=>k c v ?_ q) (λ_ q=>q) λ_ _ q=>q
   rcases a with z|z
   . rw[z];exact d b u e
   . exact d c _ z
theorem Inv.tok(I:Inv X pins σ H s)(t:Nat):Inv X pins σ H { s with toks:=t }:=I.un (h':=s.heap) (t':=t) Un.refl I.av
theorem Inv.kept(I:Inv X pins σ H s)(k:∀b u,s.heap.get? b=some u->h'.get? b=some u):Inv X pins σ H { s with heap:=h',toks:=t' }:=I.un (Un.kept k) (I.av.kept k)
theorem Inv.laid{a:Addr}(I:Inv X pins σ H s)(k:∀b u,s.heap.get? b=some u->h'.get? b=some u)(c:s.heap.objs.size<=a)(d:aC X.prog X.w (upd H a o) h' a o):
 Inv X pins σ (upd H a o) { s with heap:=h',toks:=t' }:=I.un (Un.laid k c (I.av.fresh c)) (I.av.laid k c d)
theorem Inv.write{x e:Addr}(I:Inv X pins σ H s)(f:sI (H x))(d:e=x∨H e=some (.own x))(k:∀b u,b≠e->s.heap.get? b=some u->h'.get? b=some u)(a:∃u,h'.get? e=some u)
 (c:aC X.prog X.w (upd H x o) h' x o):Inv X pins σ (upd H x o) { s with heap:=h',toks:=t' }:=I.un (Un.write f d k a) (I.av.write f d k a c)
theorem Inv.eM(I:Inv X pins σ H s)(h:∀p∈a,s.heap.get? p.1=some p.2/\H p.1=none/\p.1≠X.env.locals/\p.1∉X.fs/\∀v,p.2.data≠.cell v):Inv X a σ H s:=
 ⟨I.ok,I.os,I.bare,I.base,I.loc,I.cell,I.free,I.bO,λp b=>(dW.mp b).elim (λz=>I.pin p (zr _ z)) (h p),I.av,I.len⟩
theorem IX{N:aA}(d:N.Nodup){i j:Nat}{x:Str}(a:N[i]? =some x)(b:N[j]? =some x):i=j:=by
 obtain⟨e,e1⟩:=jT.mp a;obtain⟨f,c⟩:=jT.mp b;exact(List.getElem_inj d).mp (e1.trans c.symm)
theorem Iw{i:Nat}{x:Str}{v:V}(I:Inv X pins σ H s)(hN:X.N.Nodup)(hi:X.N[i]? =some x)(hx:Loc X.env.scope x)(r:RelV v u)
 (h:∀s',Inv X pins (σ.set i (some v)) H s'->(∃a,Heap.SameBut a s.heap s'.heap/\(a=X.env.locals∨X.env.cells.lookup x=some a))->Q () s') (hf:X.fn x=true∨X.env.scope.names.lookup x=some .local):wpAny M A (storeName X.env x u) Q E s:=by
 obtain⟨m,hn,hl⟩:=id I.loc;have O:(X.env.scope.kind== .class||(X.env.scope.kind== .module&&X.env.locals != X.env.globals))=false:=by rw[I.ok.kind];rfl
 have w:i<σ.length:=by rw[I.len];exact(jT.mp hi).1
 have oz:=I.oz;have f:∀{a:Addr} {h':Heap},(∃o,s.heap.get? a=some o/\H a=none)->Heap.SameBut a s.heap h'->cM X.prog X.w H h':=λ{a h'} ha hs b ob e=>by
  obtain⟨_,_,l⟩:=ha;refine(I.av b ob e).eF (λc Z g q=>(hs.2 c ?_).trans q) (λ_ q=>q) λ_ _ q=>q
  rintro rfl;rcases g with rfl|g
  . rw[l]at e;cases e
  . rw[l]at g;cases g
 rcases hx with C|C
 . refine wpAny_storeName_local C hn (λh' hn' hs=>?_) O
   obtain⟨oL,_,_,hoL,_⟩:=id hn;refine h _ ⟨I.ok,I.os,I.bare,⟨λb o e n D hx=>?_,λb o e n D hx=>?_,I.base.free,λb o e hx=>?_,I.base.bh,I.base.aJ,I.base.eG⟩,⟨_,hn',λj y v' e1 t e3=>?_⟩,λy c e=>?_,I.free,I.bO,λp hp=>?_,f ⟨oL,hoL,I.free⟩ hs,by simpa using I.len⟩ ⟨_,hs,.inl rfl⟩
   . exact(hs.2 b (cJ (fu (bx e) I.ok.above))).trans (I.base.keep b o e n D hx)
   . obtain⟨sl,e1⟩:=I.base.slot b o e n D hx
     exact⟨sl,(hs.2 b (cJ (fu (bx e) I.ok.above))).trans e1⟩
   . obtain⟨o',e1⟩:=I.base.there b o e hx
     exact⟨o',(hs.2 b (cJ (fu (bx e) I.ok.above))).trans e1⟩
   . by_cases J:j=i
     . subst J
       rw[hi]at e1;cases e1;rw[List.getElem?_set_self w]at t;cases t;exact⟨u,r,.inl ⟨C,by simp⟩⟩
     . rw[List.getElem?_set_ne (bZ J)]at t
       obtain⟨u',r',q⟩:=hl j y v' e1 t e3;refine⟨u',r',?_⟩;rcases q with⟨k,e⟩|⟨k,c,e,z⟩
       . refine .inl ⟨k,?_⟩
         have:y≠x:=λe=>J (IX hN e1 (e ▸ hi))
         simp[this,e]
       . exact .inr ⟨k,c,e,z.sameBut hs (oz y c e)⟩
   . obtain⟨Z,z⟩:=I.cell y c e
     exact⟨Z,z.sameBut hs (oz y c e)⟩
   . obtain⟨e,n,Y,nf,d⟩:=I.pin p hp
     exact⟨(hs.2 p.1 Y).trans e,n,Y,nf,d⟩
 . have F:X.fn x=true:=by
    rcases hf with z|z
    . exact z
    . rw[z]at C;cases C
   obtain⟨c,g⟩:=I.ok.has x (.inl C);obtain⟨Z,z⟩:=I.cell x c g;refine wpAny_storeName_cell I.ok.kind C g z (λh' L hs=>?_)
   obtain⟨oc,R,U⟩:=id z;refine h { s with heap:=h' } ⟨I.ok,I.os,I.bare,⟨λb o e n D hx=>?_,λb o e n D hx=>?_,I.base.free,λb o e hx=>?_,I.base.bh,I.base.aJ,I.base.eG⟩,⟨m,hn.sameBut hs (bZ (oz x c g)),λj y v' e1 t e3=>?_⟩,λy W e=>?_,I.free,I.bO,λp hp=>?_,f ⟨oc,R,I.bO x c g⟩ hs,by simpa using I.len⟩ ⟨c,hs,.inr g⟩
   . exact(hs.2 b (cJ (fu (bx e) (I.ok.qN x c F g)))).trans (I.base.keep b o e n D hx)
   . obtain⟨sl,e1⟩:=I.base.slot b o e n D hx
     exact⟨sl,(hs.2 b (cJ (fu (bx e) (I.ok.qN x c F g)))).trans e1⟩
   . obtain⟨o',e1⟩:=I.base.there b o e hx
     exact⟨o',(hs.2 b (cJ (fu (bx e) (I.ok.qN x c F g)))).trans e1⟩
   . by_cases J:j=i
     . subst J
       rw[hi]at e1;cases e1;rw[List.getElem?_set_self w]at t;cases t;exact⟨u,r,.inr ⟨.inl C,c,g,L⟩⟩
     . rw[List.getElem?_set_ne (bZ J)]at t
       obtain⟨u',r',q⟩:=hl j y v' e1 t e3;refine⟨u',r',?_⟩;rcases q with q|⟨k,W,e,z'⟩
       . exact .inl q
       . refine .inr ⟨k,W,e,z'.sameBut hs ?_⟩
         rintro rfl;exact J (IX hN e1 (I.ok.inj _ _ _ e g ▸ hi))
   . by_cases N:W=c
     . subst N;exact⟨_,L⟩
     . obtain⟨w2,z2⟩:=I.cell y W e
       exact⟨w2,z2.sameBut hs N⟩
   . obtain⟨e,n,Y,nf,d⟩:=I.pin p hp
     refine⟨(hs.2 p.1 ?_).trans e,n,Y,nf,d⟩;intro q;rw[q,R]at e;have q':oc=p.2:=dH e;exact d Z (by rw[<-q'];exact U)
theorem xK{i:Nat}{x:Str}{v:V}{Q:Unit->Shared->Prop}(I:Inv X pins σ H s)(hN:X.N.Nodup)(hi:X.N[i]? =some x)(hx:Loc X.env.scope x)(r:RelV v u)
 (h:∀s',Inv X pins (σ.set i (some v)) H s'->Q () s') (hf:X.fn x=true∨X.env.scope.names.lookup x=some .local):wpAny M A (storeName X.env x u) Q E s:=
 Iw I hN hi hx r (λs' I' _=>h s' I') hf
theorem Inv.sN{a:Shared}{ch:List Addr}(I:Inv X pins σ H s)(h:a.os=s.os)(u:Un (ip X.stack) ch H H' s.heap a.heap)(f:cM X.prog X.w H' a.heap)(g:AllBare a.gens)
 (d:∀b∈ch,(b∈X.ex∨X.s₀.heap.objs.size<=b)/\b≠X.env.locals/\(∀x c,X.env.cells.lookup x=some c->c≠b)/\∀p∈X.pn++pins,p.1≠b):Inv X pins σ H' a:=by
 obtain⟨h',g',d',t',i⟩:=a;have e:i=s.os:=h;subst e;exact I.call (g':=g') (t':=t') (d':=d') u f g d
end
abbrev XK:=Value->Option Addr->Hp->Prop
abbrev St:=List (Option V)
abbrev VK:=V->Hp->Prop
abbrev TE:=St->Hp->VK->Prop
abbrev TT:=St->Hp->(Bool->Hp->Prop)->Prop
abbrev TA:=St->Hp->(LV->Hp->Prop)->Prop
structure Ends where
 nx:St->Hp->Prop
 rt:VK
 bk:St->Hp->Prop:=λ_ _=>False
 ct:St->Hp->Prop:=λ_ _=>False
abbrev TS:=Ends->St->Hp->Prop
def EP(X:Cx)(a:aF)(σ:St)(Q:VK)(u:Value)(c:Shared):Prop:=∃v b,Inv X a σ b c/\RelV v u/\Q v b
def TP(X:Cx)(a:aF)(σ:St)(Q:Bool->Hp->Prop)(b:Bool)(d:Shared):Prop:=∃c,Inv X a σ c d/\Q b c
def AP(X:Cx)(a:aF)(σ:St)(Q:LV->Hp->Prop)(us:ak)(c:Shared):Prop:=∃vs b,Inv X a σ b c/\Vals vs us/\Q vs b
def SP(X:Cx)(b:aF)(D:Ends)(f:Flow)(d:Shared):Prop:=
 match f with
 | .next=>∃a c,Inv X b a c d/\D.nx a c
 | .brk=>∃a c,Inv X b a c d/\D.bk a c
 | .cont=>∃a c,Inv X b a c d/\D.ct a c
 | .ret u=>∃v a c,Inv X b a c d/\RelV v u/\D.rt v c
def PE(X:Cx)(e:Expr)(t:TE):Prop:=
 ∀a s b H Q,Inv X a b H s->t b H Q->wpAny (model X.prog X.w) X.A (eval e X.env) (EP X a b Q) X.xe s
def PT(X:Cx)(e:Expr)(t:TT):Prop:=
 ∀(a:aF) (s:Shared) (σ:St) (H:Hp) (Q:Bool->Hp->Prop),Inv X a σ H s->t σ H Q->wpAny (model X.prog X.w) X.A (isTrue e X.env (eval e X.env)) (TP X a σ Q) X.xe s
def PW(X:Cx)(e:Expr)(t:TT):Prop:=
 ∀(a:Sem Value) (pins:aF) (s:Shared) (σ:St) (H:Hp) (Q:Bool->Hp->Prop),Inv X pins σ H s->t σ H Q->wpAny (model X.prog X.w) X.A (isTrue e X.env a) (TP X pins σ Q) X.xe s
theorem PW.pt{e:Expr}{t:TT}(h:PW X e t):PT X e t:=h _
def PA(X:Cx)(es:aS)(t:TA):Prop:=
 ∀(a:Pos) (pins:aF) (s:Shared) (σ:St) (H:Hp) (Q:LV->Hp->Prop),Inv X pins σ H s->t σ H Q->wpAny (model X.prog X.w) X.A (spliced (backTo a (starEach es X.env))) (AP X pins σ Q) X.xe s
def PS(X:Cx)(st:Stmt)(t:TS):Prop:=
 ∀a s b H D,Inv X a b H s->t D b H->wpAny (model X.prog X.w) X.A (exec st X.env) (SP X a D) X.xe s
def fN(X:Cx)(st:List Stmt)(t:TS):Prop:=
 ∀a s b H D,Inv X a b H s->t D b H->wpAny (model X.prog X.w) X.A (execs st X.env) (SP X a D) X.xe s
theorem ay{t:Sem α}{s:Shared}(h:wpAny M A t Q E s)(b:∀a s,Q a s->Q' a s):wpAny M A t Q' E s:=gx h b λ_ _ x=>x
section
variable {X:Cx}
def Pa(i:Nat):TE:=λσ H Q=>∃v,σ[i]? =some (some v)/\Q v H
def tC(v:V):TE:=λ_ H Q=>Q v H
theorem W3{i:Nat}{x:Str}(k:X.N[i]? =some x)(w:qM X.env.scope x)(f:(x==("__debug__":Str))=false:=by decide)(d:(x==("__classdict__":Str))=false:=by decide):PE X (.Name x pos) (Pa i):=by
 intro b s y H Q I h;obtain⟨v,e,h⟩:=h;obtain⟨m,t,n⟩:=I.loc;obtain⟨u,r,l⟩:=n i x v k e w;have fin:EP X b y Q u s:=⟨v,H,I,r,h⟩;rcases l with⟨a,o⟩|⟨a,c,j,g⟩
 . exact wpAny_Name (wpAny_loadName_local I.ok.kind a t o fin) f
 . rcases a with a|a
   . exact wpAny_Name (wpAny_loadName_cell I.ok.kind a j g fin) f
   . exact wpAny_Name (wpAny_loadName_free I.ok.kind a j g fin d) f
theorem Lb{i j pos}:PE X (.Constant (.int i) j pos) (tC (.int i)):=λ_ _ _ H _ I h=>wpAny_Constant_int ⟨.int i,H,I.tok _,⟨_,rfl⟩,h⟩
theorem Zp{b j pos}:PE X (.Constant (.bool b) j pos) (tC (.bl b)):=λ_ _ _ H _ I h=>Constant_bool ⟨.bl b,H,I,rfl,h⟩
theorem W7{j pos}:PE X (.Constant .none j pos) (tC .au):=λ_ _ _ H _ I h=>Constant_none ⟨.au,H,I,rfl,h⟩
theorem K9{x j pos}:PE X (.Constant (.str x) j pos) (tC (.str x)):=λ_ _ _ H _ I h=>Calls.Constant_str ⟨.str x,H,I.tok _,⟨_,rfl⟩,h⟩
def Gl(X:Cx)(x:Str):Prop:=X.env.kindOf x=some .globalImplicit
theorem nr{s:Shared}{x:Str}(I:Inv X pins σ H s)(b:Gl X x)(c:X.mg x=some u)(h:Q u s)
 (a:(x==("__debug__":Str))=false:=by decide):wpAny (model X.prog X.w) X.A (eval (.Name x pos) X.env) Q E s:=
 Calls.Name_function_global I.ok.kind b (Calls.loadGlobal_global (by rw[I.ok.glob];exact I.mod.glob.keeps I.bk) c h) a
theorem nG{s:Shared}{x:Str}(I:Inv X pins σ H s)(d:Gl X x)(e:X.mg x=none)(g:bootBuiltins x=some u)(h:Q u s)
 (f:x≠"__name__":=by decide) (c:(x==("__debug__":Str))=false:=by decide):wpAny (model X.prog X.w) X.A (eval (.Name x pos) X.env) Q E s:=by
 obtain⟨i,a,b⟩:=I.mod.blt;exact Calls.Name_function_global I.ok.kind d (Calls.loadGlobal_builtin (by rw[I.ok.glob];exact I.mod.glob.keeps I.bk) e (by rw[I.ok.blt];exact a.keeps I.bk) ((b x f).trans g) h) c
theorem Vu{x:Str}{v:V}(b:Gl X x)(c:X.mg x=some u)(r:RelV v u)(a:(x==("__debug__":Str))=false:=by decide):PE X (.Name x pos) (tC v):=
 λ_ _ _ H _ I h=>nr I b c ⟨v,H,I,r,h⟩ a
theorem Vx{x:Str}{v:V}(b:Gl X x)(c:X.mg x=none)(e:bootBuiltins x=some u)(r:RelV v u)(d:x≠"__name__":=by decide)(a:(x==("__debug__":Str))=false:=by decide):PE X (.Name x pos) (tC v):=
 λ_ _ _ H _ I h=>nG I b c e ⟨v,H,I,r,h⟩ d a
variable {a b:Expr}{ta tb:TE}{pos:Pos}
def PC(X:Cx)(op:CmpOp)(a b:Expr)(t:TE):Prop:=
 ∀c s f H Q,Inv X c f H s->t f H Q->
  wpAny (model X.prog X.w) X.A (eval a X.env) (λv d=>wpAny (model X.prog X.w) X.A (eval b X.env) (λu e=>wpAny (model X.prog X.w) X.A (compareOp op v u) (EP X c f Q) X.xe e) X.xe d) X.xe s
theorem qjB(b:Expr){op:CmpOp}(h:op≠.In)(d:op≠.NotIn):behindInMarks op b=false:=by
 have e1:(op==CmpOp.In)=false:=by cases op<;>first|rfl|exact ba rfl h
 have c:(op==CmpOp.NotIn)=false:=by cases op<;>first|rfl|exact ba rfl d
 cases b<;>simp[behindInMarks,e1,c]
def tB(t:TE):TT:=λσ H Q=>t σ H λx H1=>∃c,x= .bl c/\Q c H1
theorem Lc{op:CmpOp}{t:TE}(h:PC X op a b t)(h1:behindInMarks op b=false):PE X (.Compare a [op] [b] pos) t:=λpins s σ H Q I hw=>wpAny_Compare1 (h pins s σ H Q I hw) h1
theorem Bq{op:CmpOp}{t:TE}(h:PC X op a b t)(e:behindInMarks op b=false):PT X (.Compare a [op] [b] pos) (tB t):=by
 intro c s l H Q I i;refine wpAny_isTrue_Compare1 (ay (h c s l H _ I i) λv m e=>ay e λu n g=>ay g λc o k=>?_) e;obtain⟨x,H1,f,r1,j⟩:=k
 obtain⟨d,rfl,q⟩:=j;cases r1;exact jB ⟨H1,f,q⟩
theorem Xf{e:Expr}{t:TE}(h:PE X e t)(i:∀c,isTrue e X.env c=(do let v<-c;standAt e.pos;holding [v] (truthy v)):=by intro _;rfl):PT X e (tB t):=by
 intro f s m H Q I j;refine isTrue_plain (ay (h f s m H _ I j) λv n l=>?_) (i _);obtain⟨x,H1,g,r1,k⟩:=l
 obtain⟨d,rfl,q⟩:=k;cases r1;exact jB ⟨H1,g,q⟩
variable {tA tB':TT}{rest:aS}
def Po(t u:TT):TT:=λσ H Q=>t σ H λc H1=>if c=true then u σ H1 Q else Q false H1
def tOr(t u:TT):TT:=λσ H Q=>t σ H λc H1=>if c=true then Q true H1 else u σ H1 Q
def Pg(t:TT):TT:=λσ H Q=>t σ H λc H1=>Q (!c) H1
theorem VN(f:PT X a tA):PW X (.BoolOp .And [a] pos) tA:=by
 intro wh d s g H Q I h;refine isTrue_and (ay (f d s g H Q I h) λc i e=>?_)
 cases c with
 |true=>exact isTrue_and_nil e
 |false=>exact e
theorem Xd(f:PT X a tA):PW X (.BoolOp .Or [a] pos) tA:=by
 intro wh d s g H Q I h;refine isTrue_or (ay (f d s g H Q I h) λc i e=>?_)
 cases c with
 |false=>exact isTrue_or_nil e
 |true=>exact e
theorem Xe(i:PT X a tA)(j:PW X (.BoolOp .And (b::rest) pos) tB'):PW X (.BoolOp .And (a::b::rest) pos) (Po tA tB'):=by
 intro wh d s g H Q I h;refine isTrue_and (ay (i d s g H _ I h) λc k l=>?_);obtain⟨H1,e,f⟩:=l
 cases c with
 |true=>exact j wh d k g H1 Q e f
 |false=>exact⟨H1,e,f⟩
theorem ZH(i:PT X a tA)(j:PW X (.BoolOp .Or (b::rest) pos) tB'):PW X (.BoolOp .Or (a::b::rest) pos) (tOr tA tB'):=by
 intro wh d s g H Q I h;refine isTrue_or (ay (i d s g H _ I h) λc k l=>?_);obtain⟨H1,e,f⟩:=l
 cases c with
 |true=>exact⟨H1,e,f⟩
 |false=>exact j wh d k g H1 Q e f
theorem Xg(e:PT X a tA):PT X (.UnaryOp .Not a pos) (Pg tA):=by
 intro d s f H Q I h;exact isTrue_not (e d s f H (λc H1=>Q (!c) H1) I h)
def YU(ta tb:TE):TE:=λσ H Q=>ta σ H λx H1=>∃c,x= .bl c/\if c=true then tb σ H1 Q else Q (.bl false) H1
def Pf(ta tb:TE):TE:=λσ H Q=>ta σ H λx H1=>∃c,x= .bl c/\if c=true then Q (.bl true) H1 else tb σ H1 Q
def Ze(ta:TE):TE:=λσ H Q=>ta σ H λx H1=>∃c,x= .bl c/\Q (.bl (!c)) H1
theorem W5{op}{t:TE}(h:PE X a t):PE X (.BoolOp op [a] pos) t:=λpins s σ H Q I hw=>BoolOp_one (h pins s σ H Q I hw)
theorem W9(i:PE X a ta)(j:PE X (.BoolOp .And (b::rest) pos) tb):PE X (.BoolOp .And (a::b::rest) pos) (YU ta tb):=by
 intro d s g H Q I h;refine BoolOp_and (ay (i d s g H _ I h) λv k l=>?_);obtain⟨x,H1,f,r1,e⟩:=l
 obtain⟨c,rfl,e⟩:=e;cases r1;refine jB ?_;cases c with
 |true=>exact j d k g H1 Q f e
 |false=>exact⟨.bl false,H1,f,rfl,e⟩
theorem ZO(i:PE X a ta)(j:PE X (.BoolOp .Or (b::rest) pos) tb):PE X (.BoolOp .Or (a::b::rest) pos) (Pf ta tb):=by
 intro d s g H Q I h;refine BoolOp_or (ay (i d s g H _ I h) λv k l=>?_);obtain⟨x,H1,f,r1,e⟩:=l
 obtain⟨c,rfl,e⟩:=e;cases r1;refine jB ?_;cases c with
 |false=>exact j d k g H1 Q f e
 |true=>exact⟨.bl true,H1,f,rfl,e⟩
theorem W6(g:PE X a ta):PE X (.UnaryOp .Not a pos) (Ze ta):=by
 intro d s j H Q I h;refine UnaryOp_ (ay (g d s j H _ I h) λv k i=>?_);obtain⟨x,H1,f,r1,e⟩:=i
 obtain⟨c,rfl,e⟩:=e;cases r1;exact not_of (jB ⟨.bl (!c),H1,f,rfl,e⟩)
def tIf(t:TT)(ta tb:TE):TE:=λσ H Q=>t σ H λc H1=>if c=true then ta σ H1 Q else tb σ H1 Q
theorem T1(m:PT X c tA)(k:PE X a ta)(l:PE X b tb):PE X (.IfExp c a b pos) (tIf tA ta tb):=by
 intro e s f H Q I h;refine wpAny_IfExp (ay (m e s f H _ I h) λd j n=>?_);obtain⟨H1,g,i⟩:=n
 cases d with
 |true=>exact k e j f H1 Q g i
 |false=>exact l e j f H1 Q g i
end
def cj(K:ag)(H:Hp)(a:Addr)(xs:LV):Prop:=
 Rd H a (.lst xs)∨
  ∃(o:Obj) (ab:Array Value) (n:Nat),K.lookup a=some o/\o.cls= .type "list"/\o.dict=none/\o.data= .seq ab n/\ab.size<=sizeLine/\Vals xs ab.toList
def bI(K:ag)(H:Hp)(a:Addr)(xs:LV):Prop:=
 Rd H a (.tup xs)∨
  ∃(o:Obj) (ab:Array Value) (n:Nat),K.lookup a=some o/\o.cls= .type "tuple"/\o.data= .seq ab n/\ab.size<=sizeLine/\Vals xs ab.toList
noncomputable def QC:Value->Option V
 | .none=>some .au
 | .bool b=>some (.bl b)
 | .int i _=>some (.int i)
 | .str x _=>some (.str x)
 | .bytes b _=>some (.wx b)
 | .float b _=>some (.lR b)
 | .ref a=>some (.ref a)
 | .type n=>some (.ty n)
 |_=>none
theorem RelV.abs{x:V}(r:RelV x u):QC u=some x:=by
 cases x with
 |au=>cases r;rfl
 |bl _=>cases r;rfl
 |int _=>obtain⟨t,rfl⟩:=r;rfl
 |str _=>obtain⟨t,rfl⟩:=r;rfl
 |wx _=>obtain⟨t,rfl⟩:=r;rfl
 |lR _=>obtain⟨t,rfl⟩:=r;rfl
 |ref _=>cases r;rfl
 |ty _=>cases r;rfl
theorem RelV.inj{x y:V}(r:RelV x u)(q:RelV y u):x=y:=dH (r.abs.symm.trans q.abs)
theorem Vals.inj:∀{xs a:LV} {us:ak},Vals xs us->Vals a us->xs=a
 |_,_,_,.nil,.nil=>rfl
 |_,_,_,.cons r t,.cons r' t'=>by rw[r.inj r',Vals.inj t t']
section
variable {X:Cx}{pins:aF}{σ:St}{H:Hp}{s:Shared}{a:Addr}{xs ys:LV}
theorem cj.of{K:ag}(h:H a=some (.lst xs)):cj K H a xs:=.inl (.inl h)
theorem bI.of{K:ag}(h:H a=some (.tup xs)):bI K H a xs:=.inl (.inl h)
theorem Inv.list(I:Inv X pins σ H s)(h:cj X.K H a xs):∃ab:ak,Vals xs ab/\PlainL s.heap a ab.toArray/\xs.length<=sizeLine:=by
 rcases h with h|⟨o,ab,n,d,b,c,hs,f,r⟩
 . obtain⟨z,ab,n,r,e⟩:=h.ok I.av
   exact⟨ab,r,⟨_,n,e,rfl,rfl,rfl⟩,z⟩
 . refine⟨ab.toList,r,⟨o,n,I.dj a o d,b,c,by simpa using hs⟩,?_⟩
   have e:=r.length;simp only[Array.length_toList]at e;omega
theorem Inv.tuple(I:Inv X pins σ H s)(h:bI X.K H a xs):∃ab:ak,Vals xs ab/\IsTup s.heap a ab.toArray/\xs.length<=sizeLine:=by
 rcases h with h|⟨o,ab,n,c,b,hs,d,r⟩
 . obtain⟨z,ab,r,p⟩:=h.ok I.av
   exact⟨ab,r,p,z⟩
 . refine⟨ab.toList,r,⟨o,I.dj a o c,b,n,by simpa using hs⟩,?_⟩
   have e:=r.length;simp only[Array.length_toList]at e;omega
theorem Inv.jg(I:Inv X pins σ H s)(h:cj X.K H a xs)(h':cj X.K H a ys):xs=ys:=by
 obtain⟨ab,r,⟨o,n,e,_,_,d⟩,_⟩:=I.list h;obtain⟨b,g,⟨j,i,f,_,_,c⟩,_⟩:=I.list h';rw[e]at f;cases f;rw[d]at c;injection c with d1 _
 have:ab=b:=by simpa using congrArg Array.toList d1
 subst this;exact r.inj g
theorem Inv.iH(I:Inv X pins σ H s)(h:bI X.K H a xs)(h':bI X.K H a ys):xs=ys:=by
 obtain⟨ab,r,⟨o,e,_,n,d⟩,_⟩:=I.tuple h;obtain⟨b,g,⟨j,f,_,i,c⟩,_⟩:=I.tuple h';rw[e]at f;cases f;rw[d]at c;injection c with d1 _
 have:ab=b:=by simpa using congrArg Array.toList d1
 subst this;exact r.inj g
end
abbrev Cx.wish(X:Cx)(E:aP):Cx:={ X with xe:=E }
abbrev Cx.qU(X:Cx):Cx:=X.wish λ_ _=>False
theorem Cx.Ok.wish{X:Cx}(a:X.Ok)(E):(X.wish E).Ok:=
 ⟨a.mod,a.kind,a.glob,a.blt,a.above,a.inj,a.has,a.qN,a.hd,a.frames,a.vN,a.sT,a.bs,a.jd,a.iu,a.il,a.dP,a.nh⟩
theorem Cx.Ok.cw{X:Cx}(a:(X.wish E).Ok):X.Ok:=
 ⟨a.mod,a.kind,a.glob,a.blt,a.above,a.inj,a.has,a.qN,a.hd,a.frames,a.vN,a.sT,a.bs,a.jd,a.iu,a.il,a.dP,a.nh⟩
section
variable {X:Cx}{pins:aF}{σ:St}{H:Hp}{s:Shared}{E:aP}
theorem Inv.wish(I:Inv X pins σ H s)(E):Inv (X.wish E) pins σ H s:=⟨I.ok.wish E,I.os,I.bare,I.base,I.loc,I.cell,I.free,I.bO,I.pin,I.av,I.len⟩
theorem Inv.cw(I:Inv (X.wish E) pins σ H s):Inv X pins σ H s:=⟨I.ok.cw,I.os,I.bare,I.base,I.loc,I.cell,I.free,I.bO,I.pin,I.av,I.len⟩
theorem SP.cw(h:SP (X.wish E) pins D f s'):SP X pins D f s':=by
 cases f with
 |next=>obtain⟨a,b,I,q⟩:=h;exact⟨a,b,I.cw,q⟩
 |brk=>obtain⟨a,b,I,q⟩:=h;exact⟨a,b,I.cw,q⟩
 |cont=>obtain⟨a,b,I,q⟩:=h;exact⟨a,b,I.cw,q⟩
 |ret u=>obtain⟨v,a,b,I,r,q⟩:=h;exact⟨v,a,b,I.cw,r,q⟩
theorem fN.qU{st:List Stmt}{t:TS}(h:fN X.qU st t):fN X st t:=λpins s σ H D I a=>
 gx (h pins s σ H D (I.wish _) a) (λ_ _ q=>q.cw) λ_ _ z=>False.elim z
end
section
variable {X:Cx}{st:Stmt}{rest:List Stmt}{t u:TS}{e:Expr}{te:TE}{pos:Pos}
def Zf:TS:=λD a H=>D.nx a H
def Pc(t u:TS):TS:=λD a H=>t { D with nx:=u D } a H
theorem VO:fN X [] Zf:=λ_ _ a H _ I h=>wpAny_execs_nil ⟨a,H,I,h⟩
theorem Us(g:PS X st t)(i:fN X rest u):fN X (st::rest) (Pc t u):=by
 intro a s k H D I h;refine wpAny_execs_cons (ay (g a s k H { D with nx:=u D } I h) λf j q=>?_)
 cases f with
 |next=>
  obtain⟨b,c,d,q⟩:=q;exact i a j b c D d q
 |ret v=>exact q
 |brk=>exact q
 |cont=>exact q
theorem Inv.quiet{s:Shared}(I:Inv X pins σ H s):interactive X.env=false:=by simp[interactive,I.ok.kind]
def Zj(te:TE):TS:=λD a H=>te a H λ_ H1=>D.nx a H1
theorem VQ(c:PE X e te)(hs:swapsWith e none pos.line X.env=pure false:=by rfl):PS X (.Expr e pos) (Zj te):=by
 intro a s b H D I h;exact wpAny_Expr_any (ay (c a s b H _ I h) λv d ⟨x,H1,I1,r1,q1⟩=>⟨b,H1,I1,q1⟩) I.quiet hs
def Pd(te:TE):TS:=λD a H=>te a H D.rt
theorem Xj(c:PE X e te):PS X (.Return (some e) pos) (Pd te):=by
 intro a s b H D I h;exact wpAny_Return_some (ay (c a s b H _ I h) λv d ⟨x,H1,I1,r1,q1⟩=>⟨x,b,H1,I1,r1,q1⟩)
def Zc:TS:=λD _ H=>D.rt .au H
theorem VP:PS X (.Return none pos) Zc:=λ_ _ a H _ I h=>wpAny_Return_none ⟨.au,a,H,I,rfl,h⟩
def Pj(c:TT)(t u:TS):TS:=λD a H=>c a H λb H1=>if b=true then t D a H1 else u D a H1
theorem ZJ{a b:List Stmt}(n:PT X c tc)(l:fN X a t)(m:fN X b u):PS X (.If c a b pos) (Pj tc t u):=by
 intro f s g H D I h;refine wpAny_If (ay (n f s g H _ I h) λd k o=>?_);obtain⟨H1,i,j⟩:=o
 cases d with
 |true=>exact l f k g H1 D i j
 |false=>exact m f k g H1 D i j
end
abbrev TG:=V->St->Hp->(St->Hp->Prop)->Prop
abbrev m8:=LV->St->Hp->(St->Hp->Prop)->Prop
def PG(X:Cx)(a:Expr)(t:TG):Prop:=
 ∀(b:aF) (s:Shared) (σ:St) (H:Hp) (v:V) (u:Value) (Q:St->Hp->Prop),Inv X b σ H s->RelV v u->t v σ H Q->
  wpAny (model X.prog X.w) X.A (assign a X.env u) (λ_ e=>∃c d,Inv X b c d e/\Q c d) X.xe s
def m6(X:Cx)(e:aS)(t:m8):Prop:=
 ∀(a:aF) (s:Shared) (σ:St) (H:Hp) (vs:LV) (us:ak) (Q:St->Hp->Prop),Inv X a σ H s->Vals vs us->t vs σ H Q->
  wpAny (model X.prog X.w) X.A (assignInOrder ((assignEach e X.env).map (·.2)) us) (λ_ d=>∃b c,Inv X a b c d/\Q b c) X.xe s
abbrev ze:=V->V->V->Hp->(Hp->Prop)->Prop
def zf(X:Cx)(t:ze):Prop:=
 ∀(a:aF) (s:Shared) (σ:St) (H:Hp) (o i v:V) (ov iv u:Value) (Q:Hp->Prop),Inv X a σ H s->RelV o ov->RelV i iv->RelV v u->t o i v H Q->
  wpAny (model X.prog X.w) X.A (setItem ov iv u) (λ_ c=>∃b,Inv X a σ b c/\Q b) X.xe s
section
variable {X:Cx}{pos:Pos}
def yz(i:Nat):TG:=λv a H Q=>Q (a.set i (some v)) H
theorem uQ{i:Nat}{x:Str}(c:X.N.Nodup)(hi:X.N[i]? =some x)(hx:Loc X.env.scope x)(d:X.fn x=true∨X.env.scope.names.lookup x=some .local):PG X (.Name x pos) (yz i):=by
 intro a s e H v u Q I r h;exact wpAny_assign_Name (xK I c hi hx r (λs' b=>⟨_,H,b,h⟩) d)
def Gu:m8:=λvs a H Q=>vs= []/\Q a H
def LP(t:TG)(u:m8):m8:=λvs σ H Q=>∃v r,vs=v::r/\t v σ H λσ' H'=>u r σ' H' Q
theorem A0:m6 X [] Gu:=by
 intro a s b H vs us Q I r h;obtain⟨e,h⟩:=h;subst e;cases r;exact assignInOrder_nil ⟨b,H,I,h⟩
theorem xP{e:Expr}{t:TG}(d:PG X e t)(f:m6 X es u)
 (hs:(assignEach (e::es) X.env).map (·.2)=assign e X.env::(assignEach es X.env).map (·.2):=by rfl):m6 X (e::es) (LP t u):=by
 intro a s k H vs us Q I r h;obtain⟨v,l,e1,h⟩:=h;subst e1;cases r with
 |cons r rr=>
  rw[hs];refine assignInOrder_cons (ay (d a s k H _ _ _ I r h) λ_ i j=>?_);obtain⟨b,H1,c,g⟩:=j
  exact f a i b H1 _ _ Q c rr g
def Gs(K:ag)(n:Nat)(t:m8):TG:=λv c H Q=>∃a b,v= .ref a/\bI K H a b/\b.length=n/\t b c H Q
theorem yn{t:m8}{n:Nat}(hc:X.calm=true)(h:m6 X es t)
 (hn:(assignEach es X.env).length=n:=by rfl) (hst:(assignEach es X.env).findIdx? (·.1)=none:=by rfl):PG X (.Tuple es k pos) (Gs X.K n t):=by
 intro pins s σ H v u Q I r hw;obtain⟨a,xs,e1,hq,hl,hw⟩:=hw;subst e1;cases r;obtain⟨ab,rv,ht,hz⟩:=I.tuple hq;refine assign_Tuple_tuple (I.ok.hd hc) ht (by simp[hn,<-hl,rv.length]) hst λh' hx=>?_
 have I1:Inv X pins σ H { s with heap:=h' }:=I.kept (t':=s.toks) λb o e=>hx b o (cJ (bx e)) e
 exact h pins _ σ H xs _ Q I1 (by simpa using rv) hw
def PD(to ti:TE)(t:ze):TG:=λv σ H Q=>to σ H λo H1=>ti σ H1 λi H2=>t o i v H2 λH3=>Q σ H3
theorem W2{o i:Expr}{t:ze}(ho:PE X o to)(hi:PE X i ti)(hs:zf X t)
 (ha:∀v,assign (.Subscript o i pos) X.env v=(do
  let ov<-holding [v] (eval o X.env)
  let iv<-holding [v,ov] (eval i X.env)
  standAt pos
  holding [v,ov,iv] (setItem ov iv v)
  release [v,ov,iv] []):=by intro _;rfl):PG X (.Subscript o i pos) (PD to ti t):=by
 intro pins s σ H v u Q I r h;rw[ha];refine aj (jD (ay (ho pins s σ H _ I h) λov s1 zz=>?_));obtain⟨x,H1,I1,r1,q1⟩:=zz
 refine aj (jD (ay (hi pins s1 σ H1 _ I1 q1) λiv s2 zz=>?_));obtain⟨y,H2,I2,r2,q2⟩:=zz
 refine aj (wpAny_standAt (aj (jD (ay (hs pins s2 σ H2 x y v ov iv u _ I2 r1 r2 r q2) λ_ s3 zz=>?_))));obtain⟨H3,I3,q3⟩:=zz
 exact wpAny_release ⟨σ,H3,I3,q3⟩
def Fw(b:TE)(g:TG):TS:=λD a H=>b a H λx H1=>g x a H1 D.nx
theorem Xn{tg e:Expr}{g:TG}(f:PE X e te)(i:PG X tg g)(hs:swapsWithSole [tg] e pos.line X.env=pure false:=by rfl)(j:swappedStores [tg] e X.env=pure none:=by rfl)
 (d:(assignEach [tg] X.env).map (·.2)= [assign tg X.env]:=by rfl):PS X (.Assign [tg] e pos) (Fw te g):=by
 intro a s b H D I h;refine wpAny_Assign_stores (ay (f a s b H _ I h) λv l m=>?_) hs j;obtain⟨x,H1,c,r1,k⟩:=m
 rw[d];exact ay (i a l b H1 x v _ c r1 k) λ_ n q=>q
theorem Xi{i:Nat}{x:Str}{e:Expr}(d:X.N.Nodup)(hi:X.N[i]? =some x)(hx:Loc X.env.scope x)(f:PE X e te)(hs:swapsWith e (some (.Name x pos')) pos.line X.env=pure false:=by rfl)(g:X.fn x=true∨X.env.scope.names.lookup x=some .local):
 PS X (.Assign [.Name x pos'] e pos) (Fw te (yz i)):=by
 intro a s l H D I h;refine wpAny_Assign_Name (ay (f a s l H _ I h) λv m k=>?_) hs;obtain⟨y,H1,b,r1,j⟩:=k
 exact xK b d hi hx r1 (λs2 c=>⟨_,H1,c,j⟩) g
def Pe(i j:Nat)(b:TA):TS:=λD a H=>b a H λvs H1=>∃v w,vs= [v,w]/\D.nx ((a.set i (some v)).set j (some w)) H1
theorem Xk{i j:Nat}{x y:Str}{a b:Expr}{k l pt:Pos}{kt k2 pt2}(L:X.calm=true)(t:X.N.Nodup)(hi:X.N[i]? =some x)(M:X.N[j]? =some y)(f:i≠j)
 (hx:X.env.scope.names.lookup x=some .local) (u:X.env.scope.names.lookup y=some .local) (J:PA X [a,b] ta)
 (N:swappedStores [.Tuple [.Name x k,.Name y l] kt pt] (.Tuple [a,b] k2 pt2) X.env=pure (some [x,y]))
 (hs:swapsWithSole [.Tuple [.Name x k,.Name y l] kt pt] (.Tuple [a,b] k2 pt2) pos.line X.env=pure false:=by rfl):
 PS X (.Assign [.Tuple [.Name x k,.Name y l] kt pt] (.Tuple [a,b] k2 pt2) pos) (Pe i j ta):=by
 intro c s z H D I h;rw[exec_Assign_arm];refine aj (wpAny_standAt ?_);rw[hs];refine aj (aH ?_);rw[ae ⋯]
 refine aj (Tuple_ (ay (J _ c s z H _ I h) λus d O=>?_));obtain⟨vs,H1,A,r1,m⟩:=O
 obtain⟨v,w,e1,m⟩:=m;subst e1;obtain⟨u1,u2,rfl,rv,n⟩:∃u1 u2,us= [u1,u2]/\RelV v u1/\RelV w u2:=by
  cases r1 with
  |cons p q=>
   cases q with
   |cons p' q'=>
    cases q';exact⟨_,_,rfl,p,p'⟩
 refine jS ?_ (by show 2<=sizeLine;decide)
 have C:Inv X c z H1 { d with heap:=d.heap.push { cls:=.type "tuple",data:=.seq [u1,u2].toArray } }:=A.kept (t':=d.toks) λb o e=>bw _ e
 rw[N];refine aj (aH ?_);show wpAny (model X.prog X.w) X.A (do rule "assign.swapped-stores";let items<-unpackItems (.ref d.heap.objs.size) 2 none;assignInOrder [λv=>bindName X.env y v,λv=>bindName X.env x v] items.reverse;pure Flow.next) _ _ _
 refine aj (wpAny_rule (aj (unpackItems_tuple (items:=#[u1,u2]) (I.ok.hd L) (IsTup.new d.heap _) λh' g=>?_)))
 have E:=C.kept (h':=h') (t':=d.toks) λb o e=>g b o (cJ (bx e)) e
 show wpAny _ _ (assignInOrder [λv=>bindName X.env y v,λv=>bindName X.env x v] [u2,u1] >>= λ_=>pure Flow.next) _ _ _
 refine aj (assignInOrder_cons (wpAny_bindName (xK E t M (.inl u) n (λs2 F=>?_) (.inr u))))
 refine assignInOrder_cons (wpAny_bindName (xK F t hi (.inl hx) rv (λs3 r=>assignInOrder_nil (aH ?_)) (.inr hx)))
 rw[List.set_comm _ _ (bZ f)]at r;exact⟨_,H1,r,m⟩
noncomputable def WS (c:TT)(tb:TS):TS:=λD a H=>∃W:Nat->St->Hp->Prop,(∃m,W m a H)/\∀m a H,W m a H->
 c a H λb H1=>if b=true then ∃N:St->Hp->Prop,(∀d e,N d e->∃f,f<m/\W f d e)/\tb { D with nx:=N,ct:=N,bk:=D.nx } a H1 else D.nx a H1
theorem Ut{body:List Stmt}{tb:TS}(A:PassesOwn (model X.prog X.w) X.A X.env X.xe)(E:PT X c tc)(C:fN X body tb):PS X (.While c body [] pos) (WS tc tb):=by
 intro a s R H D I h;obtain⟨W,⟨F,O⟩,i⟩:=h;refine wpAny_While (codeAny_whileLoop (λn J=>∃j w,Inv X a j w J/\W n j w) ?_ F ⟨R,H,I,O⟩)
 rintro n L ⟨e,H1,I1,w1⟩;refine wpAny_passesOwn A (ay (E a L e H1 _ I1 (i n e H1 w1)) λb M Q=>?_);obtain⟨x,y,k⟩:=Q
 cases b with
 |true=>
  obtain⟨N,z,k⟩:=k;rw[ai rfl];refine wpAny_passesOwn A (ay (C a M e x _ y k) λf U l=>?_)
  cases f with
  |next=>
   obtain⟨d,g,m,t⟩:=l;obtain⟨r,o,u⟩:=z d g t;exact⟨r,o,d,g,m,u⟩
  |cont=>
   obtain⟨d,g,m,t⟩:=l;obtain⟨r,o,u⟩:=z d g t;exact⟨r,o,d,g,m,u⟩
  |brk=>exact l
  |ret v=>exact l
 |false=>
  rw[ae hZ];exact wpAny_execs_nil ⟨e,x,y,k⟩
end
structure It where
 go:Nat->Hp->Prop
 CL:Nat->Hp->V->Hp->Prop
 stop:Nat->Hp->Prop
def mP(X:Cx)(a:aF)(H:Hp)(b:Addr):Prop:=
 H b=none/\b≠X.env.locals/\b∉X.fs/\(b∈X.ex∨X.s₀.heap.objs.size<=b)/\(∀x c,X.env.cells.lookup x=some c->c≠b)/\∀p∈X.pn++a,p.1≠b
theorem Inv.fU{s:Shared}{b:Addr}(I:Inv X pins σ H s)(a:s.heap.objs.size<=b)(d:H' b=none):mP X pins H' b:=by
 refine⟨d,Nat.ne_of_gt (fu I.lt a),I.tj a,.inr (bR I.sz a),λx c e z=>?_,λp f z=>?_⟩
 . obtain⟨v,q⟩:=I.cell x c e
   exact ba (fu q.lt (by rw[z];exact a)) (jV _)
 . exact ba (fu (bx (I.pin p f).1) (by rw[z];exact a)) (jV _)
structure Turn(P:Program)(w:World)(K:ag)(tg:Expr)(J:It)(fp:List Addr)(it:Addr)(tn:Nat->Heap->Prop):Prop where
 mem:it∈fp
 obj:∀i h,tn i h->∀b∈fp,∃o,h.get? b=some o/\∀v,o.data≠.cell v
 keep:∀i h h',tn i h->(∀b∈fp,∀o,h.get? b=some o->h'.get? b=some o)->tn i h'
 item:∀(X:Cx),X.prog=P->X.w=w->X.K=K->X.calm=true->∀(i:Nat) (pins:aF) (s:Shared) (σ:St) (H:Hp) (E:aP),Inv X pins σ H s->(∀b∈fp,mP X pins H b)->tn i s.heap->J.go i H->
  wpAny (model P w) X.A (pyNext (.ref it)) (λr s1=>∃u,r=some u/\
   wpAny (model P w) X.A (letOwnedTupleGo tg (.ref it) u) (λ_ s2=>∃x H',Inv X pins σ H' s2/\RelV x u/\J.CL i H x H'/\tn (i+1) s2.heap/\∀b∈fp,H' b=none) E s1) E s
 done:∀(X:Cx),X.prog=P->X.w=w->X.K=K->X.calm=true->∀(i:Nat) (pins:aF) (s:Shared) (σ:St) (H:Hp) (E:aP),Inv X pins σ H s->(∀b∈fp,mP X pins H b)->tn i s.heap->J.stop i H->
  wpAny (model P w) X.A (pyNext (.ref it)) (λr s1=>r=none/\Inv X pins σ H s1) E s
 self:∀(A:Around) (i:Nat) (s:Shared) (Q:aP) (E:aP),tn i s.heap->Q (.ref it) s->wpAny (model P w) A (pyIter (.ref it)) Q E s
abbrev TI:=St->Hp->(It->Hp->Prop)->Prop
def CN(X:Cx)(a:aF)(σ:St)(tg:Expr)(R:It->Hp->Prop)(c:Value)(f:Shared):Prop:=
 ∃(e:Addr) (d:List Addr) (tn:Nat->Heap->Prop) (J:It) (H':Hp),c= .ref e/\Inv X a σ H' f/\Turn X.prog X.w X.K tg J d e tn/\tn 0 f.heap/\(∀b∈d,mP X a H' b)/\R J H'
def PI(X:Cx)(tg b:Expr)(d:TI):Prop:=
 ∀(a:aF) (s:Shared) (σ:St) (H:Hp) (R:It->Hp->Prop),Inv X a σ H s->d σ H R->
  wpAny (model X.prog X.w) X.A (eval b X.env) (λv c=>wpAny (model X.prog X.w) X.A (pyIter v) (CN X a σ tg R) X.xe c) X.xe s
theorem vj{s:Shared}{tg:Expr}{n:String}{vs:Array Value}(e:s.heap.get? it=some o)(b:o.cls= .type n)(c:o.data= .fields vs)
 (d:["enumerate","zip","dict_itemiterator","dict_reverseitemiterator","odict_iterator","itertools.zip_longest","itertools.pairwise"].contains n=false) (a:Q () s):wpAny M A (letOwnedTupleGo tg (.ref it) u) Q E s:=by
 unfold letOwnedTupleGo;cases tg<;>first
  |exact aH a
  |(cases u<;>first
   |exact aH a
   |(refine aj (wpAny_load e ?_)
     rw[b,c];show wpAny M A (if(["enumerate","zip","dict_itemiterator","dict_reverseitemiterator","odict_iterator","itertools.zip_longest","itertools.pairwise"].contains n&&vs[0]? ==some (rawInt _))=true then _ else _) Q E s
     rw[ae (by intro h;rw[d,Bool.false_and]at h;cases h)]
     exact aH a))
noncomputable def wg (K:ag)(a:Addr):It:=
 ⟨λi H=>∃b x,cj K H a b/\b[i]? =some x,λi H x c=>c=H/\∀b,cj K H a b->b[i]? =some x,λi H=>∃b,cj K H a b/\b.length<=i⟩
noncomputable def CM (K:ag)(a:Addr):It:=
 ⟨λi H=>∃b x,bI K H a b/\b[i]? =some x,λi H x c=>c=H/\∀b,bI K H a b->b[i]? =some x,λi H=>∃b,bI K H a b/\b.length<=i⟩
def wk(lo:Int)(n:Nat):It:=⟨λi _=>i<n,λi H x a=>a=H/\x= .int (lo+i),λi _=>n<=i⟩
theorem Sr{P:Program}{K:ag}{tg:Expr}(a it:Addr):Turn P w K tg (wg K a) [it] it (λi h=>h.IsListIter it a i) where
 mem:=by simp
 obj:=λi h st b hb=>by
  have e:b=it:=by simpa using hb
  subst e;obtain⟨o,e,c,d⟩:=st;exact⟨o,e,λv z=>by rw[d]at z;cases z⟩
 keep:=λi h h' st k=>st.at λo e=>k it (by simp) o e
 item:=by
  intro X hP hw hK hc i pins s σ H E I hf st hg;subst hP hw hK;obtain⟨xs,x,hq,hx⟩:=hg;obtain⟨ab,rv,p,hz⟩:=I.list hq;obtain⟨u,hu,ru⟩:=rv.get hx;obtain⟨f0,f1,f2,f3,f4,f5⟩:=hf it (by simp)
  refine wpAny_pyNext_list_item st p.isList (x:=u) (by simpa using hu) λh' st' sb=>?_
  have I1:Inv X pins σ H { s with heap:=h' }:=I.turned (t':=s.toks) (λb o hb e=>(sb.2 b hb).trans e) f0 f1 f3 f4 f5
  obtain⟨o,e,c,d⟩:=id st';exact⟨u,rfl,vj (s:={ s with heap:=h' }) e c d ⋯ ⟨x,H,I1,ru,⟨rfl,λys hy=>by rw[I.jg hy hq];exact hx⟩,st',λb hb=>(hf b hb).1⟩⟩
 done:=by
  intro X hP hw hK hc i pins s σ H E I hf st hg;subst hP hw hK;obtain⟨xs,hq,hx⟩:=hg;obtain⟨ab,rv,p,hz⟩:=I.list hq;obtain⟨f0,f1,f2,f3,f4,f5⟩:=hf it (by simp)
  have hl:=rv.length;exact wpAny_pyNext_list_end (I.ok.hd hc) st p.isList (by simp;omega) λh' eb=>⟨rfl,I.turned (t':=s.toks) (λb o hb e=>eb b o hb e) f0 f1 f3 f4 f5⟩
 self:=λ_ _ _ _ _ st h=>wpAny_pyIter_listiter st h
theorem Sa{P:Program}{K:ag}{tg:Expr}(a it:Addr):Turn P w K tg (CM K a) [it] it (λi h=>h.IsTupleIter it a i) where
 mem:=by simp
 obj:=λi h st b hb=>by
  have e:b=it:=by simpa using hb
  subst e;obtain⟨o,e,c,d⟩:=st;exact⟨o,e,λv z=>by rw[d]at z;cases z⟩
 keep:=λi h h' st k=>st.at λo e=>k it (by simp) o e
 item:=by
  intro X hP hw hK hc i pins s σ H E I hf st hg;subst hP hw hK;obtain⟨xs,x,hq,hx⟩:=hg;obtain⟨ab,rv,p,hz⟩:=I.tuple hq;obtain⟨u,hu,ru⟩:=rv.get hx;obtain⟨f0,f1,f2,f3,f4,f5⟩:=hf it (by simp)
  refine wpAny_pyNext_tuple_item st (show s.heap.IsTuple a ab.toArray from p) (x:=u) (by simpa using hu) λh' st' sb=>?_
  have I1:Inv X pins σ H { s with heap:=h' }:=I.turned (t':=s.toks) (λb o hb e=>(sb.2 b hb).trans e) f0 f1 f3 f4 f5
  obtain⟨o,e,c,d⟩:=id st';exact⟨u,rfl,vj (s:={ s with heap:=h' }) e c d ⋯ ⟨x,H,I1,ru,⟨rfl,λys hy=>by rw[I.iH hy hq];exact hx⟩,st',λb hb=>(hf b hb).1⟩⟩
 done:=by
  intro X hP hw hK hc i pins s σ H E I hf st hg;subst hP hw hK;obtain⟨xs,hq,hx⟩:=hg;obtain⟨ab,rv,p,hz⟩:=I.tuple hq;obtain⟨f0,f1,f2,f3,f4,f5⟩:=hf it (by simp)
  have hl:=rv.length;exact wpAny_pyNext_tuple_end (I.ok.hd hc) st (show s.heap.IsTuple a ab.toArray from p) (by simp;omega) λh' eb=>⟨rfl,I.turned (t':=s.toks) (λb o hb e=>eb b o hb e) f0 f1 f3 f4 f5⟩
 self:=λ_ _ _ _ _ st h=>wpAny_pyIter_tupleiter st h
theorem Sb{P:Program}{K:ag}{tg:Expr}(it:Addr)(lo:Int)(n:Nat):Turn P w K tg (wk lo n) [it] it (λi h=>IsRangeIter h it (lo+(i:Nat)*1) ((n:Int)-(i:Nat)) 1) where
 mem:=by simp
 obj:=λi h st b hb=>by
  have e:b=it:=by simpa using hb
  subst e;exact⟨_,st,λv z=>by
   have z':Data.fields _=Data.cell v:=z;cases z'⟩
 keep:=λi h h' st k=>k it (by simp) _ st
 item:=by
  intro X hP hw hK hc i pins s σ H E I hf st hg;subst hP hw hK;obtain⟨f0,f1,f2,f3,f4,f5⟩:=hf it (by simp)
  have W:=Walks.range (prog:=X.prog) (w:=X.w) (I.ok.hd hc) it lo 1 n;refine W.item i s _ _ hg st λv h' tk hv st' kk=>?_
  obtain⟨t,rfl⟩:=hv;have I1:Inv X pins σ H { s with heap:=h',toks:=tk }:=I.turned (λb o hb e=>kk b o (by simpa using hb) e) f0 f1 f3 f4 f5
  refine⟨_,rfl,vj (s:={ s with heap:=h',toks:=tk }) (n:="range_iterator") st' rfl rfl ⋯ ⟨.int (lo+i),H,I1,⟨t,?_⟩,⟨rfl,rfl⟩,st',λb hb=>(hf b hb).1⟩⟩
  rw[Int.mul_one]
 done:=by
  intro X hP hw hK hc i pins s σ H E I hf st hg;subst hP hw hK;obtain⟨f0,f1,f2,f3,f4,f5⟩:=hf it (by simp)
  exact wpAny_pyNext_range_end (I.ok.hd hc) st (by have:n<=i:=hg;omega) λh' eb=>⟨rfl,I.turned (t':=s.toks) (λb o hb e=>eb b o hb e) f0 f1 f3 f4 f5⟩
 self:=λ_ _ _ _ _ st h=>wpAny_pyIter_rangeiter st h
section
variable {X:Cx}{tg:Expr}
theorem Uh{s:Shared}{lo hi:Int}{t u v:Tok}(I:Inv X pins σ H s)(d:-(2 ^ 62)<=lo)(f:lo<2 ^ 62)(g:-(2 ^ 62)<=hi)(h:hi<2 ^ 62)
 (q:R (wk lo (hi-lo).toNat) H):wpAny (model X.prog X.w) X.A (pyIter (.ref s.heap.objs.size)) (CN X pins σ tg R) E { s with heap:=s.heap.push { cls:=.type "range",data:=.fields #[.int lo t,.int hi u,.int 1 v] },toks:=tk }:=by
 refine wpAny_pyIter_range (IsRange.new ..) (small_one d f g h) ?_;have a:Inv X pins σ H { s with heap:=s.heap.push { cls:=.type "range",data:=.fields #[.int lo t,.int hi u,.int 1 v] },toks:=tk }:=I.kept λb o e=>bw _ e
 refine⟨(s.heap.push { cls:=.type "range",data:=.fields #[.int lo t,.int hi u,.int 1 v] }).objs.size,[(s.heap.push { cls:=.type "range",data:=.fields #[.int lo t,.int hi u,.int 1 v] }).objs.size],_,_,H,rfl,
  a.kept (t':=tk) λb o e=>bw _ e,Sb _ lo (hi-lo).toNat,?_,λb i=>?_,q⟩
 . have e1:lo+((0:Nat):Int)*1=lo:=by simp
   have c:(((hi-lo).toNat:Nat):Int)-((0:Nat):Int)=Builtin.Range.rangeSize lo hi 1:=by rw[rangeSize_one];split<;>omega
   show IsRangeIter _ _ (lo+((0:Nat):Int)*1) ((((hi-lo).toNat:Nat):Int)-((0:Nat):Int)) 1;rw[e1,c];exact dE _ rfl
 . have e:b=(s.heap.push { cls:=.type "range",data:=.fields #[.int lo t,.int hi u,.int 1 v] }).objs.size:=by simpa using i
   subst e;exact a.fU (aK _) (a.av.fresh (aK _))
def qyr(ta:TA):TI:=λσ H R=>ta σ H λvs H1=>∃j:Int,vs= [.int j]/\-(2 ^ 62)<=j/\j<2 ^ 62/\R (wk 0 j.toNat) H1
theorem SR{a:Expr}{p pos:Pos}(g:Gl X "range")(i:X.mg "range" =none)(f:PA X [a] ta)(hs:starEach [a] X.env= [(false,eval a X.env)]:=by rfl):PI X tg (.Call (.Name "range" p) [a] [] pos) (qyr ta):=by
 intro b s m H R I h;refine Call_ (nG I g i boot_range (vQ (ay (f pos b s m H _ I h) λus n l=>?_) hs rfl));obtain⟨vs,H1,d,r1,c⟩:=l
 obtain⟨j,e,c,k,q⟩:=c;subst e;cases r1 with
 |cons r rr=>
  cases rr;obtain⟨t,rfl⟩:=r;exact call_range_1 (Uh d ∅ ∅ c k (by simpa using q))
noncomputable def Pk (wi:TI)(g:TG)(tb:TS):TS:=λD σ H=>wi σ H λJ H1=>∃W:Nat->Nat->St->Hp->Prop,(∃m,W 0 m σ H1)/\∀i m σ H,W i m σ H->
 (J.stop i H/\D.nx σ H)∨(J.go i H/\∃N:St->Hp->Prop,(∀σ' H',N σ' H'->∃m',m'<m/\W (i+1) m' σ' H')/\∀x H',J.CL i H x H'->g x σ H' λσ2 H2=>tb { D with nx:=N,ct:=N,bk:=D.nx } σ2 H2)
def nE(a:List Addr)(h:Heap):aF:=a.filterMap λb=>(h.get? b).map λo=>(b,o)
theorem Al{h:Heap}{b:Addr}(a:b∈fp)(e:h.get? b=some o):(b,o)∈nE fp h:=wc.mpr ⟨b,a,by rw[e];rfl⟩
theorem IV{p:Addr×Obj}(d:p∈nE fp h):p.1∈fp/\h.get? p.1=some p.2:=by
 obtain⟨b,c,e⟩:=wc.mp d;cases q:h.get? b with
 |none=>rw[q]at e;cases e
 |some o=>
  rw[q]at e;have a:(b,o)=p:=dH e;subst a;exact⟨c,q⟩
theorem Inv.pinned{s:Shared}(I:Inv X pins σ H s)(j:∀b∈c,mP X pins H b)(k:∀b∈c,∃o,s.heap.get? b=some o/\∀v,o.data≠.cell v):Inv X (pins++nE c s.heap) σ H s:=
 I.eM λp l=>(dW.mp l).elim (λz=>I.pin p (iJ _ z)) λz=>by
  obtain⟨f,e⟩:=IV z;obtain⟨g,h,i,_⟩:=j p.1 f;obtain⟨o,a,d⟩:=k p.1 f;rw[e]at a;cases a;exact⟨e,g,h,i,d⟩
theorem Inv.de{s:Shared}(I:Inv X (pins++pl) σ H s):Inv X pins σ H s:=I.eM λp a=>I.pin p (iJ _ (zr _ a))
theorem Xl{body:List Stmt}{g:TG}{tb:TS}(M:PassesOwn (model X.prog X.w) X.A X.env X.xe)(hc:X.calm=true)(hi:PI X tg iter wi)(hg:PG X tg g)(r:fN X body tb)
 (hs:∀x,foldedSetIterable iter X.env x=pure x:=by intro _;rfl):PS X (.For tg iter body [] pos) (Pk wi g tb):=by
 intro a s σ H D I h;refine wpAny_For (ay (hi a s σ H _ I h) λv s1 h1=>ay h1 λitv s2 h2=>?_) hs
 obtain⟨it,F,tn,J,H2,e,I2,T,st2,f2,W,⟨m0,w0⟩,Y⟩:=h2;subst e;have t:∀{z:Hp},(∀b∈F,z b=none)->∀b∈F,mP X a z b:=λhn b r=>⟨hn b r,(f2 b r).2⟩
 refine codeAny_forLoop_any (λn s'=>∃i w z,Inv X a w z s'/\tn i s'.heap/\(∀b∈F,z b=none)/\W i n w z) ?_ m0 ⟨0,σ,H2,I2,st2,λb r=>(f2 b r).1,w0⟩
 rintro n s3 ⟨i,y,Z,I3,Q,L,w3⟩;rcases Y i n y Z w3 with⟨U,qn⟩|⟨go,N,hN,R⟩
 . refine wpAny_passesOwn M (ay (T.done X rfl rfl rfl hc i a s3 y Z X.xe I3 (t L) Q U) λr s4 E=>?_);obtain⟨hr,I4⟩:=E
   subst hr;exact wpAny_execs_nil ⟨y,Z,I4,qn⟩
 . refine wpAny_passesOwn M (ay (T.item X rfl rfl rfl hc i a s3 y Z X.xe I3 (t L) Q go) λr s4 E=>?_);obtain⟨u,hr,h4⟩:=E
   subst hr;refine wpAny_passesOwn M (ay h4 λ_ s5 E=>?_);obtain⟨x,H5,I5,r5,y5,C,fr5⟩:=E
   have I5':=I5.pinned (t fr5) (T.obj _ _ C);refine wpAny_passesOwn M (ay (hg _ s5 y H5 x u _ I5' r5 (R x H5 y5)) λ_ s6 E=>?_);obtain⟨σ6,H6,I6,q6⟩:=E
   refine wpAny_passesOwn M (ay (r _ s6 σ6 H6 _ I6 q6) λf s7 A=>?_)
   have l:∀{c:St} {j:Hp},Inv X (a++nE F s5.heap) c j s7->N c j->∃m,m<n/\∃i w z,Inv X a w z s7/\tn i s7.heap/\(∀b∈F,z b=none)/\W i m w z:=λ{c j} k O=>by
    obtain⟨m',hm,w7⟩:=hN c j O;refine⟨m',hm,i+1,c,j,k.de,T.keep _ _ _ C λb r o e=>(k.pin (b,o) (iJ _ (iJ _ (Al r e)))).1,λb r=>?_,w7⟩
    obtain⟨o,e,d⟩:=T.obj _ _ C b r;exact(k.pin (b,o) (iJ _ (iJ _ (Al r e)))).2.1
   cases f with
   |next=>obtain⟨c,j,k,O⟩:=A;exact l k O
   |cont=>obtain⟨c,j,k,O⟩:=A;exact l k O
   |brk=>obtain⟨c,j,k,A⟩:=A;exact⟨c,j,k.de,A⟩
   |ret v=>obtain⟨x7,c,j,k,r7,A⟩:=A;exact⟨x7,c,j,k.de,r7,A⟩
end
abbrev R2:=V->V->Hp->VK->Prop
def dM(X:Cx)(f:Value->Value->Sem Value)(r:R2):Prop:=
 ∀a s b H x y v u Q,Inv X a b H s->RelV x v->RelV y u->r x y H Q->
  wpAny (model X.prog X.w) X.A (f v u) (EP X a b Q) X.xe s
def CU(X:Cx)(f:Value->Sem Value)(r:V->Hp->VK->Prop):Prop:=
 ∀a s b H x v Q,Inv X a b H s->RelV x v->r x H Q->
  wpAny (model X.prog X.w) X.A (f v) (EP X a b Q) X.xe s
def cQ(X:Cx)(f:Value)(r:LV->Hp->VK->Prop):Prop:=
 ∀a s c H b us Q,Inv X a c H s->Vals b us->r b H Q->
  wpAny (model X.prog X.w) X.A (call f us) (EP X a c Q) X.xe s
def sj(r:R2)(ta tb:TE):TE:=λσ H Q=>ta σ H λx H1=>tb σ H1 λy H2=>r x y H2 Q
def Ny(r:V->Hp->VK->Prop)(ta:TE):TE:=λσ H Q=>ta σ H λx H1=>r x H1 Q
def rI(C:Int->Int->Prop)(g:Int->Int->V):R2:=λx y H Q=>∃i j,x= .int i/\y= .int j/\C i j/\Q (g i j) H
def nV(g:Int->Int->V):R2:=λx y H Q=>∃i j,x= .int i/\y= .int j/\Q (g i j) H
section
variable {X:Cx}{a b c:Expr}{ta tb tc:TE}{pos:Pos}
theorem B7(n:PE X a ta)(o:PE X b tb){d:aF}{s:Shared}{σ:St}{H:Hp}{R:V->V->Hp->Prop}(I:Inv X d σ H s)
 (h:ta σ H λx H1=>tb σ H1 λy e=>R x y e) {Q:aP} {f:Value->Value->Sem Value}
 (r:∀v u j x y e,Inv X d σ e j->RelV x v->RelV y u->R x y e->wpAny (model X.prog X.w) X.A (f v u) Q X.xe j):
 wpAny (model X.prog X.w) X.A (eval a X.env) (λv g=>wpAny (model X.prog X.w) X.A (eval b X.env) (λu i=>wpAny (model X.prog X.w) X.A (f v u) Q X.xe i) X.xe g) X.xe s:=by
 refine ay (n d s σ H _ I h) λv A k=>?_;obtain⟨x,H1,l,r1,t⟩:=k
 refine ay (o d A σ H1 _ l t) λu j k=>?_;obtain⟨y,e,m,z,w⟩:=k
 exact r v u j x y e m r1 z w
theorem ZP{op:Operator}(j:dM X (binaryOp op) r)(g:PE X a ta)(i:PE X b tb):PE X (.BinOp a op b pos) (sj r ta tb):=by
 intro d s n H Q I h;exact wpAny_BinOp (B7 g i I h λv u m x y e f k l q=>j d m n e x y v u Q f k l q)
theorem ZN{op:UnaryOp}(g:CU X (unaryOp op) r)(f:PE X a ta):PE X (.UnaryOp op a pos) (Ny r ta):=by
 intro d s e H Q I h;exact UnaryOp_ (ay (f d s e H _ I h) λv i ⟨x,H1,I1,r1,q1⟩=>g d i e H1 x v Q I1 r1 q1)
theorem wR{g:Int->Int->Int}
 (d:∀i j t u s Q E,C i j->Q (.int (g i j) s.toks) { s with toks:=s.toks+1 }->wpAny (model X.prog X.w) X.A (f (.int i t) (.int j u)) Q E s):
 dM X f (rI C λi j=>.int (g i j)):=by
 intro e s o H x y v u Q I l m h;obtain⟨i,j,rfl,rfl,k,q⟩:=h;obtain⟨t,rfl⟩:=l;obtain⟨n,rfl⟩:=m;exact d i j t n s _ _ k ⟨.int (g i j),H,I.tok _,⟨_,rfl⟩,q⟩
theorem Ew{g:Int->Int->Int}
 (d:∀i j t u s Q E,Q (.int (g i j) s.toks) { s with toks:=s.toks+1 }->wpAny (model X.prog X.w) X.A (f (.int i t) (.int j u)) Q E s):
 dM X f (nV λi j=>.int (g i j)):=by
 intro e s n H x y v u Q I k l h;obtain⟨i,j,rfl,rfl,q⟩:=h;obtain⟨t,rfl⟩:=k;obtain⟨m,rfl⟩:=l;exact d i j t m s _ _ ⟨.int (g i j),H,I.tok _,⟨_,rfl⟩,q⟩
theorem yW{g:Int->Int->Bool}
 (d:∀i j t u s Q E,Q (.bool (g i j)) s->wpAny (model X.prog X.w) X.A (f (.int i t) (.int j u)) Q E s):
 dM X f (nV λi j=>.bl (g i j)):=by
 intro e s n H x y v u Q I k l h;obtain⟨i,j,rfl,rfl,q⟩:=h;obtain⟨t,rfl⟩:=k;obtain⟨m,rfl⟩:=l;exact d i j t m s _ _ ⟨.bl (g i j),H,I,rfl,q⟩
def QK(i j:Int):Prop:=0<j/\j<1073741824
def QJ(i j:Int):Prop:=0<=j/\j<=1000000/\i.natAbs<2 ^ 64
def ig(i j:Int):Prop:=(-(2 ^ 64)<i/\i<2 ^ 64)∨(-(2 ^ 64)<j/\j<2 ^ 64)
theorem ig.ok{i j:Int}(h:ig i j):IntMulOk i j:=by
 rcases h with⟨d,e⟩|⟨d,e⟩
 . exact .of_left (intBits_le_64 d e)
 . exact .of_right (intBits_le_64 d e)
theorem Yn:dM X (binaryOp .Add) (nV λi j=>.int (i+j)):=Ew λ_ _ _ _ _ _ _ q=>add_int q
theorem Yh:dM X (binaryOp .Sub) (nV λi j=>.int (i-j)):=Ew λ_ _ _ _ _ _ _ q=>sub_int q
theorem Yk:dM X (binaryOp .Mult) (rI ig λi j=>.int (i*j)):=wR λ_ _ _ _ _ _ _ d q=>mul_int q d.ok
theorem Wu:dM X (binaryOp .FloorDiv) (rI QK λi j=>.int (i / j)):=wR λi j _ _ _ _ _ d q=>by
 have e:(0:Int)<j:=d.1;have f:j<1073741824:=d.2;exact floordiv_int ∅ (by rw[Int.fdiv_eq_ediv_of_nonneg i ∅];exact q) (.inl (PyProof.noPylong_small ∅))
theorem Yl:dM X (binaryOp .Mod) (rI (λ_ j=>0<j) λi j=>.int (i % j)):=wR λi j _ _ _ _ _ d q=>by
 have e:(0:Int)<j:=d;exact mod_int' ∅ (by rw[Int.fmod_eq_emod_of_nonneg i ∅];exact q)
theorem Yj:dM X (binaryOp .Pow) (rI QJ λi j=>.int (i ^ j.toNat)):=wR λ_ _ _ _ _ _ _ d q=>pow_int_small d.1 d.2.1 d.2.2 q
theorem Ki{s:Shared}(I:Inv X pins σ H s)(q:Q (.bl k) H)(e:k=k'):EP X pins σ Q (.bool k') s:=by
 subst e;exact⟨.bl k,H,I,rfl,q⟩
theorem Zr:dM X (compareOp .Lt) (nV λi j=>.bl (decide (i<j))):=yW λ_ _ _ _ _ _ _ q=>lt_int q
theorem Zs:dM X (compareOp .LtE) (nV λi j=>.bl (decide (i<=j))):=yW λ_ _ _ _ _ _ _ q=>le_int q
theorem Zt:dM X (compareOp .Gt) (nV λi j=>.bl (decide (j<i))):=yW λ_ _ _ _ _ _ _ q=>gt_int q
theorem Zu:dM X (compareOp .GtE) (nV λi j=>.bl (decide (j<=i))):=yW λ_ _ _ _ _ _ _ q=>ge_int q
theorem Ym:dM X (compareOp .Is) (λx y H Q=>y= .au/\Q (.bl (decide (x= .au))) H):=by
 intro d s g H x y v u Q I e f h;obtain⟨rfl,q⟩:=h;cases f;refine is_none_gen (Ki I q ?_);cases x<;>first
  |(cases e;rfl)
  |(obtain⟨t,rfl⟩:=e;rfl)
theorem Wt:dM X (compareOp .IsNot) (λx y H Q=>y= .au/\Q (.bl (!decide (x= .au))) H):=by
 intro d s g H x y v u Q I e f h;obtain⟨rfl,q⟩:=h;cases f;refine isnot_none_gen (Ki I q ?_);cases x<;>first
  |(cases e;rfl)
  |(obtain⟨t,rfl⟩:=e;rfl)
theorem qpD(b:Expr){op:CmpOp}(h:op≠.In:=by decide)(e:op≠.NotIn:=by decide):behindInMarks op b=false:=by
 have e1:(op==CmpOp.In)=false:=by cases op<;>first|rfl|exact ba rfl h
 have d:(op==CmpOp.NotIn)=false:=by cases op<;>first|rfl|exact ba rfl e
 cases b<;>simp[behindInMarks,e1,d]
theorem JM{op:CmpOp}(k:dM X (compareOp op) r)(g:PE X a ta)(i:PE X b tb)(j:behindInMarks op b=false):PE X (.Compare a [op] [b] pos) (sj r ta tb):=by
 intro d s o H Q I h;exact wpAny_Compare1 (B7 g i I h λv u n x y e f l m q=>k d n o e x y v u Q f l m q) j
def Lw(t:TE):TT:=λσ H Q=>t σ H λx H'=>∃k,x= .bl k/\Q k H'
theorem JX{op:CmpOp}(l:dM X (compareOp op) r)(g:PE X a ta)(i:PE X b tb)(j:behindInMarks op b=false):PT X (.Compare a [op] [b] pos) (Lw (sj r ta tb)):=by
 intro d s f H Q I h;refine wpAny_isTrue_Compare1 (ay (g d s f H _ I h) λv m ⟨x,H1,I1,r1,q1⟩=>ay (i d m f H1 _ I1 q1) λu n ⟨y,H2,I2,r2,q2⟩=>
  ay (l d n f H2 x y v u _ I2 r1 r2 q2) λc o ⟨z,H3,I3,r3,k,e,q3⟩=>?_) j
 subst e;cases r3;exact jB ⟨H3,I3,q3⟩
noncomputable def Bd (r r':R2)(ta tb tc:TE):TE:=λσ H Q=>ta σ H λx H1=>tb σ H1 λy H2=>r x y H2 λz H3=>∃k,z= .bl k/\
 (if k=true then tc σ H3 λw' H4=>r' y w' H4 Q else Q (.bl false) H3)
theorem T5{op op':CmpOp}(ho:dM X (compareOp op) r)(ho':dM X (compareOp op') r')(ha:PE X a ta)(hb:PE X b tb)(hc:PE X c tc)
 (hm:lastMarks [op,op'] [b,c]=false:=by with_unfolding_all rfl):PE X (.Compare a [op,op'] [b,c] pos) (Bd r r' ta tb tc):=by
 intro pins s σ H Q I h;refine Compare_chain (ay (ha pins s σ H _ I h) λv s1 ⟨x,H1,I1,r1,q1⟩=>chain_link (ay (hb pins s1 σ H1 _ I1 q1) λu s2 ⟨y,H2,I2,r2,q2⟩=>
  ay (ho pins s2 σ H2 x y v u _ I2 r1 r2 q2) λd s3 ⟨z,H3,I3,r3,k,e,q3⟩=>?_)) hm
 subst e;cases r3;refine jB ?_;cases k with
 |false=>exact ite_ff ⟨.bl false,H3,I3,rfl,q3⟩
 |true=>exact ite_tt (chain_last (ay (hc pins s3 σ H3 _ I3 q3) λw' s4 ⟨z',H4,I4,r4,q4⟩=>ho' pins s4 σ H4 y z' u w' Q I4 r2 r4 q4))
theorem Ur{op f:CmpOp}{r j:R2}(D:dM X (compareOp op) r)(i:dM X (compareOp f) j)(t:PE X a ta)(w:PE X b tb)(A:PE X c tc)
 (C:lastMarks [op,f] [b,c]=false:=by with_unfolding_all rfl):PT X (.Compare a [op,f] [b,c] pos) (Lw (Bd r j ta tb tc)):=by
 intro d s g H Q I h;refine isTrue_chain (ay (t d s g H _ I h) λv L ⟨x,H1,I1,r1,q1⟩=>test_link (ay (w d L g H1 _ I1 q1) λu M ⟨y,H2,I2,r2,q2⟩=>
  ay (D d M g H2 x y v u _ I2 r1 r2 q2) λd N ⟨z,H3,I3,r3,k,e,q3⟩=>?_)) C
 subst e;cases r3;refine jB ?_;cases k with
 |false=>
  obtain⟨W,n,E⟩:=q3;cases n;exact ite_ff ⟨H3,I3,E⟩
 |true=>
  refine ite_tt (test_last (ay (A d N g H3 _ I3 q3) λw' O ⟨R,H4,I4,r4,q4⟩=>ay (i d O g H4 y R u w' _ I4 r2 r4 q4) λd' Z U=>?_));obtain⟨z2,l,m,J,Y,o,F⟩:=U
  subst o;cases J;exact jB ⟨l,m,F⟩
theorem rH:(sizeLine:Nat)<2 ^ 63:=by rw[sizeLine_eq];decide
theorem R9:dM X (binaryOp .Add) (λx y H Q=>∃i j,x= .str i/\y= .str j/\i.length+j.length<=sizeLine/\Q (.str (i++j)) H):=by
 intro d s m H x y v u Q I f g h;obtain⟨i,j,rfl,rfl,e,q⟩:=h;obtain⟨t,rfl⟩:=f;obtain⟨k,rfl⟩:=g;exact add_str (λt' l=>⟨.str (i++j),H,I.tok _,⟨_,rfl⟩,q⟩) e
theorem vals1{x:V}{us:ak}(r:Vals [x] us):∃u,us= [u]/\RelV x u:=by
 cases r with
 |cons r1 r2=>cases r2;exact⟨_,rfl,r1⟩
theorem vals2{x y:V}{us:ak}(r:Vals [x,y] us):∃u d,us= [u,d]/\RelV x u/\RelV y d:=by
 cases r with
 |cons r1 r2=>
  cases r2 with
  |cons r3 r4=>cases r4;exact⟨_,_,rfl,r1,r3⟩
theorem To(hc:X.calm=true):cQ X (.builtin "max") (λxs H Q=>∃i j,xs= [.int i,.int j]/\Q (.int (if j > i then j else i)) H):=by
 intro pins s σ H xs us Q I r h;obtain⟨i,j,rfl,q⟩:=h;obtain⟨u,w',rfl,⟨t,rfl⟩,⟨t',rfl⟩⟩:=vals2 r;refine max_two_ints (I.ok.hd hc) λh' tk k=>⟨_,H,I.kept k,?_,q⟩
 by_cases hj:j > i
 . rw[ai hj,ai hj];exact⟨_,rfl⟩
 . rw[ae hj,ae hj];exact⟨_,rfl⟩
theorem UW:cQ X (.builtin "ord") (λxs H Q=>∃x,xs= [.str x]/\x.length=1/\Q (.int (x.cps.getD 0 0:Nat)) H):=by
 intro pins s σ H xs us Q I r h;obtain⟨x,rfl,hz,q⟩:=h;obtain⟨u,rfl,t,rfl⟩:=vals1 r;exact ord_of_one hz ⟨.int _,H,I.tok _,⟨_,rfl⟩,q⟩
end
structure dJ(h:Heap)(x dx C:Addr)(mA:bo):Prop where
 obj:h.get? x=some (oe C dx)
 ns:h.Ns1 dx mA
 ne:dx≠x
theorem S3{h:Heap}(n:h.Ns1 dx mA):∃od,h.get? dx=some od/\∀name,PySem.W.lookIn name od=some (mA name):=by
 obtain⟨o,es,ep,ho,hd,hk,_,hm⟩:=n;refine⟨o,ho,λname=>?_⟩
 have e:=hm name;unfold nsFind findBy at e;rw[<-Array.find?_toList]at e;unfold PySem.W.lookIn;rw[hd];dsimp only;split
 . rename_i y q
   rw[q]at e;exact congrArg some e
 . rename_i q
   rw[q]at e;have a:es.toList.any (·.refKey)=false:=by
    rw[List.any_eq_false];intro y hy;obtain⟨z,t,hkey⟩:=hk y (Array.mem_toList_iff.mp hy);simp[DictEntry.refKey,hkey]
   have a':¬es.toList.any (·.refKey)=true:=by rw[a];exact hZ
   rw[ae a'];exact congrArg some e
theorem dJ.look{x c C:Addr}(I:dJ h x c C mA):∃b,PySem.W.InstAt h x (oe C c) C (some b)/\∀a,PySem.W.lookIn a b=some (mA a):=
 let⟨b,ho,hl⟩:=S3 I.ns
 ⟨b,⟨I.obj,rfl,rfl,ho⟩,hl⟩
section
variable {prog:Program}{w:World}{A:Around}{E:aP}{s:Shared}{K:ag}{x dx C f:Addr}{mA:bo}{name:Str}{v:Value}
theorem get_map(X:K.In s.heap)(I:dJ s.heap x dx C mA)(c:vV K C name=true)(d:zw K C=true)
 (b:PySem.W.findIn K (.ref C) name=some none) (g:mA name=some v) (a:PySem.W.handedIn v=true) (h:Q v { s with toks:=s.toks+1 }):
 wpAny (model prog w) A (getAttr (.ref x) name expr) Q E s:=by
 obtain⟨i,J,e⟩:=I.look;exact PySem.W.get_value X J (PySem.W.plainGet_of c).1 (PySem.W.findObj_own d b rfl (by rw[e,g])) a h
theorem UH(X:K.In s.heap)(I:dJ s.heap x dx C mA)(a:vV K C name=true)
 (b:PySem.W.findIn K (.ref C) name=some (some (.ref f))) (d:PySem.W.isFn K (.ref f)=true) (e:mA name=none) (h:Q (.ref f,[.ref x]) s):
 wpAny (model prog w) A (getMethod (.ref x) name pl) Q E s:=by
 obtain⟨g,J,c⟩:=I.look;exact PySem.W.method_fn X J (PySem.W.plainGet_of a).1 (PySem.W.plainGet_of a).2 b (eX.mp d) (by show(PySem.W.lookIn name g).map (·.isSome)=some false;rw[c,e];rfl) h
theorem V6{ns:aA}(X:K.In s.heap)(I:dJ s.heap x dx C mA)
 (hs:PySem.W.findIn K (.ref C) "__setattr__" =some (some (.builtin "object.__setattr__"))) (o:PySem.W.plainOver K C=true) (t:PySem.W.takerIn K C name=some none) (n:zw K C=true)
 (u:PySem.Within mA ns) (hsz:ns.length<=sizeLine)
 (h:∀d,dJ d x dx C (λy=>if y=name then some v else mA y)->Heap.SameBut dx s.heap d->Q () { s with heap:=d,toks:=s.toks+2 }):
 wpAny (model prog w) A (setAttr (.ref x) name v) Q E s:=by
 obtain⟨F,J,z⟩:=I.look;refine PySem.W.set_plain X J hs (PySem.W.osa_open (s:={ s with toks:=s.toks+1 }) (r:=none) X J o t λb=>?_)
 obtain⟨cd,m,g⟩:=PySem.W.any_some n;have hx:s.heap.get? x=some ⟨.ref C,some dx,.plain,#[]⟩:=I.obj;refine aj (aH (aj (aj (wpAny_loadPart hx (aj (PySem.W.Looks.here (s:={ s with toks:=s.toks+1 }) (PySem.W.looks_clsIn X m) ?_))))))
 rw[g];refine aH (a:=some dx) (aj (aH (aj ?_)));refine wpAny_nsSet1 (s:={ s with toks:=s.toks+1 }) I.ns λh' b c=>?_
 obtain⟨D,l,k,j,i,e⟩:=b.count (PySem.Within.cons name v u);refine aj (wpAny_lookBehind j (by rw[i];exact pastItsLine_dict (bR e (by rw[bG];omega))) ?_)
 exact aH (h _ ⟨(c.2 _ (bZ I.ne)).trans I.obj,b,I.ne⟩ c)
theorem U9{vs:ak}(X:K.In s.heap)(hm:PySem.W.makesIn K C=true)
 (hi:PySem.W.findIn K (.ref C) "__init__" =some (some (.ref f))) (hf:PySem.W.typeIn K (.ref f)=some (.type "function"))
 (h:codeAny (model prog w) (A.under (.builtin "type.__call__" ⟨.ref C::vs,kw⟩)) (.call (.ref f) ⟨.ref (s.heap.objs.size+1)::vs,kw⟩) (PySem.W.InitBack (s.heap.objs.size+1) R)
  { s with heap:=(s.heap.push mU).push (oe C s.heap.objs.size) }):
 codeAny (model prog w) A (.call (.ref C) ⟨vs,kw⟩) R s:=by
 obtain⟨hh,g,d,t,os⟩:=s;exact PySem.W.make_core (PySem.W.makes_of X hm) (PySem.W.looks_findIn X hi) (λself=>PySem.W.bind_fn X self hf) (.inl rfl) h
end
noncomputable def fm (f:Str)(v:V):List (Str×V)->List (Str×V)
 | []=>[(f,v)]
 |(g,x)::r=>if g=f then(g,v)::r else(g,x)::fm f v r
theorem HL(f g:Str)(v):∀c:List (Str×V),(fm f v c).lookup g=if g=f then some v else c.lookup g
 | []=>by
  show List.lookup g [(f,v)]=_
  by_cases h:g=f
  . have a:(g==f)=true:=eX.mpr h
    simp only[List.lookup,a,ai h]
  . have a:(g==f)=false:=nZ.mpr h
    simp only[List.lookup,a,ae h]
 |(k,x)::r=>by
  have d:=HL f g v r;rw[show fm f v ((k,x)::r)=(if k=f then(k,v)::r else(k,x)::fm f v r)from rfl]
  by_cases b:k=f
  . rw[ai b]
    by_cases h:g=k
    . have a:(g==k)=true:=eX.mpr h
      simp only[List.lookup,a,ai (h.trans b)]
    . have a:(g==k)=false:=nZ.mpr h
      simp only[List.lookup,a,ae (λe:g=f=>h (e.trans b.symm))]
  . rw[ae b]
    by_cases h:g=k
    . have a:(g==k)=true:=eX.mpr h
      simp only[List.lookup,a,ae (λe:g=f=>b (h.symm.trans e))]
    . have a:(g==k)=false:=nZ.mpr h
      simp only[List.lookup,a];exact d
theorem Aq(f)(v):∀a:List (Str×V),f∈(fm f v a).map (·.1)/\∀g,g∈a.map (·.1)->g∈(fm f v a).map (·.1)
 | []=>⟨by simp[fm],λg h=>by simp at h⟩
 |(k,x)::r=>by
  obtain⟨c,d⟩:=Aq f v r;rw[show fm f v ((k,x)::r)=(if k=f then(k,v)::r else(k,x)::fm f v r)from rfl]
  by_cases b:k=f
  . rw[ai b]
    subst b;exact⟨by simp,λg h=>by simpa using h⟩
  . rw[ae b]
    refine⟨?_,λg h=>?_⟩
    . rw[bQ]
      exact gw _ c
    . rw[bQ]at h ⊢
      rcases dh.mp h with e|e
      . exact dh.mpr (.inl e)
      . exact gw _ (d g e)
theorem HM(f)(v):∀a:List (Str×V),(fm f v a).length<=a.length+1
 | []=>by simp[fm]
 |(k,x)::r=>by
  have c:=HM f v r;rw[show fm f v ((k,x)::r)=(if k=f then(k,v)::r else(k,x)::fm f v r)from rfl]
  by_cases b:k=f
  . rw[ai b,bG,bG];omega
  . rw[ae b,bG,bG];omega
theorem bN.some_of{v:V}(r:bN (some v) o):∃u,o=some u/\RelV v u:=by
 cases o with
 |none=>exact(show False from r).elim
 |some u=>exact⟨u,rfl,r⟩
theorem bN.none_of(r:bN none o):o=none:=by
 cases o with
 |none=>rfl
 |some u=>exact(show False from r).elim
theorem Tv{v:V}(r:RelV v u):PySem.W.handedIn u=true:=by
 cases v with
 |au=>cases(show u=Value.none from r);rfl
 |bl b=>cases(show u=Value.bool b from r);rfl
 |int i=>obtain⟨t,e⟩:=(show ∃t,u=Value.int i t from r);cases e;rfl
 |str x=>obtain⟨t,e⟩:=(show ∃t,u=Value.str x t from r);cases e;rfl
 |wx b=>obtain⟨t,e⟩:=(show ∃t,u=Value.bytes b t from r);cases e;rfl
 |lR b=>obtain⟨t,e⟩:=(show ∃t,u=Value.float b t from r);cases e;rfl
 |ref a=>cases(show u=Value.ref a from r);rfl
 |ty n=>cases(show u=Value.type n from r);rfl
section
variable {P:Program}{w:World}{H H':Hp}{h h':Heap}{a C dx:Addr}{fs fs':List (Str×V)}
theorem ye(c:cM P w H h)(e:H a=some (.ins C dx fs)):∃b,dJ h a dx C b/\(∀f,bN (fs.lookup f) (b f))/\PySem.Within b (fs.map (·.1))/\fs.length<=1000/\H dx=some (.own a):=by
 obtain⟨d,z,g,ob,b,n,r,q⟩:=(show aC P w H h a (.ins C dx fs)from c a _ e)
 exact⟨b,⟨ob,n,g⟩,r,q,z,d⟩
end
structure cK(K:ag)(C:Addr):Prop where
 pg:vV K C Str.empty=true
 hd:zw K C=true
 po:PySem.W.plainOver K C=true
 sa:PySem.W.findIn K (.ref C) "__setattr__" =some (some (.builtin "object.__setattr__"))
theorem cK.get{K:ag}(c:cK K C)(f:Str):vV K C f=true:=c.pg
def aW(K:ag)(C:Addr)(f:Str):Prop:=PySem.W.findIn K (.ref C) f=some none
theorem aW.vP{K:ag}(n:aW K C f):PySem.W.takerIn K C f=some none:=by
 unfold PySem.W.takerIn;rw[show PySem.W.findIn K (.ref C) f=some none from n]
 rfl
structure Con(K:ag)(C:Addr)(f:Str)(v:V)(u:Value):Prop where
 at_:PySem.W.findIn K (.ref C) f=some (some u)
 rel:RelV v u
 get:PySem.W.specialIn K u "__get__" =some none
 cp:PySem.W.copiedNames.contains f=false
structure Meth(K:ag)(C:Addr)(m:Str)(f:Addr):Prop where
 at_:PySem.W.findIn K (.ref C) m=some (some (.ref f))
 fn:PySem.W.isFn K (.ref f)=true
 kp:PySem.W.keepIn K (.ref f)=true
section
variable {X:Cx}{pins:aF}{σ:St}{H:Hp}{s:Shared}{a C dx:Addr}{fs:List (Str×V)}{f:Str}{v:V}{A:Around}{E:aP}
theorem HZ{b:Bool}(I:Inv X pins σ H s)(e:H a=some (.ins C dx fs))(c:cK X.K C)(n:aW X.K C f)(l:fs.lookup f=some v)
 (h:∀u d,Inv X pins σ H d->RelV v u->Q u d):wpAny (model X.prog X.w) A (getAttr (.ref a) f b) Q E s:=by
 obtain⟨i,O,r,_,_,_⟩:=ye I.av e;obtain⟨u,g,ru⟩:=bN.some_of (v:=v) (o:=i f) (by rw[<-l];exact r f)
 exact get_map I.dj O (c.get f) c.hd n g (Tv ru) (h u _ (I.tok _) ru)
theorem HY{g:Addr}(I:Inv X pins σ H s)(e:H a=some (.ins C dx fs))(c:cK X.K C)(k:Meth X.K C m g)(l:fs.lookup m=none)
 (h:Q (.ref g,[.ref a]) s):wpAny (model X.prog X.w) A (getMethod (.ref a) m pl) Q E s:=by
 obtain⟨d,O,r,_,_,_⟩:=ye I.av e;have b:d m=none:=bN.none_of (by rw[<-l];exact r m)
 exact UH I.dj O (c.get m) k.at_ k.fn b h
theorem Ih{Q:Unit->Shared->Prop}(I:Inv X pins σ H s)(e:H a=some (.ins C dx fs))(c:cK X.K C)(n:aW X.K C f)(hl:fs.length<1000)(ry:RelV y u)
 (h:∀s',Inv X pins σ (upd H a (.ins C dx (fm f y fs))) s'->Q () s'):wpAny (model X.prog X.w) A (setAttr (.ref a) f u) Q E s:=by
 obtain⟨mA,O,r,wi,_,ho⟩:=ye I.av e;have hz:(fs.map (·.1)).length<=sizeLine:=by rw[bu,sizeLine_eq];omega
 refine V6 I.dj O c.sa c.po n.vP c.hd wi hz λh' O' sb=>h _ ?_
 have hd:∃o,h'.get? dx=some o:=let⟨o,_,_,e',_⟩:=O'.ns;⟨o,e'⟩;refine I.write (x:=a) (e:=dx) (by rw[e];exact True.intro) (.inr ho) (λb q hb z=>(sb.2 b hb).trans z) hd ?_
 refine⟨by rw[aD O.ne];exact ho,?_,O.ne,O'.obj,_,O'.ns,λg=>?_,λg hg=>?_⟩
 . have:=HM f y fs;omega
 . show bN ((fm f y fs).lookup g) (if g=f then some u else mA g)
   rw[HL]
   by_cases q:g=f
   . rw[ai q,ai q];exact ry
   . rw[ae q,ae q];exact r g
 . by_cases q:g=f
   . rw[q];exact(Aq f y fs).1
   . refine(Aq f y fs).2 g (wi g λz=>hg ?_)
     show(if g=f then some u else mA g)=none
     rw[ae q];exact z
theorem Inv.made(I:Inv X pins σ H s):Inv X pins σ (upd (upd H s.heap.objs.size (.own (s.heap.objs.size+1))) (s.heap.objs.size+1) (.ins C s.heap.objs.size []))
 { s with heap:=(s.heap.push mU).push (oe C s.heap.objs.size) }:=by
 have e1:(s.heap.push mU).get? s.heap.objs.size=some mU:=dE s.heap rfl;have d:((s.heap.push mU).push (oe C s.heap.objs.size)).get? (s.heap.objs.size+1)=some (oe C s.heap.objs.size):=by
  have:=dE (s.heap.push mU) (o:=oe C s.heap.objs.size) rfl
  rwa [Heap.size_push]at this
 have e:(s.heap.push mU).Ns s.heap.objs.size (λ_=>none):=⟨mU,#[],_,e1,rfl,(λe g=>ba g (by simp)),λ_=>rfl⟩
 have c:=I.laid (a:=s.heap.objs.size) (o:=.own (s.heap.objs.size+1)) (h':=s.heap.push mU) (t':=s.toks) (λb u q=>bw _ q) (aK _) ⟨_,e1⟩
 refine c.laid (a:=s.heap.objs.size+1) (o:=.ins C s.heap.objs.size []) (t':=s.toks) (λb u q=>bw _ q) (Nat.le_of_eq (Heap.size_push _ _)) ?_
 have b:s.heap.objs.size≠s.heap.objs.size+1:=cJ (Nat.lt_succ_self _);refine⟨by rw[aD b,c6],jY _,b,d,λ_=>none,(Heap.Ns1.of_empty e).at λo q=>bw _ q,λ_=>True.intro,λy h=>ba rfl h⟩
theorem Kf{env:Env}{e:Expr}{s:Shared}(c:attributeBase e f env (eval e env)=eval e env)
 (h:wpAny (model prog w) A (eval e env) (λo b=>wpAny (model prog w) A (getAttr o f true) Q E b) E s):wpAny (model prog w) A (eval (.Attribute e f pos) env) Q E s:=
 Attribute_any_ h (by rw[arm_eval_Attribute,c])
end
noncomputable def Pl (K:ag)(ta:TE)(f:Str):TE:=λσ H Q=>ta σ H λx H1=>∃a C dx fs v,x= .ref a/\H1 a=some (.ins C dx fs)/\cK K C/\aW K C f/\fs.lookup f=some v/\Q v H1
noncomputable def Qd (K:ag)(g h:TE)(f:Str):TS:=λD c H=>h c H λy H1=>g c H1 λx d=>∃a C e b,x= .ref a/\d a=some (.ins C e b)/\cK K C/\aW K C f/\b.length<1000/\
 D.nx c (upd d a (.ins C e (fm f y b)))
def FG(X:Cx)(op:Operator)(rd:V->V->Hp->VK->Prop):Prop:=
 ∀a s b H x y u v Q,Inv X a b H s->RelV x u->RelV y v->rd x y H Q->wpAny (model X.prog X.w) X.A (inplaceOp op u v) (EP X a b Q) X.xe s
noncomputable def V7 (K:ag)(j k:TE)(rd:V->V->Hp->VK->Prop)(f:Str):TS:=λD d H=>j d H λx H1=>∃a C i g v,x= .ref a/\H1 a=some (.ins C i g)/\cK K C/\aW K C f/\g.lookup f=some v/\
 k d H1 λy h=>rd v y h λz e=>∃c b,e a=some (.ins C c b)/\b.length<1000/\D.nx d (upd e a (.ins C c (fm f z b)))
section
variable {X:Cx}{o e value:Expr}{f:Str}{pos pos' tpos:Pos}{ta tv:TE}
theorem W8(k:PE X e ta)(j:attributeBase e f X.env (eval e X.env)=eval e X.env):PE X (.Attribute e f pos) (Pl X.K ta f):=by
 intro b s t H Q I h;refine Kf j (ay (k b s t H _ I h) λu z r=>?_);obtain⟨x,H1,d,m,a,C,w,y,v,ex,i,c,n,l,q⟩:=r
 subst ex;obtain rfl:u=Value.ref a:=m;exact HZ d i c n l λu' A g ru=>⟨v,H1,g,ru,q⟩
theorem Xm(ha:PE X o ta)(hv:PE X value tv)(hs:swapsWith value (some (.Attribute o f pos')) pos.line X.env=pure false):PS X (.Assign [.Attribute o f pos'] value pos) (Qd X.K ta tv f):=by
 intro pins s σ H D I h;refine plainObj_wpAny_Assign_Attribute (ay (hv pins s σ H _ I h) λu s1 ⟨y,H1,I1,ry,q⟩=>ay (ha pins s1 σ H1 _ I1 q) λov s2 zz=>?_) hs;obtain⟨x,H2,I2,rx,a,C,dx,fs,ex,ea,c,n,l,q2⟩:=zz
 subst ex;obtain rfl:ov=Value.ref a:=rx;exact Ih I2 ea c n l ry λs3 I3=>⟨σ,_,I3,q2⟩
theorem Te{op:Operator}{rd:V->V->Hp->VK->Prop}(ha:PE X o ta)(hv:PE X value tv)(hop:FG X op rd):PS X (.AugAssign (.Attribute o f tpos) op value pos) (V7 X.K ta tv rd f):=by
 intro pins s σ H D I h;refine wpAny_AugAssign_AttributeAny (ay (ha pins s σ H _ I h) λov s1 zz=>?_);obtain⟨x,H1,I1,rx,a,C,dx,fs,v,ex,ea,c,n,l,q⟩:=zz
 subst ex;obtain rfl:ov=Value.ref a:=rx;refine HZ I1 ea c n l λu s2 I2 ru=>ay (hv pins s2 σ H1 _ I2 q) λw3 s3 ⟨y,H2,I3,ry,q3⟩=>ay (hop pins s3 σ H2 v y u w3 _ I3 ru ry q3) λw4 s4 zz=>?_;obtain⟨z,H3,I4,rz,dx',fs',ea',l',q4⟩:=zz
 exact Ih I4 ea' c n l' rz λs5 I5=>⟨σ,_,I5,q4⟩
def yU:V->V->Hp->VK->Prop:=λx y H Q=>∃i j,x= .int i/\y= .int j/\Q (.int (i+j)) H
theorem XR:FG X .Add yU:=by
 rintro a s g H x y u v Q I c d ⟨i,j,rfl,rfl,q⟩;obtain⟨t,rfl⟩:=(show ∃t,u=Value.int i t from c)
 obtain⟨b,rfl⟩:=(show ∃b,v=Value.int j b from d)
 exact PyProof.Rows.iadd_int ⟨.int (i+j),H,I.tok _,⟨_,rfl⟩,q⟩
end
section
variable {X:Cx}{pins:aF}{σ:St}{H:Hp}{s:Shared}{A:Around}{E:aP}{Q:aP}{c:Value}{b:Bool}
inductive jt(K:ag)(H:Hp):V->Value->Prop where
 |au:jt K H .au (.type "NoneType")
 |bl (x:Bool):jt K H (.bl x) (.type "bool")
 |int (i:Int):jt K H (.int i) (.type "int")
 |str (x:Str):jt K H (.str x) (.type "str")
 |lR (x:UInt64):jt K H (.lR x) (.type "float")
 |lst {a:Addr} {xs:LV} (e:H a=some (.lst xs)):jt K H (.ref a) (.type "list")
 |aZ {a:Addr} {o:Obj} {xs:LV} (e:H a=some (.aZ o (.lst xs))):jt K H (.ref a) (.type "list")
 |tup {a:Addr} {xs:LV} (e:H a=some (.tup xs)):jt K H (.ref a) (.type "tuple")
 |dK {a:Addr} {kvs:List (Key×V)} (e:H a=some (.dK kvs)):jt K H (.ref a) (.type "dict")
 |dT {a:Addr} {kvs:List (List bC×V)} (e:H a=some (.dT kvs)):jt K H (.ref a) (.type "dict")
 |ins {a C dx:Addr} {fs:List (Str×V)} (e:H a=some (.ins C dx fs)) (cl:cK K C) (ha:PySem.W.findIn K (.ref C) "__class__" =some (some (.builtin "object.__class__")))
  (hn:PySem.W.specialIn K (.builtin "object.__class__") "__get__" =some (some (.builtin "getset_descriptor.__get__"))) (htk:PySem.W.takesIn K (.builtin "object.__class__")=some true)
  (hm:PySem.W.mroIn K C (.type "object")=some true):jt K H (.ref a) (.ref C)
end
structure aI(k:Nat)(A:Around):Prop where
 hd:A.handled=none
 dp:A.depth+3*k+5<recursionLimit
 un:A.units+16*k+200<cLine
theorem aI.mono(r:aI k A)(h:j<=k):aI j A:=⟨r.hd,by have:=r.dp;omega,by have:=r.un;omega⟩
theorem aI.deeper(r:aI (k+1) A)(env):aI k (A.deeper env):=
 ⟨r.hd,by have:=r.dp;show A.depth+1+3*k+5<_;omega,by have:=r.un;show A.units+3+16*k+200<_;omega⟩
theorem Sz{A:Around}{us:ak}:(A.under (.builtin "type.__call__" ⟨.ref C::us,kw⟩)).depth=A.depth+1:=by
 first|rfl|simp[Around.under,Code.weight,Code.isCreation,Code.isGuard,Code.isCaller,Code.frames,Code.isFrame,guardIds]
theorem Sy{A:Around}{us:ak}:(A.under (.builtin "type.__call__" ⟨.ref C::us,kw⟩)).units=A.units+1:=by
 first|rfl|simp[Around.under,Code.cUnits,Code.frames,Code.isFrame]
theorem aI.make(r:aI (k+1) A)(C)(us)(a:List (Str×Value)):aI k (A.under (.builtin "type.__call__" ⟨.ref C::us,a⟩)):=
 ⟨r.hd,by have:=r.dp;rw[Sz];omega,by have:=r.un;rw[Sy];omega⟩
theorem aI.depth(r:aI k A):A.depth<recursionLimit:=by have:=r.dp;omega
theorem aI.units(r:aI k A):A.units+64<cLine:=by have:=r.un;omega
def yH:TA:=λ_ H Q=>Q [] H
def Zn(ta:TE)(tr:TA):TA:=λσ H Q=>ta σ H λx H1=>tr σ H1 λxs H2=>Q (x::xs) H2
section
variable {X:Cx}{e:Expr}{es:aS}{te:TE}{t:TA}{pos:Pos}
theorem Xa:PA X [] yH:=λ_ _ _ _ H Q I h=>Calls.spliced_nil ⟨[],H,I,.nil,h⟩
theorem Vy(d:PE X e te)(f:PA X es t)(hs:starEach (e::es) X.env=(false,eval e X.env)::starEach es X.env:=by rfl):PA X (e::es) (Zn te t):=by
 intro pos a s b H Q I h;rw[hs];show wpAny _ _ (spliced ((false,eval e X.env)::backTo pos (starEach es X.env))) _ _ s;refine Calls.spliced_cons (ay (d a s b H _ I h) λu i k=>?_);obtain⟨x,H1,c,r1,g⟩:=k
 exact ay (f pos a i b H1 _ c g) λus l ⟨j,H2,I2,r2,q2⟩=>⟨x::j,H2,I2,.cons r1 r2,q2⟩
def Pb(t:TA):TE:=λσ H Q=>t σ H λxs H1=>xs.length<=sizeLine/\∀p,H1 p=none->Q (.ref p) (upd H1 p (.tup xs))
def Ph(t:TA):TE:=λσ H Q=>t σ H λxs H1=>xs.length<=sizeLine/\∀p,H1 p=none->Q (.ref p) (upd H1 p (.lst xs))
theorem W4{x1}(h:PA X es t):PE X (.Tuple es x1 pos) (Pb t):=by
 intro a s g H Q I d;refine wpAny_Tuple_spliced (ay (h pos a s g H _ I d) λus b ⟨f,H1,I1,r,z,q⟩=>⟨by rw[<-r.length];exact z,?_⟩)
 have c:H1 b.heap.objs.size=none:=I1.av.fresh (aK _);refine⟨.ref b.heap.objs.size,upd H1 b.heap.objs.size (.tup f),I1.laid (t':=b.toks) (λb u e=>bw _ e) (aK _) ?_,rfl,q _ c⟩
 exact⟨z,us,r,⟨_,dE _ rfl,rfl,_,rfl⟩⟩
theorem La(h:PA X es t):PE X (.List es pos) (Ph t):=by
 intro a s g H Q I d;refine wpAny_List_spliced (ay (h pos a s g H _ I d) λus b ⟨f,H1,I1,r,z,q⟩=>⟨by rw[<-r.length];exact z,?_⟩)
 have c:H1 b.heap.objs.size=none:=I1.av.fresh (aK _);refine⟨.ref b.heap.objs.size,upd H1 b.heap.objs.size (.lst f),I1.laid (t':=b.toks) (λb u e=>bw _ e) (aK _) ?_,rfl,q _ c⟩
 exact⟨z,us,0,r,dE _ rfl⟩
end
abbrev Sp:=LV->Hp->VK->XK->Prop
abbrev jc:=List Env->Hp->Shared->XK->aP
structure fT(P:Program)(w:World)(K:ag)(mg:bo)(base:Heap)(A:Around)(outer:List Env)(s:Shared)(H:Hp):Prop where
 frames:A.frames=some outer
 mod:Mod K mg base
 bs:∀b o,base.get? b=some o->s.heap.get? b=some o/\H b=none
 jd:base.objs.size<=s.heap.objs.size
 dP:s.heap.FunFrames base outer
 nh:∀b∈ip outer,H b=none
 av:cM P w H s.heap
 bare:AllBare s.gens
def CE(a:List Env)(P:Program)(w:World)(H:Hp)(s:Shared)(Q:VK)(u:Value)(b:Shared):Prop:=
 ∃v c,b.os=s.os/\AllBare b.gens/\Un (ip a) [] H c s.heap b.heap/\cM P w c b.heap/\RelV v u/\Q v c
def CR(c:jc)(a:List Env)(P:Program)(w:World)(H:Hp)(s:Shared)(Q:VK)(E:XK)(r:Result)(b:Shared):Prop:=
 match r with
 | .ok (.ret u)=>CE a P w H s Q u b
 | .ok _=>False
 | .error e=>c a H s E e b
structure dz(P:Program)(w:World)(K:ag)(mg:bo)(base:Heap)(CX:jc)(k:Nat)(f:Addr)(fd:FuncData)(ps:aA)(sp:Sp):Prop where
 len:∀vs H Q E,sp vs H Q E->vs.length=ps.length
 run:∀(A:Around) (outer:List Env) (s:Shared) (H:Hp) (args:Args) (us:ak) (vs:LV) (Q:VK) (E:XK),aI k A->fT P w K mg base A outer s H->BindsTo s fd args (ps.zip us)->Vals vs us->sp vs H Q E->
  codeAny (model P w) A (.call (.ref f) args) (CR CX outer P w H s Q E) s
theorem fT.make{P:Program}{K:ag}{s:Shared}(e:fT P w K mg base A outer s H)(C)(us)(a:List (Str×Value)):
 fT P w K mg base (A.under (.builtin "type.__call__" ⟨.ref C::us,a⟩)) outer s H:=⟨by first|exact e.frames|(simpa[Around.under,Code.envs,Code.isFrame,pushEnvs]using e.frames),e.mod,e.bs,e.jd,e.dP,e.nh,e.av,e.bare⟩
section
variable {X:Cx}{pins:aF}{σ:St}{H:Hp}{s s':Shared}
theorem Inv.sS(I:Inv X pins σ H s):fT X.prog X.w X.K X.mg X.base X.A X.stack s H:=
 ⟨I.ok.frames,I.ok.mod,I.bs,bR I.ok.jd I.sz,I.stack,I.fI,I.av,I.bare⟩
theorem Inv.after(I:Inv X pins σ H s)(h:CE X.stack X.prog X.w H s Q u s'):EP X pins σ Q u s':=by
 obtain⟨v,c,os,a,un,e,r,q⟩:=h;obtain⟨f,g,d,t,b⟩:=s';obtain rfl:b=s.os:=os;exact⟨v,c,I.call (h':=f) (g':=g) (d':=d) (t':=t) (ch:=[]) un e a (λb z=>ba z (by simp)),r,q⟩
end
def Ln(sp:Sp)(dvs:LV)(E:XK)(t:TA):TE:=λσ H Q=>t σ H λvs H1=>sp (vs++dvs) H1 Q E
noncomputable def BF (C:Addr)(m:Str)(sp:Sp)(dvs:LV)(E:XK)(ta:TE)(t:TA):TE:=λσ H Q=>ta σ H λx H1=>∃a dx fs,x= .ref a/\H1 a=some (.ins C dx fs)/\fs.lookup m=none/\
 t σ H1 λvs H2=>sp (x::(vs++dvs)) H2 Q E
noncomputable def Lm (C:Addr)(sp:Sp)(dvs:LV)(E:XK)(t:TA):TE:=λσ H Q=>t σ H λvs H1=>∀x dx,H1 x=none->H1 dx=none->dx≠x->
 sp (.ref x::(vs++dvs)) (upd (upd H1 dx (.own x)) x (.ins C dx [])) (λv H2=>v= .au/\Q (.ref x) H2) E
def Binds(K:ag)(b:FuncData)(ps:aA)(a:ak):Prop:=
 ∀s us,K.In s.heap->(us++a).length=ps.length->BindsTo s b ⟨us,[]⟩ (ps.zip (us++a))
theorem Binds.all{K:ag}{ps:aA}(h:∀us:ak,us.length=ps.length->bindArgs fd ⟨us,[]⟩=pure (ps.zip us)):Binds K fd ps []:=λs us _ a=>by
 rw[qJ]at a ⊢;exact .of_eq (h us a)
def Passes(c:jc)(X:Cx)(E:XK):Prop:=∀a d H s e b,Inv X a d H s->c X.stack H s E e b->X.xe e b
section
variable {X:Cx}{CX:jc}{k:Nat}{f C:Addr}{fd:FuncData}{ps:aA}{sp:Sp}{dvs:LV}{ds:ak}{E:XK}{x m:Str}{p pos apos:Pos}{e o:Expr}{es:aS}{ta:TE}{t:TA}
theorem uR{s:Shared}{us:ak}{vs:LV}(F:dz X.prog X.w X.K X.mg X.base CX k f fd ps sp)(i:aI k X.A)(c:Binds X.K fd ps ds)(d:Vals dvs ds)(hx:Passes CX X E)
 (I:Inv X pins σ H s) (r:Vals vs us) (h:sp (vs++dvs) H Q E):wpAny (model X.prog X.w) X.A (call (.ref f) us) (EP X pins σ Q) X.xe s:=by
 have b:Vals (vs++dvs) (us++ds):=r.append d;have g:(us++ds).length=ps.length:=by rw[<-b.length];exact F.len _ _ _ _ h
 refine wpAny_call (codeAny_mono (F.run X.A X.stack s H ⟨us,[]⟩ (us++ds) (vs++dvs) Q E i I.sS (c s us I.dj g) b h) λr j a=>?_)
 cases r with
 |error e=>exact hx pins σ H s e j I a
 |ok fl=>
  cases fl with
  |ret u=>exact I.after a
  |next=>exact False.elim a
  |brk=>exact False.elim a
  |cont=>exact False.elim a
theorem Vw(F:dz X.prog X.w X.K X.mg X.base CX k f fd ps sp)(v:aI k X.A)(l:Gl X x)(u:X.mg x=some (.ref f))(n:PySem.W.keepIn X.K (.ref f)=true)(g:Binds X.K fd ps ds)(i:Vals dvs ds)(hx:Passes CX X E)
 (d:PA X (e::es) t) (b:(x==("__debug__":Str))=false:=by decide) (j:starEach (e::es) X.env=(false,eval e X.env)::starEach es X.env:=by rfl) (c:(backTo pos (starEach es X.env)).any (·.1)=false:=by rfl):
 PE X (.Call (.Name x p) (e::es) [] pos) (Ln sp dvs E t):=by
 intro a s w H Q I h;refine wpAny_Call_Name_kw (nr I l u ?_ b);refine zu (h₀:=X.base) I.ok.mod.iR n (ay (d pos a s w H _ I h) λus y ⟨vs,H1,I1,r,q⟩=>⟨I1.dj,?_⟩) j c
 exact uR F v g i hx I1 r q
theorem U0(F:dz X.prog X.w X.K X.mg X.base CX k f fd ps sp)(l:aI k X.A)(g:Gl X x)(j:X.mg x=some (.ref f))(i:PySem.W.keepIn X.K (.ref f)=true)(c:Binds X.K fd ps ds)(d:Vals dvs ds)(hx:Passes CX X E)
 (a:(x==("__debug__":Str))=false:=by decide):PE X (.Call (.Name x p) [] [] pos) (Ln sp dvs E yH):=by
 intro b s n H Q I h;refine wpAny_Call_Name_kw (nr I g j ?_ a);exact PySem.W.callWith_K0 I.dj i (uR (us:=[]) F l c d hx I .nil h)
theorem Vs(D:PE X o ta)(c:cK X.K C)(j:Meth X.K C m f)(F:dz X.prog X.w X.K X.mg X.base CX k f fd ps sp)(J:aI k X.A)(z:Binds X.K fd ps ds)(A:Vals dvs ds)(hx:Passes CX X E)(y:PA X (e::es) t)
 (g:starEach (e::es) X.env=(false,eval e X.env)::starEach es X.env:=by rfl) (d:(backTo pos (starEach es X.env)).any (·.1)=false:=by rfl)
 (L:eval (.Call (.Attribute o m apos) (e::es) [] pos) X.env=(do
  let n<-eval o X.env
  standAt apos.atName
  let(f,first) <-holding [n] (getMethod n m pl)
  callWith pos f first (backTo pos (starEach (e::es) X.env)) (backToKw pos (keywordEach [] X.env))):=by rfl):
 PE X (.Call (.Attribute o m apos) (e::es) [] pos) (BF C m sp dvs E ta t):=by
 intro b s v H Q I h;refine PySem.W.methodCall_KW (pl:=pl) (ay (D b s v H _ I h) λu N O=>?_) L;obtain⟨x,H1,i,M,a,R,U,ex,w,l,q⟩:=O
 subst ex;obtain rfl:u=Value.ref a:=M;refine HY i w c j l ?_;refine zu (first:=[.ref a]) (h₀:=X.base) I.ok.mod.iR j.kp (ay (y pos b N v H1 _ i q) λus W ⟨vs,H2,I2,r,q2⟩=>⟨I2.dj,?_⟩) g d
 exact uR (us:=.ref a::us) (vs:=.ref a::vs) F J z A hx I2 (.cons rfl r) q2
theorem TY(v:PE X o ta)(c:cK X.K C)(g:Meth X.K C m f)(F:dz X.prog X.w X.K X.mg X.base CX k f fd ps sp)(w:aI k X.A)(n:Binds X.K fd ps ds)(r:Vals dvs ds)(hx:Passes CX X E)
 (y:eval (.Call (.Attribute o m apos) [] [] pos) X.env=(do
  let i<-eval o X.env
  standAt apos.atName
  let(f,first) <-holding [i] (getMethod i m pl)
  callWith pos f first (backTo pos (starEach [] X.env)) (backToKw pos (keywordEach [] X.env))):=by rfl):
 PE X (.Call (.Attribute o m apos) [] [] pos) (BF C m sp dvs E ta yH):=by
 intro b s D H Q I h;refine PySem.W.methodCall_KW (pl:=pl) (ay (v b s D H _ I h) λu M A=>?_) y;obtain⟨x,H1,d,z,a,J,L,ex,j,l,q⟩:=A
 subst ex;obtain rfl:u=Value.ref a:=z;refine HY d j c g l ?_;exact PySem.W.callWith_K0 (first:=[.ref a]) d.dj g.kp (uR (us:=[.ref a]) (vs:=[.ref a]) F w n r hx d (.cons rfl .nil) q)
structure Mk(K:ag)(C f:Addr):Prop where
 makes:PySem.W.makesIn K C=true
 init:PySem.W.findIn K (.ref C) "__init__" =some (some (.ref f))
 fn:PySem.W.isFn K (.ref f)=true
 kp:PySem.W.keepIn K (.ref C)=true
theorem Jp{s:Shared}{us:ak}{vs:LV}(M:Mk X.K C f)(F:dz X.prog X.w X.K X.mg X.base CX k f fd ps sp)(z:aI (k+1) X.A)(n:Binds X.K fd ps ds)(w:Vals dvs ds)
 (hx:Passes CX X E) (I:Inv X pins σ H s) (r:Vals vs us)
 (h:∀x c,H x=none->H c=none->c≠x->sp (.ref x::(vs++dvs)) (upd (upd H c (.own x)) x (.ins C c [])) (λv j=>v= .au/\Q (.ref x) j) E):
 wpAny (model X.prog X.w) X.A (call (.ref C) us) (EP X pins σ Q) X.xe s:=by
 have d:=h (s.heap.objs.size+1) s.heap.objs.size (I.av.fresh (n8 _)) (I.av.fresh (aK _)) (cJ (Nat.lt_succ_self _));have b:=Inv.made (C:=C) I;have g:Vals (V.ref (s.heap.objs.size+1)::(vs++dvs)) (Value.ref (s.heap.objs.size+1)::(us++ds)):=.cons rfl (r.append w);have y:(Value.ref (s.heap.objs.size+1)::us++ds).length=ps.length:=by
  have e:=g.length;rw[F.len _ _ _ _ d]at e;exact e.symm
 refine wpAny_call (U9 (f:=f) I.dj M.makes M.init (eX.mp M.fn) (codeAny_mono (F.run _ X.stack _ _ ⟨Value.ref (s.heap.objs.size+1)::us,[]⟩ (Value.ref (s.heap.objs.size+1)::(us++ds)) _ _ E (z.make C us [])
  (b.sS.make C us []) (n _ (Value.ref (s.heap.objs.size+1)::us) b.dj y) g d) λr D a=>?_))
 cases r with
 |error e=>exact hx pins σ _ _ e D b a
 |ok fl=>
  cases fl with
  |ret u=>
   obtain⟨v,i,l,rv,ev,A⟩:=b.after a;subst ev;exact⟨rv,⟨V.ref (s.heap.objs.size+1),i,l,rfl,A⟩⟩
  |next=>exact False.elim a
  |brk=>exact False.elim a
  |cont=>exact False.elim a
theorem Vt(M:Mk X.K C f)(F:dz X.prog X.w X.K X.mg X.base CX k f fd ps sp)(u:aI (k+1) X.A)(l:Gl X x)(n:X.mg x=some (.ref C))(g:Binds X.K fd ps ds)(i:Vals dvs ds)(hx:Passes CX X E)
 (d:PA X (e::es) t) (b:(x==("__debug__":Str))=false:=by decide) (j:starEach (e::es) X.env=(false,eval e X.env)::starEach es X.env:=by rfl) (c:(backTo pos (starEach es X.env)).any (·.1)=false:=by rfl):
 PE X (.Call (.Name x p) (e::es) [] pos) (Lm C sp dvs E t):=by
 intro a s v H Q I h;refine wpAny_Call_Name_kw (nr I l n ?_ b);refine zu (h₀:=X.base) I.ok.mod.iR M.kp (ay (d pos a s v H _ I h) λus w ⟨vs,H1,I1,r,q⟩=>⟨I1.dj,?_⟩) j c
 exact Jp M F u g i hx I1 r q
theorem TZ(M:Mk X.K C f)(F:dz X.prog X.w X.K X.mg X.base CX k f fd ps sp)(j:aI (k+1) X.A)(g:Gl X x)(i:X.mg x=some (.ref C))(c:Binds X.K fd ps ds)(d:Vals dvs ds)(hx:Passes CX X E)
 (a:(x==("__debug__":Str))=false:=by decide):PE X (.Call (.Name x p) [] [] pos) (Lm C sp dvs E yH):=by
 intro b s l H Q I h;refine wpAny_Call_Name_kw (nr I g i ?_ a);exact PySem.W.callWith_K0 I.dj M.kp (Jp (us:=[]) M F j c d hx I .nil h)
end
section
variable {X:Cx}{CX:jc}{k:Nat}{f C:Addr}{fd:FuncData}{ps ks:aA}{sp:Sp}{E:XK}{x m:Str}{p pos apos kpos:Pos}{e o:Expr}{es:aS}{kws:List Keyword}{te ta:TE}{t tk:TA}{nm:Option Str}
structure qC1(K:ag)(fd:FuncData)(ps ks:aA)(g:ak->ak->ak)(gV:LV->LV->LV):Prop where
 to:∀(s:Shared) (us ws:ak),K.In s.heap->(g us ws).length=ps.length->BindsTo s fd ⟨us,ks.zip ws⟩ (ps.zip (g us ws))
 rel:∀{vs:LV} {us:ak} {zs:LV} {ws:ak},Vals vs us->Vals zs ws->Vals (gV vs zs) (g us ws)
variable {g:ak->ak->ak}{gV:LV->LV->LV}
end
structure rB(N P:aA)(sc:Scope):Prop where
 kind:sc.kind= .function
 co:sc.isCoroutine=false
 gen:sc.isGenerator=false
 nd:N.Nodup
 pre:N.take P.length=P
 par:∀x∈P,sc.names.lookup x=some .local∨sc.names.lookup x=some .cell
 pB:∀y∈sc.names,y.2≠.free
theorem Iy{b:Str->Option NameKind}{x:Str}:∀{a:List (Str×Value)} {m:bo},(∀v,(x,v)∉a)->bindL b a m x=m x
 | [],_,_=>rfl
 |(n,v)::r,m,h=>by
  unfold bindL;rw[Iy λw c=>h w (gw _ c)]
  split
  . have:x≠n:=by rintro rfl;exact h v ia
    simp[this]
  . rfl
theorem IA{b:Str->Option NameKind}{x:Str}:∀{a:List (Str×Value)} {m:bo},(∀v,(x,v)∉a)->bindC b a m x=m x
 | [],_,_=>rfl
 |(n,v)::r,m,h=>by
  unfold bindC;rw[IA λw c=>h w (gw _ c)]
  split
  . rfl
  . have:x≠n:=by rintro rfl;exact h v ia
    simp[this]
theorem Iz{a:Str->Option NameKind}{x:Str}{v:Value}:∀{P:aA} {vs:ak} {i:Nat} {m:bo},P.Nodup->P[i]? =some x->vs[i]? =some v->a x=some .local->
 bindL a (P.zip vs) m x=some v
 | [],_,_,_,_,h,_,_=>by simp at h
 |_::_,[],_,_,_,_,h,_=>by simp at h
 |p::P,w::vs,0,m,nd,h1,h2,hk=>by
  simp at h1 h2;subst h1;subst h2;show bindL a ((p,w)::P.zip vs) m p=_;unfold bindL;rw[Iy λv b=>(i8.mp nd).1 (List.of_mem_zip b).1,ai hk]
  simp
 |p::P,w::vs,i+1,m,nd,h1,h2,hk=>by
  show bindL a ((p,w)::P.zip vs) m x=_;unfold bindL;exact Iz (i:=i) (i8.mp nd).2 (by simpa using h1) (by simpa using h2) hk
theorem IB{a:Str->Option NameKind}{x:Str}{v:Value}:∀{P:aA} {vs:ak} {i:Nat} {m:bo},P.Nodup->P[i]? =some x->vs[i]? =some v->a x≠some .local->
 bindC a (P.zip vs) m x=some v
 | [],_,_,_,_,h,_,_=>by simp at h
 |_::_,[],_,_,_,_,h,_=>by simp at h
 |p::P,w::vs,0,m,nd,h1,h2,hk=>by
  simp at h1 h2;subst h1;subst h2;show bindC a ((p,w)::P.zip vs) m p=_;unfold bindC;rw[IA λv b=>(i8.mp nd).1 (List.of_mem_zip b).1,ae hk]
  simp
 |p::P,w::vs,i+1,m,nd,h1,h2,hk=>by
  show bindC a ((p,w)::P.zip vs) m x=_;unfold bindC;exact IB (i:=i) (i8.mp nd).2 (by simpa using h1) (by simpa using h2) hk
def start(N:aA)(vs:LV):St:=vs.map some++List.replicate (N.length-vs.length) none
noncomputable def nN (CX:jc)(P:Program)(w:World)(K:ag)(mg:bo)(base:Heap)(N:aA)(qual:Str)(scope:Scope)(f:Addr)(cd:Value)(A:Around)(outer:List Env)(s:Shared)(H:Hp)(E:XK):Cx where
 prog:=P
 w:=w
 K:=K
 mg:=mg
 base:=base
 A:=A.deeper (envOfC qual scope s.heap.objs.size f cd)
 N:=N
 s₀:=s
 H₀:=H
 env:=envOfC qual scope s.heap.objs.size f cd
 outer:=outer
 stack:=envOfC qual scope s.heap.objs.size f cd::outer
 ex:=[]
 calm:=true
 fn:=λ_=>true
 pn:=[]
 xe:=λe s'=>wpAny (model P w) (A.deeper (envOfC qual scope s.heap.objs.size f cd)) (leaving (envOfC qual scope s.heap.objs.size f cd) e) (λ_ s''=>CX outer H s E e s'') (λe' s''=>CX outer H s E e' s'') s'
theorem Jh{sc:Scope}{n:Nat}{x:Str}(h:sc.names.lookup x=some .cell):∃c,(cellsFrom n sc.names []).lookup x=some c:=by
 have q:=PySem.W.cellsFrom_some sc.names n [] (.inl h);exact zB.mp q
theorem TR{P:Program}{K:ag}{cd:Value}{A:Around}{s s1:Shared}{us:ak}{vs:LV}
 (S:rB N ps scope) (F:A.handled=none) (e0:fT P w K mg base A outer s H) (L:vs.length=ps.length) (r:Vals vs us)
 (x:InCallC s s.heap.objs.size (bindL (envOfC qual scope s.heap.objs.size f cd).kindOf (ps.zip us) λ_=>none) (cellsFrom (s.heap.objs.size+1) scope.names []) (bindC (envOfC qual scope s.heap.objs.size f cd).kindOf (ps.zip us) λ_=>none) s1):
 Inv (nN CX P w K mg base N qual scope f cd A outer s H E) [] (start N vs) H s1:=by
 have I:ps.length<=N.length:=by have:=congrArg List.length S.pre;rw[vW]at this;omega
 obtain⟨o,M,rfl,t⟩:=x.done;have j:∀b:Addr,b∉(nN CX P w K mg base N qual scope f cd A outer s H E).ex:=λb z=>ba (show b∈([]:List Addr)from z) (by simp)
 refine⟨⟨e0.mod,S.kind,rfl,rfl,aK _,λy z c o d=>?_,λy g=>?_,λy c _ h=>?_,λ_=>F,Around.frames_deeper e0.frames,.inr ⟨rfl,rfl⟩,λb z=>ba z (j b),e0.bs,e0.jd,λb _ _=>j b,λb z=>ba z (j b),e0.dP,e0.nh⟩,
  rfl,e0.bare,Un.kept t,⟨_,x.toInCall.ns,λi y v o d J=>?_⟩,λy c h=>⟨_,x.cell y c h⟩,e0.av.fresh (aK _),λy c h=>?_,λp l=>ba (show p∈([]:aF)from l) (by simp),e0.av.kept t,?_⟩
 . exact name_of_addr x.apart (PySem.mem_of_lookup o) (PySem.mem_of_lookup d)
 . have g:scope.names.lookup y=some .cell∨scope.names.lookup y=some .free:=g
   rcases g with g|g
   . exact Jh g
   . exact ba rfl (S.pB _ (PySem.mem_of_lookup g))
 . exact jX (x.above y c (PySem.mem_of_lookup h))
 . have hi:i<vs.length:=by
    unfold start at d
    by_cases hi:i<vs.length
    . exact hi
    . rw[List.getElem?_append_right (by simpa using hi)]at d
      rw[List.getElem?_replicate]at d;split at d<;>cases d
   have D:vs[i]? =some v:=by
    unfold start at d;rw[qG (by simpa using hi),fK]at d
    cases e:vs[i]? with
    |none=>rw[e]at d;cases d
    |some a=>rw[e]at d;cases d;rfl
   obtain⟨u,C,rv⟩:=r.get D;have l:ps[i]? =some y:=by
    rw[<-S.pre,List.getElem?_take_of_lt ∅];exact o
   have m:ps.Nodup:=by rw[<-S.pre];exact S.nd.sublist (List.take_sublist _ _)
   refine⟨u,rv,?_⟩;rcases S.par y (i9 l)with k|k
   . exact .inl ⟨k,Iz m l C k⟩
   . obtain⟨c,e⟩:=Jh (n:=s.heap.objs.size+1) k
     refine .inr ⟨.inl k,c,e,?_⟩;have q:=x.cell y c e;rw[IB m l C (by show scope.names.lookup y≠_;rw[k];decide)]at q
     exact q
 . exact e0.av.fresh (jX (x.above y c (PySem.mem_of_lookup h)))
 . unfold start
   show _=N.length;rw[eQ,bu,zq];omega
theorem qyB{P:Program}{K:ag}{f:Addr}{body:List Stmt}{dV kV doc pm cdv ct oc:Value}{an od:Option Addr} {sp:Sp} (lk:K.lookup f=some ⟨oc,od,.func (PySem.W.fnOf name qual params body scope dV kV doc pm an cdv ct),osl⟩) (hcd:PySem.W.codeIn K cdv qual=true) (S:rB N ps scope)
 (len:∀vs H Q E,sp vs H Q E->vs.length=ps.length)
 (hbody:∀(A:Around) (outer:List Env) (s:Shared) (H:Hp) (vs:LV) (Q:VK) (E:XK),aI k (A.deeper (envOfC qual scope s.heap.objs.size f cdv))->sp vs H Q E->
  ∃t,fN (nN CX P w K mg base N qual scope f cdv A outer s H E) body t/\t { nx:=λ_ H'=>Q .au H',rt:=Q } (start N vs) H):
 dz P w K mg base CX (k+1) f (PySem.W.fnOf name qual params body scope dV kV doc pm an cdv ct) ps sp:=by
 refine⟨len,λA outer s H args us vs Q E hr e0 hb r hsp=>?_⟩
 have hl:=len _ _ _ _ hsp;have KX:K.In s.heap:=e0.mod.iR.keeps λb o e=>(e0.bs b o e).1
 have lim:s.heap.NoLimit:=e0.mod.nolimit.keeps λb o e=>(e0.bs b o e).1
 have bF:∀y∈ps.zip us,scope.names.lookup y.1=some .local∨(scope.names.lookup y.1=some .cell/\((cellsFrom (s.heap.objs.size+1) scope.names []).lookup y.1).isSome=true):=λ⟨n,v⟩ hy=>by
  rcases S.par n (List.of_mem_zip hy).1 with q|q
  . exact .inl q
  . exact .inr ⟨q,PySem.W.cellsFrom_some _ _ _ (.inl q)⟩
 refine codeAny_call_function hr.depth (KX _ _ lk) rfl S.co S.gen rfl (PySem.W.codeRec_of KX hcd) (hb _ _ _ _ ?_);refine wpAny_newFunctionEnv_cells S.kind bF λenv he s1 x=>?_
 subst he;refine⟨lim.keeps x.toInCall.keep,codeAny_func ?_⟩;obtain⟨t,ht,hq⟩:=hbody A outer s H vs Q E (hr.deeper _) hsp;have I:Inv (nN CX P w K mg base N qual scope f cdv A outer s H E) [] (start N vs) H s1:=TR S hr.hd e0 hl r x;refine gx (ht [] s1 (start N vs) H _ I hq) (λfl s' hs=>?_) λe s' hs=>hs
 have fin:∀{σ':St} {H':Hp} {v:V} {u:Value},Inv (nN CX P w K mg base N qual scope f cdv A outer s H E) [] σ' H' s'->RelV v u->Q v H'->CE outer P w H s Q u s':=
  λ{σ' H' v u} J rv q=>⟨v,H',J.os,J.bare,J.base,J.av,rv,q⟩
 cases fl with
 |ret u=>
  obtain⟨v,σ',H',J,rv,q⟩:=hs;exact fin J rv q
 |next=>
  obtain⟨σ',H',J,q⟩:=hs;exact fin (v:=V.au) (u:=Value.none) J rfl q
 |brk=>
  obtain⟨_,_,_,q⟩:=hs;exact False.elim q
 |cont=>
  obtain⟨_,_,_,q⟩:=hs;exact False.elim q
section
variable {X:Cx}{x:Str}{p pos:Pos}{e:Expr}{es:aS}{t:TA}{id T:String}{r:LV->Hp->VK->Prop}
def CD(r:LV->Hp->VK->Prop)(t:TA):TE:=λσ H Q=>t σ H λvs H1=>r vs H1 Q
theorem UZ(g:cQ X (.builtin id) r)(j:Gl X x)(k:X.mg x=none)(m:bootBuiltins x=some (.builtin id))(f:PA X (e::es) t)(l:x≠"__name__":=by decide)(b:(x==("__debug__":Str))=false:=by decide)
 (i:starEach (e::es) X.env=(false,eval e X.env)::starEach es X.env:=by rfl) (c:(backTo pos (starEach es X.env)).any (·.1)=false:=by rfl):PE X (.Call (.Name x p) (e::es) [] pos) (CD r t):=by
 intro a s d H Q I h;refine wpAny_Call_Name_kw (nG I j k m ?_ l b);exact PyProof.Rows.callWith_builtin1 (ay (f pos a s d H _ I h) λus n ⟨vs,H1,I1,r1,q1⟩=>g a n d H1 vs us Q I1 r1 q1) i c
theorem SS(g:cQ X (.type T) r)(j:Gl X x)(k:X.mg x=none)(m:bootBuiltins x=some (.type T))(f:PA X (e::es) t)(l:x≠"__name__":=by decide)(b:(x==("__debug__":Str))=false:=by decide)
 (i:starEach (e::es) X.env=(false,eval e X.env)::starEach es X.env:=by rfl) (c:(backTo pos (starEach es X.env)).any (·.1)=false:=by rfl):PE X (.Call (.Name x p) (e::es) [] pos) (CD r t):=by
 intro a s d H Q I h;refine wpAny_Call_Name_kw (nG I j k m ?_ l b);exact vQ (ay (f pos a s d H _ I h) λus n ⟨vs,H1,I1,r1,q1⟩=>g a n d H1 vs us Q I1 r1 q1) i c
end
end L2
namespace HT
open PySem PyProof.Rows
section
variable {prog:Program}{w:World}{A:Around}{E:aP}{s:Shared}
theorem j0{t b:Addr}{vs ws:ak}{Q:aP}(ht:IsTup s.heap t vs.toArray)(hb:IsTup s.heap b ws.toArray)(hv:vs≠[])
 (h1:ws= []->Q (.ref t) s) (h2:ws≠[]->Q (.ref s.heap.objs.size) { s with heap:=s.heap.push { cls:=.type "tuple",data:=.seq (vs++ws).toArray } })
 (hsz:vs.length+ws.length<=sizeLine):wpAny (model prog w) A (binaryOp .Add (.ref t) (.ref b)) Q E s:=by
 obtain⟨⟨cls,dd,data,sl⟩,ho,hc,n,hd⟩:=id ht;obtain⟨⟨cls2,dd2,data2,sl2⟩,ho2,hc2,n2,hd2⟩:=id hb;simp only at hc hd hc2 hd2;subst hc hd hc2 hd2;have e:vs.toArray++ws.toArray=(vs++ws).toArray:=by simp
 by_cases hw:ws= []
 . exact concat_meets ⟨_,ho,rfl⟩ ⟨_,ho2,rfl⟩ noFill_tuple_add seq_tuple_add PySem.F.slot_tuple_add PySem.F.entry_tuple_add (PySem.F.args_tuple_add_2 _ _)
    (tuple_addW1 t b vs.toArray ws.toArray n n2 dd dd2 sl sl2 (by simpa using hv) (by simp[hw])) ⟨ho,ho2,h1 hw⟩
 . refine concat_meets ⟨_,ho,rfl⟩ ⟨_,ho2,rfl⟩ noFill_tuple_add seq_tuple_add PySem.F.slot_tuple_add PySem.F.entry_tuple_add (PySem.F.args_tuple_add_2 _ _)
    (tuple_addW2 t b vs.toArray ws.toArray n n2 dd dd2 sl sl2 (by simpa using hv) (by simpa using hw) (by rw[cZ,cZ];exact hsz)) ⟨ho,ho2,?_⟩
   rw[e];exact h2 hw
def aQ(n d:Nat):Option Int->Nat
 |none=>d
 |some v=>if v<0 then(v+(n:Int)).toNat else min v.toNat n
theorem jv(n d):aQ n d none=d:=rfl
theorem hG(n d k:Nat):aQ n d (some (k:Int))=min k n:=by
 show(if(k:Int)<0 then((k:Int)+(n:Int)).toNat else min (k:Int).toNat n)=min k n
 rw[ae ∅,Int.toNat_natCast]
theorem Xs(n d:Nat)(b:d<=n)(o:Option Int):aQ n d o<=n:=by
 cases o with
 |none=>exact b
 |some v=>
  show(if v<0 then(v+(n:Int)).toNat else min v.toNat n)<=n
  by_cases a:v<0
  . rw[ai a];omega
  . rw[ae a];exact Nat.min_le_right _ _
theorem JY(v:Int)(n d:Nat):(if v<0 then max (v+(n:Int)) 0 else min v (n:Int))=((aQ n d (some v):Nat):Int):=by
 show(if v<0 then max (v+(n:Int)) 0 else min v (n:Int))=(((if v<0 then(v+(n:Int)).toNat else min v.toNat n):Nat):Int)
 by_cases a:v<0
 . simp only[ai a];omega
 . simp only[ae a];omega
theorem Sn(lo hi:Option Int)(n:Nat):Builtin.Slice.sliceAdjust lo hi 1 (n:Int)=(((aQ n 0 lo:Nat):Int),((aQ n n hi:Nat):Int)):=by
 have a:¬((1:Int)<0):=by omega
 unfold Builtin.Slice.sliceAdjust;simp only[a,if_false];refine Prod.ext ?_ ?_
 . cases lo with
   |none=>rfl
   |some v=>exact JY v n 0
 . cases hi with
   |none=>rfl
   |some v=>exact JY v n n
theorem R8(i j:Nat):Builtin.Slice.slicePlaces (i:Int) (j:Int) 1=j-i:=by
 unfold Builtin.Slice.slicePlaces;have a:(1:Int) > 0:=by omega
 simp only[a,if_true,Int.ediv_one];split<;>omega
theorem Ig{v:Value}(p:IsPart v o)(h:Q o s):wpAny (model prog w) A (Builtin.Slice.slicePartIndex v) Q E s:=by
 cases p with
 |none=>exact slicePart_none h
 |int i t=>exact slicePart_int h
theorem Hw{sl:Addr}{lo hi:Option Int}{n:Nat}(hs:s.heap.IsSliceOf sl vl vu .none)(pl:IsPart vl lo)(d:IsPart vu hi)
 (h:Q (((aQ n 0 lo:Nat):Int),1,aQ n n hi-aQ n 0 lo) s):wpAny (model prog w) A (Builtin.Slice.sliceApplied (.ref sl) (pure (n:Int))) Q E s:=by
 obtain⟨e,b,c,a⟩:=id hs;unfold Builtin.Slice.sliceApplied Builtin.Slice.sliceFields;refine aj (aj (wpAny_field b a (x:=vl) rfl (aj (wpAny_field b a (x:=vu) rfl (aj (wpAny_field b a (x:=.none) rfl (aH ?_)))))));refine aj (slicePart_none ?_);show wpAny _ _ (if((1:Int)==0)=true then _ else _) _ _ s
 rw[ae ⋯]
 refine aj (Ig pl (aj (Ig d (aj (aH ?_)))));show wpAny _ _ (match Builtin.Slice.sliceAdjust lo hi 1 (n:Int)with|(lo,hi)=>pure (lo,(1:Int),Builtin.Slice.slicePlaces lo hi 1)) _ _ s
 rw[Sn lo hi n];show wpAny _ _ (pure (((aQ n 0 lo:Nat):Int),(1:Int),Builtin.Slice.slicePlaces ((aQ n 0 lo:Nat):Int) ((aQ n n hi:Nat):Int) 1)) _ _ s;rw[R8];exact aH h
theorem TV(xs:Array Value)(i k:Nat):((List.range k).filterMap λ(m:Nat)=>xs[((i:Int)+(m:Int)*1).toNat]?).toArray=((xs.toList.drop i).take k).toArray:=by
 have e:(λ(m:Nat)=>xs[((i:Int)+(m:Int)*1).toNat]?)=λm=>xs[i+m]?:=by
  funext m;have:((i:Int)+(m:Int)*1).toNat=i+m:=by omega
  rw[this]
 rw[e];have:=pick_run xs i k;rw[List.filterMap_map]at this;have a:((λx=>xs[x]?) ∘ λx=>i+x)=λm=>xs[i+m]?:=rfl
 rw[a]at this;rw[this]
theorem c8{t sl:Addr}{lo hi:Option Int}(b:IsTup s.heap t items)(hs:s.heap.IsSliceOf sl vl vu .none)(pl:IsPart vl lo)(k:IsPart vu hi)
 (i:¬(aQ items.size 0 lo=0/\aQ items.size items.size hi=items.size))
 (h:Q (.ref s.heap.objs.size) { s with heap:=s.heap.push { cls:=.type "tuple",data:=.seq ((items.toList.drop (aQ items.size 0 lo)).take (aQ items.size items.size hi-aQ items.size 0 lo)).toArray } })
 (hsz:items.size<=sizeLine):wpAny (model prog w) A (getItem (.ref t) (.ref sl)) Q E s:=by
 have a:sizeOk (.seq ((items.toList.drop (aQ items.size 0 lo)).take (aQ items.size items.size hi-aQ items.size 0 lo)).toArray):=by
  show((items.toList.drop (aQ items.size 0 lo)).take (aQ items.size items.size hi-aQ items.size 0 lo)).toArray.size<=sizeLine;rw[cZ,vW,vX,Array.length_toList];omega
 have l:aQ items.size items.size hi<=items.size:=Xs _ _ (aK _) hi;obtain⟨j,f,d,g⟩:=id hs;have c:s.TypeIs (.ref sl) "slice":=⟨j,f,d⟩;unfold getItem
 try with_reducible refine jD ?_
 first|refine aj (aH ?_)|skip
 refine aj (wpAny_sequenceKey b.typeIs ⋯ ?_)
 refine aj (wpAny_callSpecial?_slot (name:=Str.ofString "__getitem__") b.typeIs zA
  (jx zA b.typeIs entry_tuple_getitem ?_ (args_tuple_getitem _ _)))
 show wpAny _ _ (Builtin.Tuple.tupleItemsOf (.ref t) >>= _) _ _ s;refine aj (tupleItemsOf_ b ?_);refine aj (wpAny_typeOf c ?_);rw[ai ⋯]
 refine aj (Hw hs pl k ?_);have e:¬((((aQ items.size 0 lo:Nat):Int)==0&&(1:Int)==1&&(aQ items.size items.size hi-aQ items.size 0 lo)==items.size)=true):=by
  intro q;rw[aU,aU]at q;have n:((aQ items.size 0 lo:Nat):Int)=0:=gd q.1.1;have o:aQ items.size items.size hi-aQ items.size 0 lo=items.size:=gd q.2;exact i ⟨∅,∅⟩
 show wpAny _ _ (if(((aQ items.size 0 lo:Nat):Int)==0&&(1:Int)==1&&(aQ items.size items.size hi-aQ items.size 0 lo)==items.size)=true then _ else _) _ _ s
 rw[ae e,TV]
 first
  |exact aj (m:=Builtin.Tuple.tupleExact _) (jS (aH ⟨_,rfl,aH h⟩) a)
  |exact aj (m:=Builtin.Tuple.tupleExact _) (jS (aj (aH (aH ⟨_,rfl,aH h⟩))) a)
  |exact aj (aj (m:=Builtin.Tuple.tupleExact _) (jS (aH (aH ⟨_,rfl,aH h⟩)) a))
  |exact aj (aj (m:=Builtin.Tuple.tupleExact _) (jS (aH ⟨_,rfl,aH h⟩) a))
end
end HT
namespace L2
open PySem PySem.Spec PyProof.Rows
abbrev TO:=St->Hp->(Option Int->Hp->Prop)->Prop
def PO(X:Cx)(e:Option Expr)(t:TO):Prop:=
 ∀(a:aF) (s:Shared) (σ:St) (H:Hp) (Q:Option Int->Hp->Prop),Inv X a σ H s->t σ H Q->
  wpAny (model X.prog X.w) X.A (evalPart e X.env) (λu c=>∃o b,Inv X a σ b c/\IsPart u o/\Q o b) X.xe s
def V1:TO:=λ_ H Q=>Q none H
def Zd(t:TE):TO:=λσ H Q=>t σ H λx H1=>∃i,x= .int i/\Q (some i) H1
section
variable {X:Cx}{e:Expr}{te:TE}{lo hi:Option Expr}{tl th:TO}{pos p2:Pos}
theorem VU:PO X none V1:=by
 intro a s b H Q I h;rw[evalPart_none];exact aH ⟨none,H,I,.none,h⟩
theorem VT(h:PE X e te):PO X (some e) (Zd te):=by
 intro a s g H Q I c;rw[evalPart_some];refine ay (h a s g H _ I c) λu j f=>?_;obtain⟨x,H1,b,r1,d⟩:=f
 obtain⟨i,rfl,q⟩:=d;obtain⟨t,rfl⟩:=r1;exact⟨some i,H1,b,.int i t,q⟩
def wq(X:Cx)(r:V->Option Int->Option Int->Hp->VK->Prop):Prop:=
 ∀(a:aF) (s:Shared) (σ:St) (H:Hp) (x:V) (v vl vu:Value) (lo hi:Option Int) (sl:Addr) (Q:VK),Inv X a σ H s->RelV x v->s.heap.IsSliceOf sl vl vu .none->IsPart vl lo->IsPart vu hi->r x lo hi H Q->
  ∃T id,typeLookup (.type T) "__getitem__" =pure (some (.builtin id))/\s.TypeIs v T/\wpAny (model X.prog X.w) X.A (getItem v (.ref sl)) (EP X a σ Q) X.xe s
noncomputable def tSl (r:V->Option Int->Option Int->Hp->VK->Prop)(te:TE)(tl th:TO):TE:=λσ H Q=>te σ H λx H1=>tl σ H1 λl H2=>th σ H2 λu H3=>r x l u H3 Q
theorem TX(hr:wq X r)(he:PE X e te)(hl:PO X lo tl)(hu:PO X hi th):PE X (.Subscript e (.Slice lo hi none p2) pos) (tSl r te tl th):=by
 intro pins s σ H Q I h;refine Subscript_ (ay (he pins s σ H _ I h) λv s1 zz=>?_);obtain⟨x,H1,I1,r1,q1⟩:=zz
 refine wpAny_Slice (ay (hl pins s1 σ H1 _ I1 q1) λvl s2 ⟨l,H2,I2,pl,q2⟩=>ay (hu pins s2 σ H2 _ I2 q2) λvu s3 zz=>?_);obtain⟨u,H3,I3,pu,q3⟩:=zz
 rw[evalPart_none];refine aH ?_;have I4:Inv X pins σ H3 { s3 with heap:=s3.heap.push { cls:=.type "slice",data:=.fields #[vl,vu,.none] } }:=I3.kept (t':=s3.toks) λb ob q=>bw _ q
 obtain⟨T,id,hT,ht,hg⟩:=hr pins { s3 with heap:=s3.heap.push { cls:=.type "slice",data:=.fields #[vl,vu,.none] } } σ H3 x v vl vu l u s3.heap.objs.size Q I4 r1 (Heap.IsSliceOf.new ..) pl pu q3
 show wpAny (model X.prog X.w) X.A (subscriptTail e (.Slice lo hi none p2) v (.ref s3.heap.objs.size)) (EP X pins σ Q) X.xe { s3 with heap:=s3.heap.push { cls:=.type "slice",data:=.fields #[vl,vu,.none] } }
 exact tail_any (ops:=[.ref s3.heap.objs.size,v]) ht hT hg (by with_unfolding_all rfl)
def nO(xs:LV)(lo hi:Option Int):LV:=(xs.drop (HT.aQ xs.length 0 lo)).take (HT.aQ xs.length xs.length hi-HT.aQ xs.length 0 lo)
theorem HH(xs)(lo hi:Option Int):(nO xs lo hi).length<=xs.length:=by
 unfold nO;rw[vW,vX];omega
noncomputable def PK (K:ag):V->Option Int->Option Int->Hp->VK->Prop:=λx lo hi H Q=>∃a b,x= .ref a/\bI K H a b/\
 ¬(HT.aQ b.length 0 lo=0/\HT.aQ b.length b.length hi=b.length)/\∀p,H p=none->Q (.ref p) (upd H p (.tup (nO b lo hi)))
theorem Xp:wq X (PK X.K):=by
 intro g s t H x v m n lo hi sl Q I l hs j k h;obtain⟨a,c,rfl,hx,i,q⟩:=h;cases l;obtain⟨ab,r,d,f⟩:=I.tuple hx;have b:ab.toArray.size=c.length:=by rw[cZ];exact r.length.symm
 refine⟨"tuple",_,PyProof.Rows.slot_tuple_getitem.lookup,d.typeIs,?_⟩;refine HT.c8 d hs j k (by rw[b];exact i) ?_ (by rw[b];exact f)
 rw[b];refine⟨.ref s.heap.objs.size,_,I.laid (t':=s.toks) (o:=.tup (nO c lo hi)) (λb ob q=>bw _ q) (aK _) ?_,rfl,q _ (I.av.fresh (aK _))⟩
 exact⟨bR (HH c lo hi) f,_,(r.drop (HT.aQ c.length 0 lo)).take (HT.aQ c.length c.length hi-HT.aQ c.length 0 lo),IsTup.new _ _⟩
noncomputable def ZG (K:ag):R2:=λx y H Q=>∃a b d c,x= .ref a/\y= .ref b/\bI K H a d/\bI K H b c/\d≠[]/\d.length+c.length<=sizeLine/\
 (c= []->Q (.ref a) H)/\(c≠[]->∀p,H p=none->Q (.ref p) (upd H p (.tup (d++c))))
theorem Vals.fF{us:ak}(r:Vals xs us):us= []↔xs= []:=by
 cases r with
 |nil=>simp
 |cons _ _=>simp
theorem Wv:dM X (binaryOp .Add) (ZG X.K):=by
 intro g s A H x y v u Q I m n h;obtain⟨a,b,r,t,rfl,rfl,i,j,hx,d,k,l⟩:=h;cases m;cases n;obtain⟨ab,r1,p1,_⟩:=I.tuple i;obtain⟨f,c,p2,_⟩:=I.tuple j;refine HT.j0 p1 p2 (λz=>hx (r1.fF.mp z)) (λz=>⟨.ref a,H,I,rfl,k (c.fF.mp z)⟩) (λz=>?_) (by rw[<-r1.length,<-c.length];exact d)
 refine⟨.ref s.heap.objs.size,_,I.laid (t':=s.toks) (o:=.tup (r++t)) (λb ob q=>bw _ q) (aK _) ?_,rfl,l (λw=>z (c.fF.mpr w)) _ (I.av.fresh (aK _))⟩
 exact⟨by rw[eQ];exact d,_,r1.append c,IsTup.new _ _⟩
end
def fC(n:Nat)(i:Int):Option Nat:=if 0<=i then(if i<n then some i.toNat else none)else if -(n:Int)<=i then some (i+n).toNat else none
def bK(xs:List α)(i:Int):Option α:=(fC xs.length i).bind λj=>xs[j]?
theorem J8{n:Nat}{i:Int}(h:fC n i=some j):seqIndex? i n=some j/\j<n/\-(n:Int)<=i/\i<n:=by
 unfold fC at h
 by_cases b:0<=i
 . rw[ai b]at h
   by_cases a:i<n
   . rw[ai a]at h
     have e:i.toNat=j:=dH h;exact⟨by rw[seqIndex_of b a,e],∅,∅,a⟩
   . rw[ae a]at h;cases h
 . rw[ae b]at h
   by_cases a:-(n:Int)<=i
   . rw[ai a]at h
     have e:(i+n).toNat=j:=dH h;exact⟨by rw[seqIndex_neg ∅ a,e],∅,a,∅⟩
   . rw[ae a]at h;cases h
theorem A6{i:Int}{v:α}(h:bK xs i=some v):∃j,seqIndex? i xs.length=some j/\xs[j]? =some v/\j<xs.length/\-(xs.length:Int)<=i/\i<xs.length:=by
 unfold bK at h;cases e:fC xs.length i with
 |none=>rw[e]at h;cases h
 |some j=>
  rw[e]at h;obtain⟨a,b,c,d⟩:=J8 e;exact⟨j,a,h,b,c,d⟩
def Kh(b:Expr):Prop:=∀o i,subscripted b false o i=operate [o,i] (getItem o i)
def sH(X:Cx)(r:R2):Prop:=
 ∀c a b s d H x y v u Q,Inv X b d H s->RelV x v->RelV y u->r x y H Q->
  subscripted a false v u=operate [v,u] (getItem v u)->wpAny (model X.prog X.w) X.A (subscriptTail c a v u) (EP X b d Q) X.xe s
def NI(X:Cx)(id:String)(r:V->LV->Hp->VK->Prop):Prop:=
 ∀a s c H x b v us Q,Inv X a c H s->RelV x v->Vals b us->r x b H Q->
  wpAny (model X.prog X.w) X.A (call (.builtin id) (v::us)) (EP X a c Q) X.xe s
section
variable {X:Cx}{a b:Expr}{ta tb:TE}{pos:Pos}
theorem Zo(i:sH X r)(f:PE X a ta)(g:PE X b tb)(hs:Kh b):PE X (.Subscript a b pos) (sj r ta tb):=by
 intro c s m H Q I h;exact Subscript_ (B7 f g I h λv u l x y d e j k q=>i a b c l m d x y v u Q e j k q (hs _ _))
def PV(K:ag):R2:=λx y H Q=>∃p c i v,x= .ref p/\y= .int i/\cj K H p c/\bK c i=some v/\Q v H
def PQ(K:ag):R2:=λx y H Q=>∃p c i v,x= .ref p/\y= .int i/\bI K H p c/\bK c i=some v/\Q v H
def PU:R2:=λx y H Q=>∃z i c,x= .str z/\y= .int i/\z.length<=sizeLine/\bK z.cps.toList i=some c/\Q (.str ⟨#[c]⟩) H
theorem J7:sH X (PV X.K):=by
 intro l k c s o H x y v u Q I L M h hs;obtain⟨p,W,i,z,rfl,rfl,J,E,q⟩:=h;cases L;obtain⟨t,rfl⟩:=M;obtain⟨ab,r,f,U⟩:=I.list J;obtain⟨j,d,A,O,C,D⟩:=A6 E;obtain⟨w,m,g⟩:=r.get A;have F:=r.length;have R:=rH;have fin:EP X c o Q w s:=⟨z,H,I,g,q⟩
 by_cases n:0<=i
 . have e:i.toNat=j:=by
    rw[seqIndex_of n D]at d;exact dH d
   exact item_listR f.isList n ∅ (by rw[e];simpa using m) fin hs
 . have e:(i+(ab.toArray.size:Int)).toNat=j:=by
    rw[seqIndex_neg ∅ C]at d
    rw[cZ,<-F];exact dH d
   exact subscriptTail_builtinR (x:=w) f.isList.typeIs slot_list_getitem.lookup
    (wpAny_getItem_list_neg (Q:=λr N=>r=w/\EP X c o Q r N) f.isList ∅ (by rw[cZ]<;>omega) ∅ (by rw[e];simpa using m) ⟨rfl,fin⟩) hs
theorem X8:sH X (PQ X.K):=by
 intro f e c s k H x y v u Q I D E h hs;obtain⟨p,R,i,z,rfl,rfl,C,o,q⟩:=h;cases D;obtain⟨t,rfl⟩:=E;obtain⟨ab,r,g,O⟩:=I.tuple C;obtain⟨j,m,n,J,L,M⟩:=A6 o;obtain⟨w,l,d⟩:=r.get n;have A:=r.length;have N:=rH;have fin:EP X c k Q w s:=⟨z,H,I,d,q⟩;exact subscriptTail_builtinR (x:=w) g.typeIs slot_tuple_getitem.lookup
  (getItem_tuple (j:=j) (Q:=λr F=>r=w/\EP X c k Q r F) g ∅ ∅ (by rw[cZ,<-A];exact m) (by simpa using l) ⟨rfl,fin⟩) hs
theorem X9:sH X PU:=by
 intro e d g s J H x y v u Q I w A h hs;obtain⟨z,i,c,rfl,rfl,E,o,q⟩:=h;obtain⟨t,rfl⟩:=w;obtain⟨F,rfl⟩:=A;obtain⟨j,f,l,C,m,n⟩:=A6 o;have r:z.cps.toList.length=z.length:=by simp[Str.length]
 rw[r]at f m n;have D:=rH;exact tail_any (typeIs_str s z t) slot_str_getitem.lookup (getItem_str (c:=c) (by
  have e1:decide (i< -(2 ^ 63:Int))=false:=gL ∅
  have k:decide (i ≥ 2 ^ 63)=false:=gL ∅
  rw[e1,k,Bool.or_false]) (by rw[f];simpa using l) ⟨.str ⟨#[c]⟩,H,I.tok _,⟨_,rfl⟩,q⟩) hs
theorem Sx(ab:ak)(n j)(u):Obj.mapSeq (·.setIfInBounds j u) { cls:=.type "list",data:=.seq ab.toArray n }= { cls:=.type "list",data:=.seq (ab.set j u).toArray n }:=by
 simp[Obj.mapSeq]
theorem Inv.lst{s:Shared}{p:Addr}(I:Inv X pins σ H s)(h:H p=some (.lst xs)):
 ∃(ab:ak) (n:Nat),Vals xs ab/\s.heap.get? p=some { cls:=.type "list",data:=.seq ab.toArray n }/\xs.length<=sizeLine:=by
 obtain⟨z,ab,n,r,e⟩:=I.av p _ h;exact⟨ab,n,r,e,z⟩
theorem Inv.pz{s:Shared}{p:Addr}{ab its':ak}{n c:Nat}(I:Inv X pins σ H s)(h:H p=some (.lst xs))
 (i:s.heap.get? p=some { cls:=.type "list",data:=.seq ab.toArray n }) (d:f { cls:=.type "list",data:=.seq ab.toArray n }= { cls:=.type "list",data:=.seq its'.toArray c }) (r:Vals ys its') (hz:ys.length<=sizeLine) (t:Nat):
 Inv X pins σ (upd H p (.lst ys)) { s with heap:=s.heap.update p f,toks:=t }:=by
 have e:(s.heap.update p f).get? p=some { cls:=.type "list",data:=.seq its'.toArray c }:=by
  rw[Heap.get?_update_self f i (by rw[d]<;>rfl),d]
 refine I.write (x:=p) (e:=p) (by rw[h];trivial) (.inl rfl) (λb u g q=>(Heap.get?_update_other _ _ (bZ g)).trans q) ⟨_,e⟩ ?_
 exact⟨hz,its',c,r,e⟩
noncomputable def p7:V->V->V->Hp->(Hp->Prop)->Prop:=λo i v H Q=>∃p c k j,o= .ref p/\i= .int k/\H p=some (.lst c)/\fC c.length k=some j/\Q (upd H p (.lst (c.set j v)))
theorem set_list:zf X p7:=by
 intro c s D H o i v J iv u Q I ro ri rv h;obtain⟨p,C,k,j,rfl,rfl,y,z,q⟩:=h;cases ro;obtain⟨t,rfl⟩:=ri;obtain⟨ab,n,r,g,A⟩:=I.lst y;obtain⟨d,E,w,x⟩:=J8 z;have f:=r.length;have F:=rH;have l:Inv X c D (upd H p (.lst (C.set j v))) { s with heap:=s.heap.update p (Obj.mapSeq (·.setIfInBounds j u)) }:=
  I.pz y g (Sx ab n j u) (r.set rv j) (by rw[List.length_set];exact A) s.toks
 by_cases m:0<=k
 . have e:k.toNat=j:=by
    rw[seqIndex_of m x]at d;exact dH d
   exact PySem.W.ki_setAt g m ∅ (by rw[cZ,<-f];exact x) (by rw[e];exact⟨_,l,q⟩)
 . have e:(k+(ab.toArray.size:Int)).toNat=j:=by
    rw[seqIndex_neg ∅ w]at d
    rw[cZ,<-f];exact dH d
   exact PySem.W.ki_setBack g ∅ (by rw[cZ,<-f];exact w) ∅ (by rw[e];exact⟨_,l,q⟩)
theorem Ra(lo hi:Option Int)(n):(sliceBounds lo hi none n).1=((HT.aQ n 0 lo:Nat):Int)/\(sliceBounds lo hi none n).2.1=((HT.aQ n n hi:Nat):Int)/\(sliceBounds lo hi none n).2.2=1:=by
 refine⟨?_,?_,rfl⟩
 . cases lo with
   |none=>simp[sliceBounds,HT.aQ]
   |some i=>
    simp only[sliceBounds,HT.aQ,Option.getD_none,show(1:Int) > 0 by decide,if_true]
    by_cases h:i<0
    . simp only[h,if_true]<;>omega
    . simp only[h,if_false]<;>omega
 . cases hi with
   |none=>simp[sliceBounds,HT.aQ]
   |some i=>
    simp only[sliceBounds,HT.aQ,Option.getD_none,show(1:Int) > 0 by decide,if_true]
    by_cases h:i<0
    . simp only[h,if_true]<;>omega
    . simp only[h,if_false]<;>omega
theorem Q7(ab:ak)(lo hi:Option Int):slicePick ab.toArray lo hi none=((ab.drop (HT.aQ ab.length 0 lo)).take (HT.aQ ab.length ab.length hi-HT.aQ ab.length 0 lo)).toArray:=by
 obtain⟨c,d,e⟩:=Ra lo hi ab.toArray.size;unfold slicePick;rw[c,d,e];simp only[sliceRange_one,pick_run,cZ]<;>rfl
noncomputable def PL (K:ag):V->Option Int->Option Int->Hp->VK->Prop:=λx lo hi H Q=>∃a c,x= .ref a/\cj K H a c/\∀p,H p=none->Q (.ref p) (upd H p (.lst (nO c lo hi)))
theorem V4:wq X (PL X.K):=by
 intro f s n H x v l m lo hi sl Q I k hs i j h;obtain⟨a,c,rfl,hx,q⟩:=h;cases k;obtain⟨ab,r,e,g⟩:=I.list hx;have d:=r.length;refine⟨"list",_,slot_list_getitem.lookup,e.isList.typeIs,?_⟩;refine wpAny_getItem_list_slice e.isList hs i j .none (by simp) ?_ (by rw[cZ]<;>omega)
 rw[Q7,<-d];refine⟨.ref s.heap.objs.size,_,I.laid (t':=s.toks) (o:=.lst (nO c lo hi)) (λb ob q=>bw _ q) (aK _) ?_,rfl,q _ (I.av.fresh (aK _))⟩
 exact⟨bR (HH c lo hi) g,_,0,(r.drop (HT.aQ c.length 0 lo)).take (HT.aQ c.length c.length hi-HT.aQ c.length 0 lo),dE _ rfl⟩
theorem Ai:cQ X (.builtin "len") (λxs H Q=>∃p ys,xs= [.ref p]/\(cj X.K H p ys∨bI X.K H p ys)/\Q (.int ys.length) H):=by
 intro pins s σ H xs us Q I r h;obtain⟨p,ys,rfl,hq,q⟩:=h;obtain⟨u,rfl,rx⟩:=vals1 r;cases rx;have hn:=rH;rcases hq with hq|hq
 . obtain⟨ab,r',pl,hz⟩:=I.list hq
   have hlen:=r'.length;exact Calls.call_len_list pl.isList (by simp only[cZ]<;>omega) ⟨.int ys.length,H,I.tok _,⟨s.toks+1,by rw[cZ,hlen]⟩,q⟩
 . obtain⟨ab,r',pl,hz⟩:=I.tuple hq
   have hlen:=r'.length;exact len_tuple pl (by simp only[cZ]<;>omega) ⟨.int ys.length,H,I.tok _,⟨s.toks+1,by rw[cZ,hlen]⟩,q⟩
theorem Rv:cQ X (.builtin "len") (λxs H Q=>∃z,xs= [.str z]/\z.length<=sizeLine/\Q (.int z.length) H):=by
 intro pins s σ H xs us Q I r h;obtain⟨z,rfl,hz,q⟩:=h;obtain⟨u,rfl,t,rfl⟩:=vals1 r;have hn:=rH;exact len_str ∅ ⟨.int z.length,H,I.tok _,⟨_,rfl⟩,q⟩
theorem Ru:cQ X (.type "list") (λxs H Q=>∃p ys,xs= [.ref p]/\(cj X.K H p ys∨bI X.K H p ys)/\∀l,H l=none->Q (.ref l) (upd H l (.lst ys))):=by
 intro pins s σ H xs us Q I r h;obtain⟨p,ys,rfl,hq,q⟩:=h;obtain⟨u,rfl,rx⟩:=vals1 r;cases rx;have fin:∀(ab:ak),Vals ys ab->ys.length<=sizeLine->∀(h':Heap) (c':Nat),(∀b o',s.heap.get? b=some o'->h'.get? b=some o')->
  h'.get? s.heap.objs.size=some { cls:=.type "list",dict:=none,data:=.seq ab.toArray c',slots:=#[] }->EP X pins σ Q (.ref s.heap.objs.size) { s with heap:=h' }:=λab r' hz h' c' kp e=>
  ⟨.ref s.heap.objs.size,_,I.laid (t':=s.toks) kp (aK _) (show aC X.prog X.w _ h' _ (.lst ys)from⟨hz,ab,c',r',e⟩),rfl,q _ (I.av.fresh (aK _))⟩
 rcases hq with hq|hq
 . obtain⟨ab,r',pl,hz⟩:=I.list hq
   have hlen:=r'.length;obtain⟨o,ho,hc,n,hd⟩:=pl.isList;exact call_list_seq p (.inl rfl) ho hc hd (λh' c' kp e=>fin ab r' hz h' c' kp e) (by simp only[cZ]<;>omega)
 . obtain⟨ab,r',pl,hz⟩:=I.tuple hq
   have hlen:=r'.length;obtain⟨o,ho,hc,n,hd⟩:=pl;exact call_list_seq p (.inr rfl) ho hc hd (λh' c' kp e=>fin ab r' hz h' c' kp e) (by simp only[cZ]<;>omega)
theorem Ah:cQ X (.type "tuple") (λxs H Q=>∃p ys,xs= [.ref p]/\((cj X.K H p ys/\∀l,H l=none->Q (.ref l) (upd H l (.tup ys)))∨(bI X.K H p ys/\Q (.ref p) H))):=by
 intro pins s σ H xs us Q I r h;obtain⟨p,ys,rfl,h⟩:=h;obtain⟨u,rfl,rx⟩:=vals1 r;cases rx;rcases h with⟨hq,q⟩|⟨hq,q⟩
 . obtain⟨ab,r',pl,hz⟩:=I.list hq
   have hlen:=r'.length;refine call_tuple_list pl.isList (λh' kp=>?_) (by simp only[cZ]<;>omega)
   have I1:Inv X pins σ H { s with heap:=h' }:=I.kept (t':=s.toks) kp
   have I2:Inv X pins σ (upd H h'.objs.size (.tup ys)) { s with heap:=h'.push { cls:=.type "tuple",data:=.seq ab.toArray } }:=
    I1.laid (t':=s.toks) (λb o e=>bw _ e) (aK _) (show aC X.prog X.w _ _ _ (.tup ys)from⟨hz,ab,r',IsTup.new _ _⟩)
   exact⟨.ref h'.objs.size,_,I2,rfl,q _ (I1.av.fresh (aK _))⟩
 . obtain⟨ab,r',pl,hz⟩:=I.tuple hq
   exact call_tuple_same pl ⟨.ref p,H,I,rfl,q⟩
def Nz(K:ag)(T:String)(x:V)(H:Hp):Prop:=match x with
 | .str _=>T= "str"
 | .int _=>T= "int"
 | .ref p=>(T= "list"/\∃d,cj K H p d)∨(T= "tuple"/\∃o,K.lookup p=some o/\o.cls= .type "tuple"/\o.dict=none)∨
  (T= "dict"/\((∃c,H p=some (.dK c))∨∃c,H p=some (.dT c)))∨(T= "set"/\∃S n,H p=some (.set S n))
 |_=>False
theorem WO{s:Shared}{T:String}{x:V}{v:Value}(I:Inv X pins σ H s)(r:RelV x v)(ty:Nz X.K T x H):
 s.TypeIs v T/\∀a,v= .ref a->∃ob,s.heap.get? a=some ob/\ob.dict=none:=by
 cases x with
 |str z=>
  obtain⟨t,rfl⟩:=r;cases(show T= "str" from ty)
  exact⟨typeIs_str s z t,λ_ e=>nomatch e⟩
 |int i=>
  obtain⟨t,rfl⟩:=r;cases(show T= "int" from ty)
  exact⟨typeIs_int s i t,λ_ e=>nomatch e⟩
 |ref p=>
  cases r;rcases ty with⟨rfl,m,l⟩|⟨rfl,o,d,k,g⟩|⟨rfl,d⟩|⟨rfl,S,n,d⟩
  . obtain⟨ab,_,j,_⟩:=I.list l
    refine⟨j.isList.typeIs,λa e=>?_⟩
    cases e;obtain⟨o,n,e,c,g,_⟩:=j;exact⟨o,e,g⟩
  . refine⟨⟨o,I.dj p o d,k⟩,λa e=>?_⟩
    cases e;exact⟨o,I.dj _ o d,g⟩
  . have z:∃o,s.heap.get? p=some o/\o.ExactDict:=by
     rcases d with⟨h,d⟩|⟨h,d⟩
     . obtain⟨_,_,_,_,o,_,_,e,ex,_⟩:=I.av p _ d
       exact⟨o,e,ex⟩
     . obtain⟨_,_,_,_,o,_,_,e,ex,_⟩:=I.av p _ d
       exact⟨o,e,ex⟩
    obtain⟨o,e,ex⟩:=z;refine⟨⟨o,e,ex.1⟩,λa f=>?_⟩
    cases f;exact⟨o,e,ex.2.1⟩
  . obtain⟨o,_,_,_,e,ex,_⟩:=I.av p _ d
    refine⟨⟨o,e,ex.1⟩,λa f=>?_⟩
    cases f;exact⟨o,e,ex.2.1⟩
 |_=>exact False.elim ty
noncomputable def tBM (K:ag)(T:String)(r:V->LV->Hp->VK->Prop)(to:TE)(t:TA):TE:=λσ H Q=>to σ H λx H1=>Nz K T x H1/\t σ H1 λxs H2=>r x xs H2 Q
variable {o e:Expr}{es:aS}{to:TE}{t:TA}{name:Str}{apos cpos:Pos}{T id:String}{r:V->LV->Hp->VK->Prop}
theorem BB(C:PlainAttrs T)(j:Slot T name id)(k:typeOf (.builtin id)=pure (.type "method_descriptor"))(z:NI X id r)(A:PE X o to)(y:PA X (e::es) t)
 (f:attributeBase o name X.env (eval o X.env)=eval o X.env:=by rfl)
 (i:((backTo cpos (starEach (e::es) X.env)).all (λx=>!x.1)&&(backToKw cpos (keywordEach [] X.env)).all (λx=>x.1.isSome)
  &&decide ((e::es).length+([]:List Keyword).length+(if([]:List Keyword).isEmpty then 0 else 1)<30))=true:=by rfl)
 (g:(apos.endLine==cpos.line)=true:=by rfl) (hs:starEach (e::es) X.env=(false,eval e X.env)::starEach es X.env:=by rfl) (d:(backTo cpos (starEach es X.env)).any (·.1)=false:=by rfl):
 PE X (.Call (.Attribute o name apos) (e::es) [] cpos) (tBM X.K T r to t):=by
 intro c s l H Q I h;refine wpAny_Call_method_late f i g rfl (ay (A c s l H _ I h) λv E J=>?_);obtain⟨x,H1,m,r1,ty,D⟩:=J
 obtain⟨u,w⟩:=WO m r1 ty;refine⟨T,id,C,j,k,u,w,?_⟩;have n:=y cpos c E l H1 _ m D;rw[hs]at n ⊢;refine Calls.callWith_builtin (by show(false||(backTo cpos (starEach es X.env)).any (·.1))=false;rw[d]<;>rfl) (Calls.evalArgs_plain ?_)
 exact ay n λus F ⟨vs,H2,I2,r2,q2⟩=>z c F l H2 x vs v us Q I2 r1 r2 q2
end
def zF(X:Cx)(id:String)(r:V->LV->Hp->VK->Prop):Prop:=
 ∀a s c H x b v us Q,Inv X a c H s->RelV x v->Vals b us->r x b H Q->
  wpAny (model X.prog X.w) X.A (call (.builtin id) (v::us)) (EP X a c Q) X.xe s
theorem Vals.one:∀{x:V} {us:ak},Vals [x] us->∃u,us= [u]/\RelV x u
 |_,_,.cons r .nil=>⟨_,rfl,r⟩
theorem Vals.two:∀{x y:V} {us:ak},Vals [x,y] us->∃u v,us= [u,v]/\RelV x u/\RelV y v
 |_,_,_,.cons r (.cons q .nil)=>⟨_,_,rfl,r,q⟩
theorem Vals.eraseIdx:∀{xs:LV} {us:ak} (i:Nat),Vals xs us->Vals (xs.eraseIdx i) (us.eraseIdx i)
 |_,_,_,.nil=>.nil
 |_,_,0,.cons _ t=>t
 |_,_,i+1,.cons r t=>.cons r (Vals.eraseIdx i t)
theorem Vals.rep{us:ak}(h:Vals xs us):∀k:Nat,Vals (List.replicate k xs).flatten (List.replicate k us).flatten
 |0=>.nil
 |k+1=>by
  rw[qH,qH,sD,sD];exact Vals.append h (Vals.rep h k)
theorem IW:∀(l:List α) (i:Nat),(l.eraseIdx i).length<=l.length
 | [],_=>aK _
 |_::_,0=>n8 _
 |_::r,i+1=>Nat.succ_le_succ (IW r i)
theorem foldl_rep(ab:ak):∀k a,
 List.foldl (λx1 x2=>x1++x2) a.toArray (List.replicate k ab.toArray)=(a++(List.replicate k ab).flatten).toArray
 |0,a=>by simp
 |k+1,a=>by
  have e:a.toArray++ab.toArray=(a++ab).toArray:=by simp
  have b:(a++ab)++(List.replicate k ab).flatten=a++(List.replicate (k+1) ab).flatten:=by
   rw[qH,sD,List.append_assoc]
  rw[<-b,<-foldl_rep ab k (a++ab),<-e,qH,List.foldl_cons]
section
variable {X:Cx}{pins:aF}{σ:St}{H:Hp}{s:Shared}{l b:Addr}{xs ys zs:LV}
theorem Inv.pv{ab its':ak}{n:Nat}(I:Inv X pins σ H s)(a:H l=some (.lst xs))
 (e:s.heap.get? l=some { cls:=.type "list",data:=.seq ab.toArray n }) (d:f ab.toArray=its'.toArray) (h:Vals ys its') (hz:ys.length<=sizeLine):
 Inv X pins σ (upd H l (.lst ys)) { s with heap:=s.heap.update l (Obj.mapSeq f),toks:=t' }:=by
 have q:=PySem.IsL.update e f;rw[d]at q;refine I.write (x:=l) (e:=l) (by rw[a];exact trivial) (.inl rfl) (λb' u c g=>(Heap.get?_update_other s.heap (Obj.mapSeq f) (bZ c)).trans g) ⟨_,q⟩ ?_
 exact⟨hz,its',_,h,q⟩
theorem Inv.Ab{ab:ak}(I:Inv X pins σ H s)(a:Vals ys ab)(hz:ys.length<=sizeLine):
 Inv X pins σ (upd H s.heap.objs.size (.lst ys)) { s with heap:=s.heap.push { cls:=.type "list",data:=.seq ab.toArray },toks:=t' }:=
 I.laid (λ_ _ q=>bw _ q) (aK _) ⟨hz,ab,0,a,dE _ rfl⟩
theorem Inv.fresh(I:Inv X pins σ H s):H s.heap.objs.size=none:=I.av.fresh (aK _)
theorem Inv.lX(I:Inv X pins σ H s)(a:H l=some (.lst xs)):xs.length<=sizeLine/\∃(ab:ak) (n:Nat),Vals xs ab/\xs.length=ab.length/\s.heap.get? l=some { cls:=.type "list",data:=.seq ab.toArray n }:=by
 obtain⟨z,ab,n,r,e⟩:=I.av l _ a;exact⟨z,ab,n,r,r.length,e⟩
theorem U5{n:Nat}(h:n<=sizeLine):Builtin.List.listTooLong n=false:=by
 unfold Builtin.List.listTooLong;exact gL ∅
end
section
variable {X:Cx}
noncomputable def VL:V->LV->Hp->VK->Prop:=λx vs H Q=>∃l a y,x= .ref l/\vs= [y]/\H l=some (.lst a)/\a.length<sizeLine/\Q .au (upd H l (.lst (a++ [y])))
theorem SY:zF X "list.append" VL:=by
 intro b s i H x vs v us Q I c rv h;obtain⟨l,g,y,rfl,rfl,a,f,q⟩:=h;cases c;obtain⟨u,rfl,ru⟩:=rv.one;obtain⟨z,ab,n,r,d,e⟩:=I.lX a;refine call_meets F.slot_list_append ⟨_,e,rfl⟩ F.entry_list_append (F.args_list_append_2 _ _) (PySem.list_append l ab.toArray n u (by rw[cZ];omega)) ⟨e,?_⟩
 refine⟨.au,_,I.pv (its':=ab++ [u]) a e (by simp) (r.append (.cons ru .nil)) ?_,rfl,q⟩
 rw[eQ,List.length_singleton];omega
noncomputable def Xc:V->LV->Hp->VK->Prop:=λx vs H Q=>∃l a i k y,x= .ref l/\vs= [.int i]/\H l=some (.lst a)/\-(2 ^ 63)<=i/\i<2 ^ 63/\seqIndex? i a.length=some k/\a[k]? =some y/\Q y (upd H l (.lst (a.eraseIdx k)))
theorem U8:zF X "list.pop" Xc:=by
 intro c s D H x vs v us Q I A rv h;obtain⟨l,C,i,k,y,rfl,rfl,b,d,f,g,o,q⟩:=h;cases A;obtain⟨u,rfl,ru⟩:=rv.one;obtain⟨t,rfl⟩:=ru;obtain⟨z,ab,n,r,j,e⟩:=I.lX b;obtain⟨w,m,a⟩:=r.get o;refine call_meets F.slot_list_pop ⟨_,e,rfl⟩ F.entry_list_pop (F.args_list_pop_2 _ _)
  (MeetsSeq.list_pop_at l ab.toArray n i t k w (fitsIndex_both d f) (by rw[cZ,<-j];exact g) (by rw[<-Array.getElem?_toList];exact m) (by rw[cZ];omega)) ⟨e,?_⟩
 refine⟨y,_,I.pv (its':=ab.eraseIdx k) b e ?_ (r.eraseIdx k) ?_,a,q⟩
 . show ab.toArray.eraseIdxIfInBounds k=(ab.eraseIdx k).toArray
   rw[List.eraseIdxIfInBounds_toArray]
 . have:=IW C k
   omega
noncomputable def PM:R2:=λx y H Q=>∃l k a,x= .ref l/\y= .int k/\H l=some (.lst a)/\-(2 ^ 63)<=k/\k<2 ^ 63/\a.length*k.toNat<=sizeLine/\
 ∀p,H p=none->Q (.ref p) (upd H p (.lst (List.replicate k.toNat a).flatten))
theorem len_rep(xs:List α)(k):(List.replicate k xs).flatten.length=k*xs.length:=by
 induction k with
 |zero=>simp
 |succ k ih=>rw[qH,sD,eQ,ih,Nat.succ_mul,Nat.add_comm]
theorem Yi:dM X (binaryOp .Mult) PM:=by
 intro pins s σ H x y v u Q I rx ry h;obtain⟨l,k,xs,rfl,rfl,hH,h1,h2,hz,q⟩:=h;cases rx;obtain⟨t,rfl⟩:=ry;obtain⟨z,ab,n,r,hl,e⟩:=I.lX hH;have hlen:ab.toArray.size*k.toNat<=sizeLine:=by rw[cZ,<-hl];exact hz
 have hcap:¬ab.toArray.size*k.toNat > (2 ^ 63-1) / 8:=by
  have:(sizeLine:Nat)<=(2 ^ 63-1) / 8:=by decide
  omega
 have hfit:¬(!Builtin.List.listFitsIndex k)=true:=by
  rw[fitsIndex_both h1 h2];exact hZ
 have hlong:¬Builtin.List.listTooLong (ab.toArray.size*k.toNat)=true:=by
  rw[U5 hlen];exact hZ
 have hnew:List.foldl (λx1 x2=>x1++x2) #[] (List.replicate (if ab.toArray.isEmpty=true then 0 else k.toNat) ab.toArray)=(List.replicate k.toNat ab).flatten.toArray:=by
  have f0:∀m:Nat,List.foldl (λx1 x2=>x1++x2) #[] (List.replicate m ab.toArray)=(List.replicate m ab).flatten.toArray:=λm=>by
   have:=foldl_rep ab m [];rw[List.nil_append]at this;exact this
  rw[f0];cases ab with
  |nil=>simp
  |cons a r'=>rw[ae (by simp)]
 refine wpAny_binaryOp_repeat_ref (T:="list") (U:="int") ⋯ ⟨_,e,rfl⟩ (λs'=>typeIs_int s' k t) noFill_list_mul F.fills_int_mul F.slot_int_rmul repeat_list F.slot_int_index.lookup
  (call_meets F.slot_int_rmul (typeIs_int s k t) F.entry_int_rmul (F.args_int_rmul_2 _ _) (int___rmul___int_list k t l ab.toArray n)
   ⟨e,rfl,⟨_,e,rfl⟩,call_meets F.slot_list_mul ⟨_,e,rfl⟩ F.entry_list_mul (F.args_list_mul_2 _ _) (AutoListH.list___mul___list_int_3 l ab.toArray n k t hfit hcap hlong) ⟨e,?_⟩⟩)
 rw[hnew];exact⟨.ref _,_,I.Ab (t':=s.toks) (r.rep k.toNat) (by rw[len_rep,Nat.mul_comm];exact hz),rfl,q _ I.fresh⟩
end
section
variable {κ:Type}[DecidableEq κ]
def fb(kvs:List (κ×V))(k:κ):Option V:=(kvs.find? λkv=>decide (kv.1=k)).map (·.2)
noncomputable def putK (kvs:List (κ×V))(k:κ)(v:V):List (κ×V):=
 if(kvs.any λkv=>decide (kv.1=k))=true then kvs.map (λkv=>if kv.1=k then(kv.1,v)else kv)else kvs++ [(k,v)]
def jl(kvs:List (κ×V))(k:κ):List (κ×V):=kvs.filter λkv=>decide (kv.1≠k)
theorem uC{p:κ×V}(e:p.1=k):fb (p::r) k=some p.2:=by simp[fb,jy,e]
theorem pH{p:κ×V}(e:¬p.1=k):fb (p::r) k=fb r k:=by simp[fb,jy,e]
theorem xJ(k:κ):∀kvs:List (κ×V),(kvs.any λkv=>decide (kv.1=k))=(fb kvs k).isSome
 | []=>rfl
 |p::r=>by
  rw[jW]
  by_cases e:p.1=k
  . simp only[uC e,fg e,Bool.true_or,Option.isSome_some]
  . rw[pH e,gL e,Bool.false_or];exact xJ k r
theorem Aj(kvs:List (κ×V))(k:κ)(v):(putK kvs k v).length<=kvs.length+1:=by
 unfold putK;split
 . rw[bu];omega
 . rw[eQ,bG,vR];omega
theorem Uq{k:κ}(v:V)(h:fb kvs k=none):putK kvs k v=kvs++ [(k,v)]:=by
 unfold putK;rw[xJ,h];exact ae ⋯
theorem bN.bc(r:bN o u):o.isSome=u.isSome:=by
 cases o with
 |none=>cases u with
  |none=>rfl
  |some _=>exact(show False from r).elim
 |some _=>cases u with
  |none=>exact(show False from r).elim
  |some _=>rfl
theorem bN.getD(r:bN o u)(rd:RelV d d'):RelV (o.getD d) (u.getD d'):=by
 cases o with
 |none=>cases u with
  |none=>exact rd
  |some _=>exact(show False from r).elim
 |some _=>cases u with
  |none=>exact(show False from r).elim
  |some _=>exact r
theorem KV.val{vs:List (κ×Value)}(r:KV kvs vs)(k:κ):bN (fb kvs k) (valueAt vs k):=by
 unfold KV at r
 induction r with
 |nil=>exact True.intro
 | @cons p q ps qs h t ih=>
  obtain⟨c,d⟩:=h
  by_cases e:p.1=k
  . have a:q.1=k:=c.symm.trans e
    have b:valueAt (q::qs) k=some q.2:=by simp[valueAt,jy,a]
    rw[uC e,b];exact d
  . have a:¬q.1=k:=λz=>e (c.trans z)
    have b:valueAt (q::qs) k=valueAt qs k:=by simp[valueAt,jy,a]
    rw[pH e,b];exact ih
theorem KV.any{vs:List (κ×Value)}(r:KV kvs vs)(k:κ):(kvs.any λkv=>decide (kv.1=k))=vs.any λkv=>decide (kv.1=k):=by
 unfold KV at r
 induction r with
 |nil=>rfl
 |cons h t ih=>rw[jW,jW,ih,h.1]
theorem KV.qz{vs:List (κ×Value)}(r:KV kvs vs)(k:κ)(ry:RelV y u):
 KV (kvs.map λkv=>if kv.1=k then(kv.1,y)else kv) (vs.map λkv=>if kv.1=k then(kv.1,u)else kv):=by
 unfold KV at r ⊢
 induction r with
 |nil=>exact .nil
 | @cons p q ps qs h t ih=>
  rw[bQ,bQ];refine .cons ?_ ih;obtain⟨h1,h2⟩:=h
  by_cases e:p.1=k
  . rw[ai e,ai (h1.symm.trans e)];exact⟨h1,ry⟩
  . rw[ae e,ae (λz=>e (h1.trans z))];exact⟨h1,h2⟩
theorem KV.put{vs:List (κ×Value)}(r:KV kvs vs)(k:κ)(ry:RelV y u):KV (putK kvs k y) (stored vs k u):=by
 unfold putK stored;rw[r.any k]
 by_cases e:(vs.any λkv=>decide (kv.1=k))=true
 . rw[ai e,ai e];exact r.qz k ry
 . rw[ae e,ae e];exact Paired.snoc r ⟨rfl,ry⟩
theorem KV.drop{vs:List (κ×Value)}(r:KV kvs vs)(k:κ):KV (jl kvs k) (without vs k):=by
 unfold KV at r ⊢;unfold jl without
 induction r with
 |nil=>exact .nil
 | @cons p q ps qs h t ih=>
  obtain⟨c,f⟩:=h;rw[iK,iK]
  by_cases e:p.1=k
  . have a:¬decide (p.1≠k)=true:=by simp[e]
    have b:¬decide (q.1≠k)=true:=by simp[c.symm.trans e]
    rw[ae a,ae b];exact ih
  . have d:¬q.1=k:=λz=>e (c.trans z)
    have a:decide (p.1≠k)=true:=by simp[e]
    have b:decide (q.1≠k)=true:=by simp[d]
    rw[ai a,ai b];exact .cons ⟨c,f⟩ ih
theorem KV.length{vs:List (κ×Value)}(r:KV kvs vs):kvs.length=vs.length:=Paired.length r
theorem UO(kvs:List (κ×V))(k:κ):(jl kvs k).length<=kvs.length:=jz _ _
end
theorem i5{P:Program}(r:RelV (kV k) u):(cX P w).is k u=true:=by
 cases k with
 |inl i=>obtain⟨t,e⟩:=(show ∃t,u=Value.int i t from r);subst e;exact RK P w i t
 |inr x=>obtain⟨t,e⟩:=(show ∃t,u=Value.str x t from r);subst e;exact HK P w x t
theorem qyd{P:Program}(r:RelV (oV k) u):(optKind P w).is k u=true:=by
 cases k with
 |none=>cases(show u=Value.none from r);rfl
 |some j=>exact i5 (P:=P) (w:=w) r
theorem IE{P:Program}:∀{ks:List bC} {us:ak},Vals (ks.map oV) us->ItemsAre (optKind P w) ks us
 | [],_,r=>by rw[oh]at r;cases r;exact .nil
 |k::ks,_,r=>by
  rw[bQ]at r;cases r with
  |cons h t=>exact .cons (qyd h) (IE t)
abbrev KT(H:Hp):List (List bC×V)->List (List bC×Addr×Value)->Prop:=Paired λp q=>p.1=q.1/\H q.2.1=some (.tup (p.1.map oV))/\RelV p.2 q.2.2
theorem KT.val(r:KT H kvs xs)(k:List bC):bN (fb kvs k) ((atKey xs k).map (·.2)):=by
 induction r with
 |nil=>exact True.intro
 | @cons p q ps qs h t ih=>
  obtain⟨c,_,d⟩:=h
  by_cases e:p.1=k
  . have a:q.1=k:=c.symm.trans e
    have b:atKey (q::qs) k=some q.2:=by simp[atKey,jy,a]
    rw[uC e,b];exact d
  . have a:¬q.1=k:=λz=>e (c.trans z)
    have b:atKey (q::qs) k=atKey qs k:=by simp[atKey,jy,a]
    rw[pH e,b];exact ih
theorem KT.qz(r:KT H kvs xs)(k:List bC)(ry:RelV y u):
 KT H (kvs.map λkv=>if kv.1=k then(kv.1,y)else kv) (xs.map (putAt k u)):=by
 induction r with
 |nil=>exact .nil
 | @cons p q ps qs h t ih=>
  rw[bQ,bQ];refine .cons ?_ ih;obtain⟨h1,h2,h3⟩:=h;unfold putAt
  by_cases e:p.1=k
  . rw[ai e,ai (h1.symm.trans e)];exact⟨h1,h2,ry⟩
  . rw[ae e,ae (λz=>e (h1.trans z))];exact⟨h1,h2,h3⟩
theorem KT.put(r:KT H kvs xs)(k:List bC){b:Addr}(hb:H b=some (.tup (k.map oV)))(ry:RelV y u):
 KT H (putK kvs k y) (storedH xs k b u):=by
 have e:(kvs.any λkv=>decide (kv.1=k))=(atKey xs k).isSome:=by
  rw[xJ,(r.val k).bc,qI]
 unfold putK storedH;rw[e]
 by_cases q:(atKey xs k).isSome=true
 . rw[ai q,ai q];exact r.qz k ry
 . rw[ae q,ae q];exact Paired.snoc r ⟨rfl,hb,ry⟩
theorem KT.keeps(r:KT H kvs xs)(c:∀b a,H b=some (.tup a)->H' b=some (.tup a)):KT H' kvs xs:=
 Paired.pA r λ_ _ z=>⟨z.1,c _ _ z.2.1,z.2.2⟩
section
variable {P:Program}{w:World}{H:Hp}{h:Heap}{a:Addr}
theorem LN(ok:cM P w H h)(e:Rd H a u):aC P w H h a u:=e.ok ok
theorem nK(b:cM P w H h)(e:Rd H a (.dK kvs)):kvs.length<=sizeLine/\(a==sysModules)=false/\∃vs,KV kvs vs/\h.DictOf (cX P w) a vs:=
 show aC P w H h a (.dK kvs)from LN b e
theorem BJ(b:cM P w H h)(e:H a=some (.dK kvs)):kvs.length<=sizeLine/\(a==sysModules)=false/\∃vs,KV kvs vs/\h.DictOf (cX P w) a vs:=nK b (.inl e)
theorem pT{ks:List bC}(f:cM P w H h)(e:H a=some (.tup (ks.map oV))):(tupleKind (optKind P w)).is h ks a:=by
 obtain⟨_,ab,r,o,b,c,n,d⟩:=(show aC P w H h a (.tup (ks.map oV))from f a _ e)
 exact⟨o,ab.toArray,n,b,c,d,by simpa using IE r⟩
theorem pX(c:cM P w H h)(e:Rd H a (.dT kvs)):kvs.length<=sizeLine/\(a==sysModules)=false/\
 ∃xs,KT H kvs xs/\h.DictOfH (tupleKind (optKind P w)) a xs:=by
 obtain⟨z,y,xs,r,o,f,d,g,i,j,k,n⟩:=(show aC P w H h a (.dT kvs)from LN c e)
 refine⟨z,y,xs,r,o,f,d,g,i,j,k,λx hx=>?_,n⟩
 have b:∀{l:List (List bC×V)} {m:List (List bC×Addr×Value)},KT H l m->∀x∈m,(tupleKind (optKind P w)).is h x.1 x.2.1:=by
  intro l m q
  induction q with
  |nil=>intro x hx;exact nomatch hx
  | @cons p q ps qs hq t ih=>
   intro x hx;rcases dh.mp hx with e|hx
   . subst e
     exact pT c (by rw[<-hq.1];exact hq.2.1)
   . exact ih x hx
 exact b r x hx
theorem BI(b:cM P w H h)(e:H a=some (.dT kvs)):kvs.length<=sizeLine/\(a==sysModules)=false/\
 ∃xs,KT H kvs xs/\h.DictOfH (tupleKind (optKind P w)) a xs:=pX b (.inl e)
end
def bU(H:Hp)(a:Addr)(y:V)(r:Option V):Prop:=
 (∃c k,Rd H a (.dK c)/\y=kV k/\r=fb c k)∨∃c k b,Rd H a (.dT c)/\y= .ref b/\H b=some (.tup (k.map oV))/\r=fb c k
def fA(H:Hp)(a:Addr)(y v:V)(d:Hp):Prop:=
 (∃c k,H a=some (.dK c)/\y=kV k/\c.length<sizeLine/\d=upd H a (.dK (putK c k v)))∨
 ∃c k b,H a=some (.dT c)/\y= .ref b/\H b=some (.tup (k.map oV))/\c.length<sizeLine/\d=upd H a (.dT (putK c k v))
theorem bU.k{H:Hp}{a:Addr}{kvs:List (Key×V)}{k:Key}(e:H a=some (.dK kvs)):bU H a (kV k) (fb kvs k):=.inl ⟨kvs,k,.inl e,rfl,rfl⟩
theorem bU.t{a b:Addr}{k:List bC}(e:H a=some (.dT kvs))(c:H b=some (.tup (k.map oV))):bU H a (.ref b) (fb kvs k):=.inr ⟨kvs,k,b,.inl e,rfl,c,rfl⟩
theorem fA.k{H:Hp}{a:Addr}{kvs:List (Key×V)}{k:Key}{v:V}(e:H a=some (.dK kvs))(b:kvs.length<sizeLine):fA H a (kV k) v (upd H a (.dK (putK kvs k v))):=.inl ⟨kvs,k,e,rfl,b,rfl⟩
theorem fA.t{a b:Addr}{k:List bC}{v:V}(e:H a=some (.dT kvs))(c:H b=some (.tup (k.map oV)))(d:kvs.length<sizeLine):
 fA H a (.ref b) v (upd H a (.dT (putK kvs k v))):=.inr ⟨kvs,k,b,e,rfl,c,d,rfl⟩
section
variable {X:Cx}{pins:aF}{σ:St}{H:Hp}{s:Shared}{a:Addr}{y v:V}{u r:Value}{o:Option V}{A:Around}{E:aP}
theorem Inv.big(I:Inv X pins σ H s):sysModules<s.heap.objs.size:=by
 have h:mainGlobals<s.heap.objs.size:=(I.mod.glob.keeps I.bk).lt;exact fM ⋯ h
theorem TC(F:A.units+1<cLine)(I:Inv X pins σ H s)(g:bU H a y (some v))(t:RelV y u)(h:∀f w,Inv X pins σ H w->RelV v f->Q f w):
 wpAny (model X.prog X.w) A (getItem (.ref a) u) Q E s:=by
 rcases g with⟨n,k,e,i,l⟩|⟨n,k,b,e,i,x,l⟩
 . subst i
   obtain⟨z,C,vs,c,dd⟩:=nK I.av e;obtain⟨f,m,d⟩:=bN.some_of (v:=v) (o:=valueAt vs k) (by rw[l];exact c.val k)
   exact wpAny_getItem_of (i5 t) dd.mapOf m (h f _ (I.tok _) d)
 . subst i
   cases(show u=Value.ref b from t)
   obtain⟨z,C,J,c,dd⟩:=pX I.av e;obtain⟨f,m,d⟩:=bN.some_of (v:=v) (o:=(atKey J k).map (·.2)) (by rw[l];exact c.val k)
   obtain⟨p,D,j⟩:=Option.map_eq_some_iff.mp m;refine wpAny_getItem_heap (tupleKind_room_in1 F) (pT I.av x) dd D ?_;rw[j];exact h f _ (I.tok _) d
theorem PH(t:A.units+1<cLine)(I:Inv X pins σ H s)(g:bU H a y o)(j:RelV y u)(h:∀m,Inv X pins σ H m->Q (.bool o.isSome) m):
 wpAny (model X.prog X.w) A (compareOp .In u (.ref a)) Q E s:=by
 rcases g with⟨i,k,e,d,l⟩|⟨i,k,b,e,d,n,l⟩
 . subst d
   obtain⟨z,f,vs,c,dd⟩:=nK I.av e;refine wpAny_in_of (i5 j) f dd.mapOf ?_;rw[<-(c.val k).bc,<-l];exact h _ (I.tok _)
 . subst d
   cases(show u=Value.ref b from j)
   obtain⟨z,f,w,c,dd⟩:=pX I.av e;refine wpAny_in_heap (tupleKind_room_in1 t) (pT I.av n) f dd ?_;have q:=(c.val k).bc;rw[qI]at q;rw[<-q,<-l];exact h _ (I.tok _)
theorem Wg(t:A.units+1<cLine)(I:Inv X pins σ H s)(g:bU H a y o)(j:RelV y u)(h:∀m,Inv X pins σ H m->Q (.bool (!o.isSome)) m):
 wpAny (model X.prog X.w) A (compareOp .NotIn u (.ref a)) Q E s:=by
 rcases g with⟨i,k,e,d,l⟩|⟨i,k,b,e,d,n,l⟩
 . subst d
   obtain⟨z,f,vs,c,dd⟩:=nK I.av e;refine wpAny_notIn_of (i5 j) f dd.mapOf ?_;rw[<-(c.val k).bc,<-l];exact h _ (I.tok _)
 . subst d
   cases(show u=Value.ref b from j)
   obtain⟨z,f,w,c,dd⟩:=pX I.av e;refine wpAny_notIn_heap (tupleKind_room_in1 t) (pT I.av n) f dd ?_;have q:=(c.val k).bc;rw[qI]at q;rw[<-q,<-l];exact h _ (I.tok _)
theorem uN{ob:HO}(I:Inv X pins σ H s)(g:sI (H a))(hs:Heap.SameBut a s.heap h')(f:∃q,h'.get? a=some q)(c:aC X.prog X.w (upd H a ob) h' a ob):
 Inv X pins σ (upd H a ob) { s with heap:=h',toks:=t' }:=
 I.write (x:=a) (e:=a) g (.inl rfl) (λb q d z=>(hs.2 b d).trans z) f c
theorem Bt{P:Program}{h':Heap}{kvs:List (Key×V)}{vs:List (Key×Value)}(z:kvs.length<=sizeLine)(c:(a==sysModules)=false)(b:KV kvs vs)(dd:h'.DictOf (cX P w) a vs):
 aC P w H' h' a (.dK kvs):=⟨z,c,vs,b,dd⟩
theorem TB{Q:Unit->Shared->Prop}(hu:A.units+1<cLine)(I:Inv X pins σ H s)(g:fA H a y v H')(ry:RelV y u)(rv:RelV v r)(h:∀s',Inv X pins σ H' s'->Q () s'):
 wpAny (model X.prog X.w) A (setItem (.ref a) u r) Q E s:=by
 rcases g with⟨kvs,k,e,ey,l,eH⟩|⟨kvs,k,b,e,ey,eb,l,eH⟩
 . subst ey eH
   obtain⟨z,hd,vs,rel,dd⟩:=BJ I.av e;have hz:vs.length<=sizeLine:=by rw[<-rel.length];exact z
   have hl:(putK kvs k v).length<=sizeLine:=by have:=Aj kvs k v;omega
   refine wpAny_setItem_pairs (hsz:=hz) (i5 ry) dd λh' dd' hs=>h _ ?_
   have he:∃q,h'.get? a=some q:=let⟨q,_,_,hq,_⟩:=dd';⟨q,hq⟩;exact uN I (by rw[e];exact True.intro) hs he (Bt hl hd (rel.put k rv) dd')
 . subst ey eH
   cases(show u=Value.ref b from ry)
   obtain⟨z,hd,xs,rel,dd⟩:=BI I.av e;have hz:xs.length<=sizeLine:=by rw[<-Paired.length rel];exact z
   have hl:(putK kvs k v).length<=sizeLine:=by have:=Aj kvs k v;omega
   refine wpAny_setItem_heap (hsz:=hz) (tupleKind_room_in1 hu) (pT I.av eb) dd λh' dd' hs=>h _ ?_
   obtain⟨q,es,ep,hq,h2,h3,h4,_,h5⟩:=dd';refine uN I (by rw[e];exact True.intro) hs ⟨q,hq⟩ ⟨hl,hd,_,(rel.put k eb rv).keeps λc ys ec=>?_,q,es,ep,hq,h2,h3,h4,h5⟩
   rw[aD (jm ec e (λz=>nomatch z))]
   exact ec
end
section
variable {X:Cx}{pins:aF}{σ:St}{H:Hp}{s:Shared}{a:Addr}{kvs:List (Key×V)}{k:Key}{u:Value}{A:Around}{E:aP}
theorem TH{Q:Unit->Shared->Prop}(I:Inv X pins σ H s)(e:H a=some (.dK kvs))(ry:RelV (kV k) u)(l:(fb kvs k).isSome=true)(h:∀s',Inv X pins σ (upd H a (.dK (jl kvs k))) s'->Q () s'):
 wpAny (model X.prog X.w) A (delItem (.ref a) u) Q E s:=by
 obtain⟨z,hd,vs,rel,dd⟩:=BJ I.av e;refine wpAny_delItem_slot dd.typeIs ⋯ PySem.F.slot_dict_delitem
  (call_meetsIn PySem.F.slot_dict_delitem dd.typeIs PySem.F.entry_dict_delitem (PySem.F.args_dict_delitem_2 _ _) (meets_dict_delitem_pairs (cX X.prog X.w) a (i5 ry)) ⟨vs,dd,by rw[<-rel.length];exact z,by rw[<-(rel.val k).bc];exact l,λh' dd' hs=>h _ ?_⟩)
 have he:∃q,h'.get? a=some q:=let⟨q,_,_,hq,_⟩:=dd';⟨q,hq⟩;exact uN I (by rw[e];exact True.intro) hs he (Bt (bR (UO kvs k) z) hd (rel.drop k) dd')
theorem qyH(I:Inv X pins σ H s)(e:Rd H a (.dK kvs))(h:∀t c,Inv X pins σ H c->Q (.int kvs.length t) c):wpAny (model X.prog X.w) A (call (.builtin "len") [.ref a]) Q E s:=by
 obtain⟨z,d,vs,b,dd⟩:=nK I.av e;refine call_len_dict d dd (by rw[<-b.length];rw[sizeLine_eq]at z;omega) ?_
 rw[<-b.length];exact h _ _ (I.tok _)
end
def sg(i:Expr):Prop:=∀a iv,subscripted i false a iv=operate [a,iv] (getItem a iv)
theorem JE{s:Shared}{env:Env}{T id:String}
 (j:typeLookup (.type T) "__getitem__" =pure (some (.builtin id))) (hs:sg slice)
 (h:wpAny (model prog w) A (eval value env) (λo c=>wpAny (model prog w) A (eval slice env) (λi a=>a.TypeIs o T/\wpAny (model prog w) A (getItem o i) Q E a) E c) E s):
 wpAny (model prog w) A (eval (.Subscript value slice pos) env) Q E s:=by
 refine Subscript_ (gx h (λo c e=>gx e (λi a b=>?_) λ_ _ x=>x) λ_ _ x=>x)
 obtain⟨g,b⟩:=b;unfold subscriptTail;refine aj ?_;rw[getitemInPython_of_ne g.not_modules];refine aj (wpAny_specialOf g j ?_);have fin:wpAny (model prog w) A (subscripted slice false o i) (λr d=>wpAny (model prog w) A (letTemporaryGo value o r >>= λ_=>pure r) Q E d) E a:=by
  rw[hs o i];exact wpAny_operating (gx b (λr d f=>aj (wpAny_letTemporaryGo (aH f))) λ_ _ x=>x)
 first
  |exact aH (aj fin)
  |exact aj (aH (aj fin))
  |exact aj fin
theorem RJ{s:Shared}{a:Addr}(I:Inv X pins σ H s)(g:bU H a y o):s.TypeIs (.ref a) "dict":=by
 rcases g with⟨c,k,e,_,_⟩|⟨c,k,b,e,_,_,_⟩
 . obtain⟨_,_,vs,_,dd⟩:=nK I.av e
   exact dd.typeIs
 . obtain⟨_,_,d,_,dd⟩:=pX I.av e
   exact dd.typeIs
def Zm(td ty:TE):TE:=λσ H Q=>td σ H λx H1=>ty σ H1 λy H2=>∃a v,x= .ref a/\bU H2 a y (some v)/\Q v H2
def Pn(ty td:TE):TE:=λσ H Q=>ty σ H λy H1=>td σ H1 λx H2=>∃a o,x= .ref a/\bU H2 a y o/\Q (.bl o.isSome) H2
def V2(ty td:TE):TE:=λσ H Q=>ty σ H λy H1=>td σ H1 λx H2=>∃a o,x= .ref a/\bU H2 a y o/\Q (.bl (!o.isSome)) H2
def ZU(f ty g:TE):TS:=λD b H=>g b H λv H1=>f b H1 λx d=>ty b d λy e=>∃a c,x= .ref a/\fA e a y v c/\D.nx b c
section
variable {X:Cx}{o i e value:Expr}{pos pos' tpos:Pos}{td ty tv:TE}
theorem JL(m:X.A.units+1<cLine)(l:PE X o td)(hi:PE X i ty)(hs:sg i):PE X (.Subscript o i pos) (Zm td ty):=by
 intro b s f H Q I h;refine JE PySem.F.slot_dict_getitem.lookup hs (ay (l b s f H _ I h) λu t ⟨x,H1,I1,rx,q1⟩=>ay (hi b t f H1 _ I1 q1) λiv z w=>?_);obtain⟨y,j,d,r,a,v,ex,g,n⟩:=w
 subst ex;obtain rfl:u=Value.ref a:=rx;exact⟨RJ d g,TC m d g r λw' A k c=>⟨v,j,k,c,n⟩⟩
theorem Ld(l:X.A.units+1<cLine)(hi:PE X i ty)(k:PE X o td):PC X .In i o (Pn ty td):=by
 intro b s c H Q I h;refine ay (hi b s c H _ I h) λiv t ⟨y,H1,I1,ry,q1⟩=>ay (k b t c H1 _ I1 q1) λu w v=>?_;obtain⟨x,d,f,r,a,m,ex,g,n⟩:=v
 subst ex;obtain rfl:u=Value.ref a:=r;exact PH l f g ry λs3 j=>⟨.bl m.isSome,d,j,rfl,n⟩
theorem IU(l:X.A.units+1<cLine)(hi:PE X i ty)(k:PE X o td):PC X .NotIn i o (V2 ty td):=by
 intro b s c H Q I h;refine ay (hi b s c H _ I h) λiv t ⟨y,H1,I1,ry,q1⟩=>ay (k b t c H1 _ I1 q1) λu w v=>?_;obtain⟨x,d,f,r,a,m,ex,g,n⟩:=v
 subst ex;obtain rfl:u=Value.ref a:=r;exact Wg l f g ry λs3 j=>⟨.bl (!m.isSome),d,j,rfl,n⟩
theorem VR(l:X.A.units+1<cLine)(k:PE X o td)(hi:PE X i ty)(m:PE X value tv)(hs:swapsWith value (some (.Subscript o i pos')) pos.line X.env=pure false):
 PS X (.Assign [.Subscript o i pos'] value pos) (ZU td ty tv):=by
 intro b s c H D I h;refine wpAny_Assign_Subscript (ay (m b s c H _ I h) λr t ⟨v,H1,I1,rv,q1⟩=>ay (k b t c H1 _ I1 q1) λu w ⟨x,H2,I2,rx,q2⟩=>ay (hi b w c H2 _ I2 q2) λiv C z=>?_) hs;obtain⟨y,A,f,r,a,d,ex,g,n⟩:=z
 subst ex;obtain rfl:u=Value.ref a:=rx;exact TB l f g r rv λs4 j=>⟨c,d,j,n⟩
end
theorem Jf{P:Program}(h:Heap)(a:sysModules<h.objs.size):aC P w H (h.push { cls:=.type "dict",data:=.dict #[] }) h.objs.size (.dK []):=
 ⟨jY _,nZ.mpr (bZ (cJ a)),[],.nil,Heap.DictOf.new h⟩
theorem UM{P:Program}(h:Heap)(a:sysModules<h.objs.size):aC P w H (h.push { cls:=.type "dict",data:=.dict #[] }) h.objs.size (.dT []):=
 ⟨jY _,nZ.mpr (bZ (cJ a)),[],.nil,_,#[],0,dE _ rfl,⟨rfl,rfl,rfl⟩,rfl,rfl,mY⟩
def WH:TE:=λ_ H Q=>∀p,H p=none->Q (.ref p) (upd H p (.dK []))
def WG:TE:=λ_ H Q=>∀p,H p=none->Q (.ref p) (upd H p (.dT []))
section
variable {X:Cx}{pos:Pos}
theorem T3:PE X (.Dict [] [] pos) WH:=λpins s b H Q I h=>
 wpAny_Dict_empty ⟨.ref s.heap.objs.size,_,I.laid (a:=s.heap.objs.size) (o:=.dK []) (t':=s.toks) (λ_ _ q=>bw _ q) (aK _) (Jf s.heap I.big),rfl,h _ (I.av.fresh (aK _))⟩
theorem T2:PE X (.Dict [] [] pos) WG:=λpins s b H Q I h=>
 wpAny_Dict_empty ⟨.ref s.heap.objs.size,_,I.laid (a:=s.heap.objs.size) (o:=.dT []) (t':=s.toks) (λ_ _ q=>bw _ q) (aK _) (UM s.heap I.big),rfl,h _ (I.av.fresh (aK _))⟩
end
noncomputable def yl:List (TE×TE)->St->Hp->(List (V×V)->Hp->Prop)->Prop
 | [],_,H,Q=>Q [] H
 |(tk,tv)::r,σ,H,Q=>tk σ H λx H1=>tv σ H1 λy H2=>yl r σ H2 λps H3=>Q ((x,y)::ps) H3
abbrev VV:List (V×V)->List (Value×Value)->Prop:=Paired λp q=>RelV p.1 q.1/\RelV p.2 q.2
def oo(X:Cx)(pos:Pos)(c:List (Option Expr))(a:aS)(d:List (TE×TE)):Prop:=
 ∀(b:aF) (s:Shared) (σ:St) (H:Hp) (Q:List (V×V)->Hp->Prop),Inv X b σ H s->yl d σ H Q->
  wpAny (model X.prog X.w) X.A (evalPairs (pairTrees c a X.env pos)) (λvs g=>∃f e,Inv X b σ e g/\VV f vs/\Q f e) X.xe s
theorem VS:oo X pos [] [] []:=λpins s a H Q I h=>pairTrees_nil_walk ⟨[],H,I,.nil,h⟩
theorem TU{k v:Expr}{ks:List (Option Expr)}{vs:aS}(hk:PE X k tk)(hv:PE X v tv)(hr:oo X pos ks vs trs):
 oo X pos (some k::ks) (v::vs) ((tk,tv)::trs):=λpins s σ H Q I h=>
 pairTrees_cons_walk (ay (hk pins s σ H _ I h) λu s1 ⟨x,H1,I1,rx,q1⟩=>ay (hv pins s1 σ H1 _ I1 q1) λw2 s2 ⟨y,H2,I2,ry,q2⟩=>
  ay (hr pins s2 σ H2 _ I2 q2) λws s3 ⟨ps,H3,I3,rel,q3⟩=>⟨(x,y)::ps,H3,I3,.cons ⟨rx,ry⟩ rel,q3⟩)
def mB(kvs more:List (Key×V)):List (Key×V):=more.foldl (λacc kv=>putK acc kv.1 kv.2) kvs
theorem KV.merge:∀{b:List (Key×V)} {rs:List (Key×Value)} {a:List (Key×V)} {vs:List (Key×Value)},KV b rs->KV a vs->KV (mB a b) (merged vs rs):=by
 intro b rs a vs r;unfold KV at r
 induction r generalizing a vs with
 |nil=>intro q;exact q
 | @cons p q ps qs h t ih=>
  intro r0;have e:KV (putK a p.1 p.2) (stored vs q.1 q.2):=by
   have:=r0.put p.1 h.2;rw[<-h.1];exact this
  exact ih e
theorem Hz:∀(b a:List (Key×V)),(mB a b).length<=a.length+b.length
 | [],a=>by show a.length<=a.length+0;omega
 |p::r,a=>by
  have c:=Hz r (putK a p.1 p.2);have d:=Aj a p.1 p.2;show(mB (putK a p.1 p.2) r).length<=_;rw[bG];omega
theorem Ic{P:Program}:∀{kvs:List (Key×V)} {ws:List (Value×Value)},VV (kvs.map λkv=>(kV kv.1,kv.2)) ws->∃rs,Carries (cX P w) ws rs/\KV kvs rs
 | [],_,r=>by rw[oh]at r;cases r;exact⟨[],True.intro,.nil⟩
 |p::kvs,_,r=>by
  rw[bQ]at r;cases r with
  | @cons a b as bs h t=>
   obtain⟨rs,c,q⟩:=Ic (P:=P) (w:=w) t;obtain⟨b1,b2⟩:=b;exact⟨(p.1,b2)::rs,⟨i5 h.1,rfl,c⟩,.cons ⟨rfl,h.2⟩ q⟩
noncomputable def Zk (trs:List (TE×TE)):TE:=λσ H Q=>∀p,H p=none->yl trs σ (upd H p (.dK [])) λps H2=>H2 p=some (.dK [])/\∃kvs:List (Key×V),ps=kvs.map (λkv=>(kV kv.1,kv.2))/\kvs.length<=15/\Q (.ref p) (upd H2 p (.dK (mB [] kvs)))
theorem Vv(h:oo X pos keys values trs)(d:keys.all (·.isSome)=true)(u:keys.length=values.length)(h0:keys≠[])
 (i:keys.length<=15):PE X (.Dict keys values pos) (Zk trs):=by
 intro g s E H Q I q;have v:=I.av.fresh (aK s.heap.objs.size);have l:=I.laid (a:=s.heap.objs.size) (o:=.dK []) (h':=s.heap.push { cls:=.type "dict",data:=.dict #[] }) (t':=s.toks) (λ_ _ q=>bw _ q) (aK _) (Jf s.heap I.big)
 refine wpAny_Dict_walk (knd:=cX X.prog X.w) d u h0 i (ay (h g _ E _ _ l (q _ v)) λws L D=>?_);obtain⟨J,F,k,j,e,f,m,lk,y⟩:=D
 subst m;obtain⟨rs,c,A⟩:=Ic (P:=X.prog) (w:=X.w) j;obtain⟨z,r,C,r0,dd⟩:=BJ k.av e;cases r0;refine⟨rs,c,dd,λh' b hs=>⟨.ref s.heap.objs.size,_,?_,rfl,y⟩⟩
 have x:(mB [] f).length<=sizeLine:=by
  have n:=Hz f [];rw[vR]at n;rw[sizeLine_eq];omega
 have t:∃q,h'.get? s.heap.objs.size=some q:=let⟨q,_,_,hq,_⟩:=b;⟨q,hq⟩;exact uN k (by rw[e];exact True.intro) hs t (Bt x r (A.merge .nil) b)
structure M1(X:Cx)(o:Expr)(m:Str)(apos:Pos)(e:Expr)(cpos:Pos):Prop where
 base:attributeBase o m X.env (eval o X.env)=eval o X.env
 qR:((backTo cpos (starEach [e] X.env)).all (λx=>!x.1)&&(backToKw cpos (keywordEach [] X.env)).all (λx=>x.1.isSome)
  &&decide (([e]:aS).length+([]:List Keyword).length+(if([]:List Keyword).isEmpty then 0 else 1)<30))=true
 line:(apos.endLine==cpos.line)=true
 trees:backTo cpos (starEach [e] X.env)= [(false,eval e X.env)]
structure M2(X:Cx)(o:Expr)(m:Str)(apos:Pos)(e f:Expr)(cpos:Pos):Prop where
 base:attributeBase o m X.env (eval o X.env)=eval o X.env
 qR:((backTo cpos (starEach [e,f] X.env)).all (λx=>!x.1)&&(backToKw cpos (keywordEach [] X.env)).all (λx=>x.1.isSome)
  &&decide (([e,f]:aS).length+([]:List Keyword).length+(if([]:List Keyword).isEmpty then 0 else 1)<30))=true
 line:(apos.endLine==cpos.line)=true
 trees:backTo cpos (starEach [e,f] X.env)= [(false,eval e X.env),(false,eval f X.env)]
def zE(H:Hp)(a:Addr):Prop:=(∃b,Rd H a (.dK b))∨∃b,Rd H a (.dT b)
theorem XO{s:Shared}{a:Addr}(I:Inv X pins σ H s)(d:zE H a):
 s.TypeIs (.ref a) "dict"/\(∀b,Value.ref a= .ref b->∃ob,s.heap.get? b=some ob/\ob.dict=none)/\(a==sysModules)=false:=by
 rcases d with⟨h,e⟩|⟨h,e⟩
 . obtain⟨_,g,vs,_,dd⟩:=nK I.av e
   refine⟨dd.typeIs,λb q=>?_,g⟩
   cases q;obtain⟨ob,_,_,c,f,_⟩:=dd;exact⟨ob,c,f.2.1⟩
 . obtain⟨_,g,i,_,dd⟩:=pX I.av e
   refine⟨dd.typeIs,λb q=>?_,g⟩
   cases q;obtain⟨ob,_,_,c,f,_⟩:=dd;exact⟨ob,c,f.2.1⟩
section
variable {X:Cx}{pins:aF}{σ:St}{H:Hp}{s:Shared}{a:Addr}{y d:V}{u r:Value}{o:Option V}{A:Around}{E:aP}
theorem YJ(w:A.units+1<cLine)(I:Inv X pins σ H s)(g:bU H a y o)(m:RelV y u)(h:∀t n,Inv X pins σ H n->RelV (o.getD .au) t->Q t n):
 wpAny (model X.prog X.w) A (call (.builtin "dict.get") [.ref a,u]) Q E s:=by
 rcases g with⟨j,k,e,f,l⟩|⟨j,k,b,e,f,v,l⟩
 . subst f
   obtain⟨z,i,vs,c,dd⟩:=nK I.av e;refine call_meetsIn PySem.F.slot_dict_get dd.typeIs PySem.F.entry_dict_get (PySem.F.args_dict_get_2 _ _) (meets_dict_get (cX X.prog X.w) a (i5 m) i) ⟨_,dd.mapOf,h _ _ (I.tok _) ?_⟩;rw[l];exact(c.val k).getD rfl
 . subst f
   cases(show u=Value.ref b from m)
   obtain⟨z,i,x,c,dd⟩:=pX I.av e;refine call_meetsIn PySem.F.slot_dict_get dd.typeIs PySem.F.entry_dict_get (PySem.F.args_dict_get_2 _ _) (meetsH_dict_get (tupleKind (optKind X.prog X.w)) a b i) ⟨tupleKind_room_in1 w,k,x,pT I.av v,dd,h _ _ (I.tok _) ?_⟩;rw[l];exact(c.val k).getD rfl
end
def WI(td ty:TE):TE:=λσ H Q=>td σ H λx H1=>∃a,x= .ref a/\zE H1 a/\ty σ H1 λy H2=>∃o,bU H2 a y o/\Q (o.getD .au) H2
section
variable {X:Cx}{o e f:Expr}{apos cpos:Pos}{td ty tx:TE}
theorem T4(r:X.A.units+1<cLine)(n:PE X o td)(l:PE X e ty)(m:M1 X o "get" apos e cpos):PE X (.Call (.Attribute o "get" apos) [e] [] cpos) (WI td ty):=by
 intro b s j H Q I h;refine wpAny_Call_method m.base m.qR m.line PySem.F.plainAttrs_dict PySem.F.slot_dict_get PySem.F.type_dict_get (ay (n b s j H _ I h) λu w C=>?_);obtain⟨x,H1,i,v,a,ex,d,t⟩:=C
 subst ex;obtain rfl:u=Value.ref a:=v;obtain⟨z,A,_⟩:=XO i d;refine⟨z,A,?_⟩;rw[m.trees];refine Calls.callWith_builtin rfl (Calls.evalArgs_plain (Calls.spliced_cons (ay (l b w j H1 _ i t) λiv D ⟨y,H2,I2,ry,ov,g,q2⟩=>Calls.spliced_nil ?_)))
 exact YJ r I2 g ry λw' E k c=>⟨_,H2,k,c,q2⟩
end
end L2
namespace Att
open PySem PySem.W PySem.Calls PyProof.Rows
theorem Q2{P:Params}:∀(ns:List Int) (vs:ak),WellAll P h vs (ns.map WData.int)->IntsAre vs ns:=by
 intro ns
 induction ns with
 |nil=>
  intro vs w;rw[oh]at w;cases w;exact .nil
 |cons n ns ih=>
  intro vs w;rw[bQ]at w;cases w with
  |cons a b=>
   cases a;exact .cons _ _ (ih _ b)
theorem Sg{l:OpenLaw}{n:Nat}(s:l.most=some n){P:Params}
 (b:l.row.toRowW.claim.pre args=true) (i:WellAll P h vals args):
 ∃a vs ns,vals= [Value.ref a]/\args= [WData.list (ns.map WData.int)]/\h.get? a=some { cls:=.type "list",data:=.seq vs.toArray }/\IntsAre vs ns/\ns.length<=n:=by
 have g:WShape.hasAll [] args [.list .int]=true:=(pre_splitW b).1;have j:l.pre.holds [] { args:=args }=true:=(pre_splitW b).2;obtain⟨d,r,rfl,k,m⟩:=hasAllW_cons g;obtain rfl:=hasAllW_nil m;obtain⟨u,rfl,o⟩:=hasW_list k;obtain⟨ns,rfl⟩:=items_int o;have c:ns.length<=n:=by
  unfold OpenLaw.pre at j;have e:(WTm.not (.lt (.lit (.int (n:Int))) (.len (.arg 0)))).holds [] { args:=[.list (ns.map .int)] }=true:=by
   have e:=(holds_andW j).1;rw[s]at e;exact e
  have f:=condW_of e (w_not (w_lt w_lit (w_len_list (w_arg rfl))));rw[bu]at f;refine Nat.le_of_not_lt λq=>?_
  have t:(n:Int)<((ns.length:Nat):Int):=by omega
  first
   |(rw[fg t]at f;exact ba f ⋯)
   |(simp at f;omega)
 cases i with
 |cons w1 w2=>
  cases w2;cases w1 with
  |list ho hall=>exact⟨_,_,ns,rfl,rfl,ho,Q2 ns _ hall,c⟩
theorem Tf(l:OpenLaw)(args:List WData):l.row.toRowW.claim.post args (.bool true) args=true:=
 postW_of (r:=l.row.toRowW) (X:=(true==true))
  (show WShape.has [] (.bool true) .bool=true by first|rfl|decide|simp[WShape.has,WShape.arms,WShape.armsAll])
  (show(WTm.eq .res (.lit (.bool true))).value [] { args:=args,res:=some (.bool true),after:=args }=some (.bool (true==true))from w_eq_bool (w_res rfl) w_lit) rfl
theorem d7{l:OpenLaw}{n:Nat}{q:Program}{loose:aA}{d:DefRec}
 (O:l.most=some n) (t:d.params.defaults= [])
 (call:∀(w:World) (c b:Shared) (mg x:bo) (h:Addr) (o:Obj) (y cd e:Value) (a:Addr) (vs:ak) (ns:List Int),
  Ground q loose [] XP w c mg x b.heap->YP w b.heap->
  b.heap.get? h=some o->o.data= .func (docDef d.name d.params d.body d.scope y cd e)->b.heap.CodeRec cd d.name->mg d.name=some (.ref h)->
  b.heap.get? a=some { cls:=.type "list",data:=.seq vs.toArray }->IntsAre vs ns->ns.length<=n->b.gens= #[]->
  codeAny (model l.prog w) callerA (.call (.ref h) ⟨[.ref a],[]⟩) (λr m=>r= .ok (.ret (.bool true))/\OldK b.heap m.heap/\m.os=b.os/\AllBare m.gens) b):
 WalkO q loose XP YP l.row.toRowW d [] (λf vs=>PySem.call f vs):=by
 intro w c b mg x G Y h o y cd e E kV Q J s A u L z D W k C U v M;obtain rfl:E= .none:=Dflts.none A t;obtain rfl:kV= .none:=Dflts.noKw A;obtain⟨a,vs,ns,rfl,rfl,j,g,i⟩:=Sg O k v;refine enter_call (codeAny_mono (call w c b mg x h o y cd e a vs ns G Y Q (fd_plain J) s u j g i L) λr m R=>?_)
 obtain⟨rfl,F,H,I⟩:=R;exact⟨.inl ⟨.bool true,.bool true,[],rfl,λ_=>rfl,.bool true,Tf l _,λ_=>⟨List.Pairwise.nil,λ_ N=>(nomatch N)⟩⟩,F,H,I⟩
section
variable {prog:Program}{w:World}{A:Around}{E:aP}{s:Shared}{K:Frag}
def ledger(h:Heap)(L d:Addr):aF:=(List.range h.objs.size).filterMap λa=>if a=L∨a=d then none else(h.get? a).map λo=>(a,o)
end
end Att
namespace L2
open PySem PySem.Spec PyProof.Rows
theorem bA:∀{vs:ak} {ns:List Int},IntsAre vs ns->Vals (ns.map V.int) vs
 |_,_,.nil=>.nil
 |_,_,.cons n t h=>.cons ⟨t,rfl⟩ (bA h)
def Ci(H:Hp):Prop:=∀b,H b=none∨∃o a,H b=some (.aZ o (.lst a))
theorem Vf{P:Program}{K:ag}{R a:Addr}{x:Str}{sp:Sp}{c:Shared}{vs:ak}{ns:List Int}
 (Z:K.In c.heap) (J:c.heap.Ns mainGlobals mg) (g:c.heap.Ns builtinsNs mb) (W:∀x:Str,x≠"__name__"->mb x=bootBuiltins x) (I:c.heap.NoLimit) (hg:c.gens= #[])
 (O:c.heap.get? a=some { cls:=.type "list",data:=.seq vs.toArray }) (hi:IntsAre vs ns) (hl:ns.length<=sizeLine) (hr:aI k callerA)
 (F:∀i:Heap,K.In i->i.Ns mainGlobals mg->dz P w K mg i CX k R fd [x] sp) (y:∀s u,BindsTo s fd ⟨[u],[]⟩ [(x,u)])
 (X:∀H:Hp,Ci H->cj K H a (ns.map V.int)->sp [.ref a] H (λv _=>v= .bl true) λ_ _ _=>False)
 (U:∀H e j,CX [] H c (λ_ _ _=>False) e j->False):
 codeAny (model P w) callerA (.call (.ref R) ⟨[.ref a],[]⟩) (λr j=>r= .ok (.ret (.bool true))/\OldK c.heap j.heap/\j.os=c.os/\AllBare j.gens) c:=by
 have rv:=bA hi;have M:=hi.length;have t:∀H:Hp,Ci H->cj K H a (ns.map V.int)->cM P w H c.heap->(∀b,H b≠none->b=a)->(H a≠none->K.lookup a=none)->
  codeAny (model P w) callerA (.call (.ref R) ⟨[.ref a],[]⟩) (λr j=>r= .ok (.ret (.bool true))/\OldK c.heap j.heap/\j.os=c.os/\AllBare j.gens) c:=by
  intro H hO hS av hA hK;have f:∀{b:Addr} {o:Obj},c.heap.get? b=some o->H b=none->(iD c.heap H).get? b=some o:=λe n=>AL e n
  have Y:∀{b:Addr} {o:Obj} {D:Array DictEntry} {C:Nat},c.heap.get? b=some o->o.data= .dict D C->H b=none:=λ{b o D C} e d=>by
   cases q:H b with
   |none=>rfl
   |some u=>
    have Q:b=a:=hA b (by rw[q];simp)
    subst Q;rw[O]at e;cases e;have d':Data.seq vs.toArray _=Data.dict D C:=d;cases d'
  have l:∀{b:Addr} {m:bo},c.heap.Ns b m->(iD c.heap H).Ns b m:=λ{b m} ⟨o,D,C,e,d,r⟩=>⟨o,D,C,f e (Y e d),d,r⟩
  have E:K.In (iD c.heap H):=λb o e=>f (Z b o e) (by
   cases q:H b with
   |none=>rfl
   |some u=>
    have Q:b=a:=hA b (by rw[q];simp)
    subst Q;rw[hK (by rw[q];simp)]at e;cases e)
  have hM:Mod K mg (iD c.heap H):=⟨E,l J,⟨mb,l g,W⟩,let⟨mc,h1,h2⟩:=I;⟨mc,l h1,h2⟩⟩;have e0:fT P w K mg (iD c.heap H) callerA [] c H:=⟨rfl,hM,λb o e=>JO e,Nat.le_of_eq (IF _ _),trivial,λb g=>ba (show b∈([]:List Addr)from g) (by simp),av,.of_eq hg⟩
  refine codeAny_mono ((F _ E (l J)).run callerA [] c H ⟨[.ref a],[]⟩ [.ref a] [.ref a] _ _ hr e0 (y c (.ref a)) (.cons rfl .nil) (X H hO hS)) λr j h=>?_
  cases r with
  |error e=>exact(U H e j h).elim
  |ok fl=>
   cases fl with
   |next=>exact False.elim h
   |brk=>exact False.elim h
   |cont=>exact False.elim h
   |ret u=>
    obtain⟨v,H',os,A,un,L,r',q⟩:=h;have q':v= .bl true:=q;subst q';obtain rfl:u=Value.bool true:=r';refine⟨rfl,OldK.of_keep λb o e=>?_,os,A⟩
    cases q:H b with
    |none=>exact un.keep b o e q (by intro z;exact ba (show b∈([]:List Addr)from z) (by simp)) (by simp)
    |some u=>
     rcases hO b with z|⟨ob,xs,z⟩
     . rw[q]at z;cases z
     . have z2:=un.aJ b ob _ z
       obtain⟨e1,_⟩:=av b _ z;obtain⟨e2,_⟩:=L b _ z2;rw[e]at e1;cases e1;exact e2
 cases hk:K.lookup a with
 |some o=>
  have e:=Z a o hk;rw[O]at e;cases e;refine t (λ_=>none) (λ_=>.inl rfl) (.inr ⟨_,vs.toArray,_,hk,rfl,rfl,rfl,by rw[cZ,M];exact hl,by simpa using rv⟩) (λb u z=>by have N:(none:Option HO)=some u:=z;cases N) (λb z=>ba rfl z) λz=>ba rfl z
 |none=>
  refine t (λb=>if b=a then some (.aZ { cls:=.type "list",data:=.seq vs.toArray } (.lst (ns.map V.int)))else none) (λb=>?_) (.inl (.inr ⟨{ cls:=.type "list",data:=.seq vs.toArray },ai rfl⟩)) (λb u z=>?_) (λb z=>?_) λ_=>hk
  . by_cases g:b=a
    . exact .inr ⟨_,_,ai g⟩
    . exact .inl (ae g)
  . by_cases g:b=a
    . have N:=(ai g).symm.trans z
      cases N;subst g;exact⟨O,by rw[bu];exact hl,vs,_,rv,O⟩
    . have N:=(ae g).symm.trans z
      cases N
  . by_cases g:b=a
    . exact g
    . exact ba (ae g) z
abbrev KOf{K:ag}(_:K.In h):ag:=K
theorem qwD{l:PySem.W.OpenLaw}{n k:Nat}{q:Program}{loose:aA}{XP:(bo)->Heap->Prop}{YP:World->Heap->Prop}{d:DefRec}{K:Params->ag}{E:World->jc}{sp:World->Sp}{x:Str}
 (X:l.most=some n) (A:n<=sizeLine) (y:d.params.defaults= []) (Z:aI k callerA)
 (Q:∀(w:World) (h:Heap),YP w h->(K w.params).In h)
 (F:∀(w:World) (mg:bo) (m:Addr) (h:Heap),(K w.params).In h->h.Ns mainGlobals mg->mg d.name=some (.ref m)->
  ∃r:FuncData,(∀(s:Shared) (u:Value),BindsTo s r ⟨[u],[]⟩ [(x,u)])/\
   ∀b:Heap,(K w.params).In b->b.Ns mainGlobals mg->dz l.prog w (K w.params) mg b (E w) k m r [x] (sp w))
 (C:∀(w:World) (H:Hp) (a:Addr) (ns:List Int),ns.length<=n->Ci H->cj (K w.params) H a (ns.map V.int)->sp w [.ref a] H (λv _=>v= .bl true) λ_ _ _=>False)
 (t:∀(w:World) (H:Hp) (s:Shared) (e:Value) (D:Shared),E w [] H s (λ_ _ _=>False) e D->False):
 PySem.W.WalkO q loose XP YP l.row.toRowW d [] (λf vs=>PySem.call f vs):=by
 refine Att.d7 X y λw J j mg mb m o pm cd L a vs ns G Y ho hd U z i g c W=>?_
 have I:=Q w _ Y;obtain⟨r,R,M⟩:=F w mg m _ I G.T.g z;exact Vf I G.T.g G.T.b G.T.builtins G.T.nolimit W i g (bR c A) Z M R (λH N O=>C w H a ns c N O) λH e D=>t w H j e D
def inClass(s:Stmt)(j:Nat):Stmt:=match s with
 | .ClassDef _ _ _ body _ _ _ _ _ _ _=>body.getD j (.Pass ⟨0,0,0,0⟩)
 |_=>.Pass ⟨0,0,0,0⟩
noncomputable def J5 (s:Stmt):Arguments:=match s with
 | .FunctionDef _ a _ _ _ _ _ _ _ _=>a
 |_=>{ posonlyargs:=[],args:=[],vararg:=none,kwonlyargs:=[],kw_defaults:=[],kwarg:=none,defaults:=[] }
def pM(s:Stmt):List Stmt:=match s with
 | .FunctionDef _ _ b _ _ _ _ _ _ _=>b
 |_=>[]
noncomputable def fP (s:Stmt):Scope:=match s with
 | .FunctionDef _ _ _ _ _ _ sc _ _ _=>sc
 |_=>{ kind:=.function,names:=[],isGenerator:=false,isCoroutine:=false }
abbrev fh:jc:=λ_ _ _ _ _ _=>False
abbrev E0:XK:=λ_ _ _=>False
theorem p9:Passes fh X E0:=λ_ _ _ _ _ _ _ h=>h.elim
structure sG(K:ag)(x qual:Str)(st:Stmt)(f:Addr)(fd:FuncData):Prop where
 ex:∃(oc:Value) (od:Option Addr) (kV doc pm:Value) (an:Option Addr) (cdv ct:Value) (osl:Array (cN)),
  fd=PySem.W.fnOf x qual (J5 st) (pM st) (fP st) .none kV doc pm an cdv ct/\K.lookup f=some ⟨oc,od,.func fd,osl⟩/\PySem.W.codeIn K cdv qual=true
 kp:PySem.W.keepIn K (.ref f)=true
section
variable {P:Program}{w:World}{K:ag}{mg:bo}{base:Heap}
theorem sG.ok{x c:Str}{st:Stmt}{sp:Sp}(F:sG K x c st f fd)(S:rB N ps (fP st))(i:∀vs H Q E,sp vs H Q E->vs.length=ps.length)
 (d:∀b,fd.code=b->∀(A:Around) (a:List Env) (s:Shared) (H:Hp) (vs:LV) (Q:VK) (E:XK),aI k (A.deeper (envOfC c (fP st) s.heap.objs.size f b))->sp vs H Q E->
  ∃t,fN (nN fh P w K mg base N c (fP st) f b A a s H E).qU (pM st) t/\t { nx:=λ_ j=>Q .au j,rt:=Q } (start N vs) H):dz P w K mg base fh (k+1) f fd ps sp:=by
 obtain⟨r,u,kV,l,v,an,b,o,n,rfl,lk,e⟩:=F.ex;refine qyB lk e S i λA a s H vs Q E m g=>?_
 obtain⟨t,h,q⟩:=d b rfl A a s H vs Q E m g;exact⟨t,h.qU,q⟩
end
theorem jO(a:aI k A):A.units+1<cLine:=jU (Nat.add_le_add_left (by decide:1<=64) _) a.units
theorem qo{A B:Prop}(h:B):if false=true then A else B:=by
 rw[ae hZ];exact h
theorem qm{A B:Prop}(h:A):if true=true then A else B:=by
 rw[ai rfl];exact h
section
variable {X:Cx}
theorem Tp:cQ X (.builtin "len") (λxs H Q=>∃a kvs,xs= [V.ref a]/\H a=some (.dK kvs)/\Q (.int kvs.length) H):=by
 intro pins s σ H xs us Q I r h;obtain⟨a,kvs,rfl,ha,q⟩:=h;obtain⟨u,rfl,ru⟩:=vals1 r;cases ru;exact qyH I (.inl ha) λt s' I'=>⟨.int kvs.length,H,I',⟨t,rfl⟩,q⟩
end
section
variable {κ:Type}[DecidableEq κ]
theorem VW{k:κ}{v:V}(h:fb kvs k=some v):k∈kvs.map (·.1):=by
 have q:(kvs.any λkv=>decide (kv.1=k))=true:=by
  rw[xJ,h]
  all_goals rfl
 obtain⟨p,hp,e⟩:=List.any_eq_true.mp q;exact aV.mpr ⟨p,hp,ja e⟩
end
end L2
namespace R
open PySem PySem.Spec PyProof.Rows L2
inductive RV where
 |au|bl (b:Bool)|int (i:Int)|str (x:Str)|ref (a:Addr)|ty (n:String)
 |tup (xs:List RV)|ls (xs:List RV)
abbrev LR:=List RV
abbrev bV:=List (Key×RV)
def Fz(K:ag)(H:Hp)(a:Addr)(vs:LV):Prop:=
 (∃o,H a=some (.aZ o (.lst vs)))∨
  ∃(o:Obj) (ab:Array Value) (n:Nat),K.lookup a=some o/\o.cls= .type "list"/\o.dict=Option.none/\o.data= .seq ab n/\ab.size<=sizeLine/\Vals vs ab.toList
theorem Fz.sq{K:ag}{a:Addr}{vs:LV}(h:Fz K H a vs):cj K H a vs:=by
 rcases h with⟨o,h⟩|h
 . exact .inl (.inr ⟨o,h⟩)
 . exact .inr h
instance {K:ag} {H:Hp} {a:Addr} {xs:LV}:Coe (H a=some (HO.tup xs)) (bI K H a xs):=⟨bI.of⟩
mutual
def Rep(K:ag)(H:Hp):RV->V->Prop
 | .au,v=>v= .au
 | .bl b,v=>v= .bl b
 | .int i,v=>v= .int i
 | .str x,v=>v= .str x
 | .ref a,v=>v= .ref a
 | .ty n,v=>v= .ty n
 | .tup xs,v=>∃a vs,v= .ref a/\H a=some (.tup vs)/\aa K H xs vs
 | .ls xs,v=>∃a vs,v= .ref a/\Fz K H a vs/\aa K H xs vs
def aa(K:ag)(H:Hp):LR->LV->Prop
 | [],vs=>vs= []
 |x::xs,vs=>∃v r,vs=v::r/\Rep K H x v/\aa K H xs r
end
def js:HO->Bool
 | .dK _=>true
 | .dT _=>true
 |_=>false
structure bj(H H':Hp):Prop where
 bh:∀b xs,H b=some (.tup xs)->H' b=some (.tup xs)
 aJ:∀b o u,js u=false->H b=some (.aZ o u)->H' b=some (.aZ o u)
structure Ext(H H':Hp):Prop where
 bh:∀b xs,H b=some (.tup xs)->H' b=some (.tup xs)
 aJ:∀b o u,H b=some (.aZ o u)->H' b=some (.aZ o u)
theorem Ext.w(e:Ext H H'):bj H H':=⟨e.bh,λb o u _ h=>e.aJ b o u h⟩
theorem Ext.refl(H):Ext H H:=⟨λ_ _ h=>h,λ_ _ _ h=>h⟩
theorem Ext.trans{H H1 d:Hp}(a:Ext H H1)(b:Ext H1 d):Ext H d:=⟨λc x h=>b.bh c x (a.bh c x h),λc o x h=>b.aJ c o x (a.aJ c o x h)⟩
theorem bj.trans{H H1 d:Hp}(a:bj H H1)(b:bj H1 d):bj H d:=⟨λc x h=>b.bh c x (a.bh c x h),λc o x n h=>b.aJ c o x n (a.aJ c o x n h)⟩
theorem Ext.new{p:Addr}(h:H p=none):Ext H (upd H p o):=
 ⟨λb a e=>by rw[aD (eC e h)];exact e,λb o a e=>by rw[aD (eC e h)];exact e⟩
def QH:HO->Bool
 | .tup _=>false
 | .aZ _ _=>false
 |_=>true
theorem bj.cu{p:Addr}(h:H p=some (.aZ o u))(s:js u=true){v:HO}:bj H (upd H p v):=by
 refine⟨λb c e=>?_,λb ob c a e=>?_⟩
 . have n:b≠p:=by rintro rfl;rw[h]at e;cases e
   rw[aD n];exact e
 . have n:b≠p:=by rintro rfl;rw[h]at e;cases e;rw[s]at a;cases a
   rw[aD n];exact e
theorem Ext.write{p:Addr}(h:H p=some o)(s:QH o=true):Ext H (upd H p o'):=by
 refine⟨λb a e=>?_,λb ob a e=>?_⟩
 . have n:b≠p:=by rintro rfl;rw[h]at e;cases e;cases s
   rw[aD n];exact e
 . have n:b≠p:=by rintro rfl;rw[h]at e;cases e;cases s
   rw[aD n];exact e
theorem bI.aX{K:ag}{a:Addr}{vs:LV}(e:bj H H')(h:bI K H a vs):bI K H' a vs:=by
 rcases h with(h|⟨o,h⟩)|h
 . exact .inl (.inl (e.bh _ _ h))
 . exact .inl (.inr ⟨o,e.aJ _ _ _ rfl h⟩)
 . exact .inr h
theorem Fz.aX{K:ag}{a:Addr}{vs:LV}(e:bj H H')(h:Fz K H a vs):Fz K H' a vs:=by
 rcases h with⟨o,h⟩|h
 . exact .inl ⟨o,e.aJ _ _ _ rfl h⟩
 . exact .inr h
mutual
theorem Rep.aX{K:ag}{H H':Hp}(e:bj H H'):∀(r:RV) (v:V),Rep K H r v->Rep K H' r v
 | .au,v,h=>by simpa only[Rep]using h
 | .bl _,v,h=>by simpa only[Rep]using h
 | .int _,v,h=>by simpa only[Rep]using h
 | .str _,v,h=>by simpa only[Rep]using h
 | .ref _,v,h=>by simpa only[Rep]using h
 | .ty _,v,h=>by simpa only[Rep]using h
 | .tup xs,v,h=>by
  simp only[Rep]at h ⊢;obtain⟨a,vs,e1,h1,h2⟩:=h;exact⟨a,vs,e1,e.bh _ _ h1,aa.aX e xs vs h2⟩
 | .ls xs,v,h=>by
  simp only[Rep]at h ⊢;obtain⟨a,vs,e1,h1,h2⟩:=h;exact⟨a,vs,e1,h1.aX e,aa.aX e xs vs h2⟩
theorem aa.aX{K:ag}{H H':Hp}(e:bj H H'):∀(rs:LR) (vs:LV),aa K H rs vs->aa K H' rs vs
 | [],vs,h=>by simpa only[aa]using h
 |x::xs,vs,h=>by
  simp only[aa]at h ⊢;obtain⟨v,r,e1,h1,h2⟩:=h;exact⟨v,r,e1,Rep.aX e x v h1,aa.aX e xs r h2⟩
end
section
variable {K:ag}{H:Hp}
theorem aa.cons{x:RV}{v:V}{vs:LV}(h:Rep K H x v)(t:aa K H xs vs):aa K H (x::xs) (v::vs):=by
 simp only[aa];exact⟨v,vs,rfl,h,t⟩
theorem aa.nil:aa K H [] []:=by simp only[aa]
theorem aa.length:∀{xs:LR} {vs:LV},aa K H xs vs->xs.length=vs.length
 | [],vs,h=>by simp only[aa]at h;subst h;rfl
 |x::xs,vs,h=>by
  simp only[aa]at h;obtain⟨v,r,rfl,_,t⟩:=h;simp[aa.length t]
theorem aa.get:∀{xs:LR} {vs:LV} {i:Nat} {x:RV},aa K H xs vs->xs[i]? =some x->∃v,vs[i]? =some v/\Rep K H x v
 | [],_,_,_,_,e=>by simp at e
 |y::xs,vs,0,x,h,e=>by
  simp only[aa]at h;obtain⟨v,r,rfl,a,_⟩:=h;simp at e;subst e;exact⟨v,by simp,a⟩
 |y::xs,vs,i+1,x,h,e=>by
  simp only[aa]at h;obtain⟨v,r,rfl,_,t⟩:=h;obtain⟨u,a,b⟩:=aa.get (i:=i) t (by simpa using e)
  exact⟨u,by simpa using a,b⟩
theorem aa.append:∀{xs a:LR} {vs ws:LV},aa K H xs vs->aa K H a ws->aa K H (xs++a) (vs++ws)
 | [],_,vs,_,h,t=>by simp only[aa]at h;subst h;simpa using t
 |x::xs,a,vs,ws,h,t=>by
  simp only[aa]at h;obtain⟨v,r,rfl,b,c⟩:=h;exact aa.cons b (aa.append c t)
theorem aa.take:∀{xs:LR} {vs:LV} (n:Nat),aa K H xs vs->aa K H (xs.take n) (vs.take n)
 |_,_,0,_=>by simpa using aa.nil
 | [],vs,n+1,h=>by simp only[aa]at h;subst h;simpa using aa.nil
 |x::xs,vs,n+1,h=>by
  simp only[aa]at h;obtain⟨v,r,rfl,a,b⟩:=h;exact aa.cons a (aa.take n b)
theorem aa.drop:∀{xs:LR} {vs:LV} (n:Nat),aa K H xs vs->aa K H (xs.drop n) (vs.drop n)
 |_,_,0,h=>by simpa using h
 | [],vs,n+1,h=>by simp only[aa]at h;subst h;simpa using aa.nil
 |x::xs,vs,n+1,h=>by
  simp only[aa]at h;obtain⟨v,r,rfl,b,a⟩:=h;exact aa.drop n a
theorem aa.set{x:RV}{v:V}(hx:Rep K H x v):∀{xs:LR} {vs:LV} (i:Nat),aa K H xs vs->aa K H (xs.set i x) (vs.set i v)
 | [],vs,i,h=>by simp only[aa]at h;subst h;simpa using aa.nil
 |y::xs,vs,0,h=>by
  simp only[aa]at h;obtain⟨w,r,rfl,b,a⟩:=h;exact aa.cons hx a
 |y::xs,vs,i+1,h=>by
  simp only[aa]at h;obtain⟨w,r,rfl,b,a⟩:=h;exact aa.cons b (aa.set hx i a)
theorem aa.bK{vs:LV}{i:Int}{x:RV}(h:aa K H xs vs)(e:L2.bK xs i=some x):∃v,L2.bK vs i=some v/\Rep K H x v:=by
 unfold L2.bK at e ⊢;rw[<-h.length];cases q:fC xs.length i with
 |none=>rw[q]at e;cases e
 |some j=>rw[q]at e;exact h.get (by simpa using e)
end
inductive RO where
 |lst (xs:LR)
 |dk (kvs:bV)
 |dt (kvs:List (List bC×RV))
 |ins (C:Addr) (fs:List (Str×RV))
 |fk (kvs:bV)
 |ft (kvs:List (List bC×RV))
 |tb (P:Addr) (pos:Pos) (q:Str)
noncomputable def fS (P:Addr)(pos:Pos)(x:Option Addr):Heap->Prop:=λh=>h.get? P=some { cls:=.none,data:=.fields (match x with|none=>#[]|some c=>#[rawInt pos.line,rawInt pos.col,.ref c]) }
abbrev RM:=Addr->Option RO
def put(M:RM)(a:Addr)(o:RO):RM:=λb=>if b=a then some o else M b
theorem bJ{a:Addr}:put M a o a=some o:=by unfold put;rw[ai rfl]
theorem put_ne{a b:Addr}(h:b≠a):put M a o b=M b:=by unfold put;rw[ae h]
theorem eZ{a:Addr}:put (put M a o) a o'=put M a o':=by
 funext b;unfold put;split<;>rfl
noncomputable def aE(K:ag)(H:Hp):List (κ×RV)->List (κ×V)->Prop
 | [],ws=>ws= []
 |(k,x)::r,ws=>∃v t,ws=(k,v)::t/\Rep K H x v/\aE K H r t
theorem aE.aX{K:ag}(e:bj H H'):∀{a:List (κ×RV)} {ws:List (κ×V)},aE K H a ws->aE K H' a ws
 | [],_,h=>h
 |(k,x)::r,ws,h=>by
  obtain⟨v,t,e1,b,c⟩:=h;exact⟨v,t,e1,Rep.aX e x v b,aE.aX e c⟩
noncomputable def cV (K:ag)(H:Hp):RO->HO->Prop
 | .lst xs,o=>∃vs,o= .lst vs/\aa K H xs vs
 | .dk kvs,o=>∃a,o= .dK a/\aE K H kvs a
 | .dt kvs,o=>∃a,o= .dT a/\aE K H kvs a
 | .ins C fs,o=>∃e b,o= .ins C e b/\aE K H fs b
 | .fk kvs,o=>∃ob a,o= .aZ ob (.dK a)/\aE K H kvs a
 | .ft kvs,o=>∃ob a,o= .aZ ob (.dT a)/\aE K H kvs a
 | .tb P pos q,o=>o= .ext (fS P pos none)∨∃c d vs t,o= .ext (fS P pos (some c))/\H c=some (.aZ d (.own c))/\d.data= .fields vs/\vs[1]? =some (.str q t)
theorem cV.aX{K:ag}(e:bj H H'):∀{o:RO} {ho:HO},cV K H o ho->cV K H' o ho
 | .lst xs,_,h=>by obtain⟨vs,e1,a⟩:=h;exact⟨vs,e1,aa.aX e xs vs a⟩
 | .dk _,_,h=>by obtain⟨f,e1,a⟩:=h;exact⟨f,e1,a.aX e⟩
 | .dt _,_,h=>by obtain⟨f,e1,a⟩:=h;exact⟨f,e1,a.aX e⟩
 | .ins _ _,_,h=>by obtain⟨b,d,e1,a⟩:=h;exact⟨b,d,e1,a.aX e⟩
 | .fk _,_,h=>by obtain⟨b,d,e1,a⟩:=h;exact⟨b,d,e1,a.aX e⟩
 | .ft _,_,h=>by obtain⟨b,d,e1,a⟩:=h;exact⟨b,d,e1,a.aX e⟩
 | .tb _ _ _,_,h=>h.imp id λ⟨c,i,vs,t,e1,a,g⟩=>⟨c,i,vs,t,e1,e.aJ _ _ _ rfl a,g⟩
theorem cV.zT{K:ag}{p:Addr}{v:HO}:∀{o:RO} {ho:HO},cV K H o ho->H p=some ho->bj H (upd H p v)
 | .lst _,_,h,e=>by obtain⟨_,rfl,_⟩:=h;exact(Ext.write e rfl).w
 | .dk _,_,h,e=>by obtain⟨_,rfl,_⟩:=h;exact(Ext.write e rfl).w
 | .dt _,_,h,e=>by obtain⟨_,rfl,_⟩:=h;exact(Ext.write e rfl).w
 | .ins _ _,_,h,e=>by obtain⟨_,_,rfl,_⟩:=h;exact(Ext.write e rfl).w
 | .fk _,_,h,e=>by obtain⟨_,_,rfl,_⟩:=h;exact bj.cu e rfl
 | .ft _,_,h,e=>by obtain⟨_,_,rfl,_⟩:=h;exact bj.cu e rfl
 | .tb _ _ _,_,h,e=>by rcases h with rfl|⟨_,_,_,_,rfl,_⟩<;>exact(Ext.write e rfl).w
section
variable {K:ag}{H H':Hp}
theorem bI.ext{a:Addr}{vs:LV}(e:Ext H H')(h:bI K H a vs):bI K H' a vs:=bI.aX e.w h
theorem Fz.ext{a:Addr}{vs:LV}(h:Fz K H a vs)(e:Ext H H'):Fz K H' a vs:=h.aX e.w
theorem Rep.ext(e:Ext H H')(r)(v)(h:Rep K H r v):Rep K H' r v:=Rep.aX e.w r v h
theorem aa.ext(e:Ext H H')(r)(v)(h:aa K H r v):aa K H' r v:=aa.aX e.w r v h
theorem aE.ext(h:aE K H xs ws)(e:Ext H H'):aE K H' xs ws:=aE.aX e.w h
theorem cV.ext(h:cV K H o ho)(e:Ext H H'):cV K H' o ho:=cV.aX e.w h
end
def View(K:ag)(H:Hp)(M:RM):Prop:=∀a o,M a=some o->∃b,H a=some b/\cV K H o b
section
variable {K:ag}{H H':Hp}{M:RM}{p:Addr}{ho:HO}{o:RO}
theorem View.free(w:View K H M)(h:H p=none):M p=none:=by
 cases q:M p with
 |none=>rfl
 |some o=>obtain⟨ho,e,_⟩:=w p o q;rw[h]at e;cases e
theorem View.new(w:View K H M)(h:H p=none):View K (upd H p ho) M:=λa o e=>by
 obtain⟨b,e1,r⟩:=w a o e;exact⟨b,by rw[aD (eC e1 h)];exact e1,r.ext (Ext.new h)⟩
theorem View.cq(w:View K H M)(h:H p=none)(r:cV K (upd H p ho) o ho):View K (upd H p ho) (put M p o):=λa c e=>by
 by_cases b:a=p
 . subst b;rw[bJ]at e;cases e;exact⟨ho,c6,r⟩
 . rw[put_ne b]at e;exact w.new h a c e
theorem View.write(w:View K H M)(h:M p=some o')(r:cV K (upd H p ho) o ho):View K (upd H p ho) (put M p o):=λa d e=>by
 by_cases b:a=p
 . subst b;rw[bJ]at e;cases e;exact⟨ho,c6,r⟩
 . rw[put_ne b]at e
   obtain⟨c,e1,r1⟩:=w a d e;obtain⟨i,f,g⟩:=w p o' h;exact⟨c,by rw[aD b];exact e1,cV.aX (g.zT f) r1⟩
end
abbrev bb:=List (Option RV)
abbrev ao:=RV->RM->Prop
abbrev aq:=bb->RM->ao->Prop
abbrev c7:=bb->RM->(Bool->RM->Prop)->Prop
abbrev bD:=bb->RM->(LR->RM->Prop)->Prop
def aN(K:ag)(H:Hp)(σ:bb)(a:L2.St):Prop:=σ.length=a.length/\∀(i:Nat) r,σ[i]? =some (some r)->∃v,a[i]? =some (some v)/\Rep K H r v
theorem aN.aX{K:ag}(h:aN K H σ σ0)(e:bj H H'):aN K H' σ σ0:=
 ⟨h.1,λi r q=>by obtain⟨v,e1,a⟩:=h.2 i r q;exact⟨v,e1,Rep.aX e r v a⟩⟩
theorem aN.ext{K:ag}(h:aN K H σ σ0)(e:Ext H H'):aN K H' σ σ0:=h.aX e.w
theorem aN.set{K:ag}{v:V}(h:aN K H σ σ0)(c:Rep K H r v)(i):aN K H (σ.set i (some r)) (σ0.set i (some v)):=by
 refine⟨by simp[h.1],λj d q=>?_⟩
 by_cases a:i=j
 . subst a
   rw[List.getElem?_set]at q;split at q
   . split at q
     . cases q;rename_i e _ ;exact⟨v,by rw[List.getElem?_set_self (by rw[<-h.1];assumption)],c⟩
     . cases q
   . rename_i z;exact ba rfl z
 . rw[List.getElem?_set_ne a]at q
   obtain⟨w,e1,b⟩:=h.2 j d q;exact⟨w,by rw[List.getElem?_set_ne a];exact e1,b⟩
def iP(K:ag)(H:Hp)(Q:ao)(Q0:VK):Prop:=∀rv b v a,Q rv b->Ext H a->View K a b->Rep K a rv v->Q0 v a
theorem iP.ext{K:ag}(h:iP K H Q Q0)(e:Ext H H'):iP K H' Q Q0:=λrv b v a q c w r=>h rv b v a q (e.trans c) w r
def up(K:ag)(t:aq):TE:=λσ0 H Q0=>∃σ M Q,aN K H σ σ0/\View K H M/\t σ M Q/\iP K H Q Q0
def CJ(K:ag)(t:c7):TT:=λσ0 H Q0=>∃σ M Q,aN K H σ σ0/\View K H M/\t σ M Q/\∀b M' H',Q b M'->Ext H H'->View K H' M'->Q0 b H'
noncomputable def CI (K:ag)(t:bD):TA:=λσ0 H Q0=>∃σ M Q,aN K H σ σ0/\View K H M/\t σ M Q/\∀rs M' vs H',Q rs M'->Ext H H'->View K H' M'->aa K H' rs vs->Q0 vs H'
structure RD where
 nx:bb->RM->Prop
 rt:ao
 bk:bb->RM->Prop:=λ_ _=>False
 ct:bb->RM->Prop:=λ_ _=>False
abbrev cU:=RD->bb->RM->Prop
def ot(K:ag)(H:Hp)(q:bb->RM->Prop)(q0:L2.St->Hp->Prop):Prop:=∀c M a b,q c M->Ext H b->View K b M->aN K b c a->q0 a b
theorem ot.ext{K:ag}(h:ot K H Q Q0)(e:Ext H H'):ot K H' Q Q0:=λσ M σ0 H2 q e2 w r=>h σ M σ0 H2 q (e.trans e2) w r
structure wt(K:ag)(H:Hp)(D:RD)(D0:Ends):Prop where
 nx:ot K H D.nx D0.nx
 rt:iP K H D.rt D0.rt
 bk:ot K H D.bk D0.bk
 ct:ot K H D.ct D0.ct
theorem wt.ext{K:ag}(h:wt K H D D0)(e:Ext H H'):wt K H' D D0:=⟨h.nx.ext e,h.rt.ext e,h.bk.ext e,h.ct.ext e⟩
def NB(K:ag)(t:cU):TS:=λD0 σ0 H=>∃σ M D,aN K H σ σ0/\View K H M/\t D σ M/\wt K H D D0
def ah(X:Cx)(e:Expr)(t:aq):Prop:=PE X e (up X.K t)
def dZ(X:Cx)(e:Expr)(t:c7):Prop:=PT X e (CJ X.K t)
def m7(X:Cx)(e:Expr)(t:c7):Prop:=PW X e (CJ X.K t)
def eI(X:Cx)(es:aS)(t:bD):Prop:=PA X es (CI X.K t)
def eJ(X:Cx)(s:Stmt)(t:cU):Prop:=PS X s (NB X.K t)
def ju(X:Cx)(s:List Stmt)(t:cU):Prop:=fN X s (NB X.K t)
section
variable {X:Cx}
theorem PE.imp{e:Expr}{t t':TE}(h:PE X e t)(i:∀σ H Q,t' σ H Q->t σ H Q):PE X e t':=λpins s σ H Q I w=>h pins s σ H Q I (i σ H Q w)
theorem PT.imp{e:Expr}{t t':TT}(h:PT X e t)(i:∀σ H Q,t' σ H Q->t σ H Q):PT X e t':=λpins s σ H Q I w=>h pins s σ H Q I (i σ H Q w)
theorem PW.imp{e:Expr}{t t':TT}(h:PW X e t)(i:∀b H Q,t' b H Q->t b H Q):PW X e t':=λwh a s b H Q I w=>h wh a s b H Q I (i b H Q w)
theorem PA.imp{e:aS}{t t':TA}(h:PA X e t)(i:∀σ H Q,t' σ H Q->t σ H Q):PA X e t':=λpos pins s σ H Q I w=>h pos pins s σ H Q I (i σ H Q w)
theorem PS.imp{e:Stmt}{t t':TS}(h:PS X e t)(i:∀D σ H,t' D σ H->t D σ H):PS X e t':=λpins s σ H D I w=>h pins s σ H D I (i D σ H w)
theorem fN.imp{e:List Stmt}{t t':TS}(h:fN X e t)(i:∀D σ H,t' D σ H->t D σ H):fN X e t':=λpins s σ H D I w=>h pins s σ H D I (i D σ H w)
end
section
variable {X:Cx}{a b c:Expr}{ta tb tc:aq}{tA tB:c7}{pos:Pos}{rest:aS}
def qe(i:Nat):aq:=λσ M Q=>match σ[i]? with|some (some v)=>Q v M|_=>False
def rC(v:RV):aq:=λ_ M Q=>Q v M
theorem rv(i){x:Str}(k:X.N[i]? =some x:=by rfl)(g:qM X.env.scope x)(l:(x==("__debug__":Str))=false:=by decide)
 (f:(x==("__classdict__":Str))=false:=by decide):ah X (.Name x pos) (qe i):=PE.imp (W3 k g l f) λσ0 H Q h=>by
 obtain⟨o,M,n,hs,g,d,m⟩:=h;unfold qe at d;split at d
 . rename_i r e
   obtain⟨v,e1,j⟩:=hs.2 i r e;exact⟨v,e1,m r M v H d (.refl H) g j⟩
 . exact d.elim
theorem rL{e:Expr}{v:V}(h:PE X e (tC v))(f:∀H,Rep X.K H r v):ah X e (rC r):=PE.imp h λσ0 H Q h=>by
 obtain⟨k,M,j,hs,i,g,d⟩:=h;exact d r M v H g (.refl H) i (f H)
theorem ri{i j pos}:ah X (.Constant (.int i) j pos) (rC (.int i)):=rL Lb λH=>by simp only[Rep]
theorem rb{b j pos}:ah X (.Constant (.bool b) j pos) (rC (.bl b)):=rL Zp λH=>by simp only[Rep]
theorem rn{j pos}:ah X (.Constant .none j pos) (rC .au):=rL W7 λH=>by simp only[Rep]
theorem rs{x j pos}:ah X (.Constant (.str x) j pos) (rC (.str x)):=rL K9 λH=>by simp only[Rep]
theorem LL{x:Str}{v:V}(f:X.mg x=some u)(h:RelV v u)(g:∀H,Rep X.K H r v)(e:Gl X x:=by rfl)(d:(x==("__debug__":Str))=false:=by decide):ah X (.Name x pos) (rC r):=
 rL (Vu e f h d) g
theorem vg{x:Str}{v:V}(f:X.mg x=none)(i:bootBuiltins x=some u)(j:RelV v u)(h:∀H,Rep X.K H r v)(e:Gl X x:=by rfl)(g:x≠"__name__":=by decide)(d:(x==("__debug__":Str))=false:=by decide):ah X (.Name x pos) (rC r):=
 rL (Vx e f i j g d) h
abbrev cx:=RV->RV->RM->ao->Prop
def sv(K:ag)(g:cx):R2:=λx y H f=>∃d e M Q,Rep K H d x/\Rep K H e y/\View K H M/\g d e M Q/\iP K H Q f
def cS(X:Cx)(f:Value->Value->Sem Value)(d:cx):Prop:=dM X f (sv X.K d)
def nW(rr:cx)(ta tb:aq):aq:=λσ M Q=>ta σ M λx M1=>tb σ M1 λy M2=>rr x y M2 Q
theorem xV{K:ag}(h:up K (nW rr ta tb) σ0 H Q0):sj (sv K rr) (up K ta) (up K tb) σ0 H Q0:=by
 obtain⟨σ,M,Q,hs,hv,ht,hk⟩:=h;refine⟨σ,M,_,hs,hv,ht,λrx M1 x H1 hb e1 v1 r1=>?_⟩
 refine⟨σ,M1,_,hs.ext e1,v1,hb,λry M2 y H2 hr e2 v2 r2=>?_⟩
 exact⟨rx,ry,M2,Q,Rep.ext e2 rx x r1,r2,v2,hr,hk.ext (e1.trans e2)⟩
theorem rop{op:Operator}(f:cS X (binaryOp op) rr)(d:ah X a ta)(e:ah X b tb):ah X (.BinOp a op b pos) (nW rr ta tb):=PE.imp (ZP f d e) λ_ _ _ h=>xV h
theorem Qx{op:CmpOp}(g:cS X (compareOp op) rr)(d:ah X a ta)(e:ah X b tb)(f:behindInMarks op b=false):ah X (.Compare a [op] [b] pos) (nW rr ta tb):=
 PE.imp (JM g d e f) λ_ _ _ h=>xV h
def mE(t:aq):c7:=λσ M Q=>t σ M λv M'=>match v with| .bl k=>Q k M'|_=>False
theorem pN{K:ag}{H:Hp}{Q:Bool->RM->Prop}{Q0:Bool->Hp->Prop}(g:∀b f d,Q b f->Ext H d->View K d f->Q0 b d):
 iP K H (λv f=>match v with| .bl k=>Q k f|_=>False) (λx d=>∃k,x= .bl k/\Q0 k d):=λrv f v d q e w r=>by
 cases rv with
 |bl k=>simp only[Rep]at r;exact⟨k,r,g k f d q e w⟩
 |_=>exact q.elim
theorem Z7{op:CmpOp}(i:cS X (compareOp op) rr)(d:ah X a ta)(e:ah X b tb)(g:behindInMarks op b=false):dZ X (.Compare a [op] [b] pos) (mE (nW rr ta tb)):=
 PT.imp (JX i d e g) λσ0 H m h=>by
  obtain⟨l,M,Q,hs,k,j,f⟩:=h;exact xV ⟨l,M,_,hs,k,j,pN f⟩
theorem Z5{e:Expr}{t:aq}(h:ah X e t)(f:∀d,isTrue e X.env d=(do let v<-d;standAt e.pos;holding [v] (truthy v)):=by intro _;rfl):dZ X e (mE t):=
 PT.imp (Xf h f) λσ0 H l h=>by
  obtain⟨k,M,Q,hs,j,i,g⟩:=h;exact⟨k,M,_,hs,j,i,pN g⟩
noncomputable def rG (rr rr':cx)(ta tb tc:aq):aq:=λσ M Q=>ta σ M λx M1=>tb σ M1 λy M2=>rr x y M2 λz M3=>match z with
 | .bl k=>(k=true->tc σ M3 λw M4=>rr' y w M4 Q)/\(k=false->Q (.bl false) M3)
 |_=>False
theorem IL{K:ag}(h:up K (rG rr rr' ta tb tc) σ0 H Q0):Bd (sv K rr) (sv K rr') (up K ta) (up K tb) (up K tc) σ0 H Q0:=by
 obtain⟨σ,M,Q,hs,hv,ht,hk⟩:=h;refine⟨σ,M,_,hs,hv,ht,λrx M1 x H1 hb e1 v1 r1=>?_⟩
 refine⟨σ,M1,_,hs.ext e1,v1,hb,λry M2 y H2 hr e2 v2 r2=>?_⟩
 refine⟨rx,ry,M2,_,Rep.ext e2 rx x r1,r2,v2,hr,λrz M3 z H3 hz e3 v3 r3=>?_⟩
 cases rz with
 |bl k=>
  simp only[Rep]at r3;refine⟨k,r3,?_⟩;have e13:=(e1.trans e2).trans e3;cases k with
  |true=>
   refine qm ?_;refine⟨σ,M3,_,hs.ext e13,v3,hz.1 rfl,λrw M4 w H4 hw e4 v4 r4=>?_⟩
   exact⟨ry,rw,M4,Q,Rep.ext (e3.trans e4) ry y r2,r4,v4,hw,hk.ext (e13.trans e4)⟩
  |false=>exact qo (hk _ M3 _ H3 (hz.2 rfl) e13 v3 (by simp only[Rep]))
 |_=>exact hz.elim
theorem XF{op d:CmpOp}(k:cS X (compareOp op) rr)(e:cS X (compareOp d) rr')(f:ah X a ta)(g:ah X b tb)(i:ah X c tc)(j:lastMarks [op,d] [b,c]=false:=by with_unfolding_all rfl):
 ah X (.Compare a [op,d] [b,c] pos) (rG rr rr' ta tb tc):=PE.imp (T5 k e f g i j) λ_ _ _ h=>IL h
theorem Wb{op d:CmpOp}(l:cS X (compareOp op) rr)(e:cS X (compareOp d) rr')(f:ah X a ta)(g:ah X b tb)(i:ah X c tc)(k:lastMarks [op,d] [b,c]=false:=by with_unfolding_all rfl):
 dZ X (.Compare a [op,d] [b,c] pos) (mE (rG rr rr' ta tb tc)):=PT.imp (Ur l e f g i k) λσ0 H r h=>by
 obtain⟨o,M,Q,hs,n,m,j⟩:=h;exact IL ⟨o,M,_,hs,n,m,pN j⟩
def Nt(g:RV->RM->ao->Prop)(ta:aq):aq:=λσ M Q=>ta σ M λx M1=>g x M1 Q
def NC(K:ag)(g:RV->RM->ao->Prop):V->Hp->VK->Prop:=λx H e=>∃d M Q,Rep K H d x/\View K H M/\g d M Q/\iP K H Q e
theorem V8{K:ag}{g:RV->RM->ao->Prop}(h:up K (Nt g ta) σ0 H Q0):Ny (NC K g) (up K ta) σ0 H Q0:=by
 obtain⟨σ,M,Q,hs,hv,ht,hk⟩:=h;exact⟨σ,M,_,hs,hv,ht,λrx M1 x H1 hb e1 v1 r1=>⟨rx,M1,Q,r1,v1,hb,hk.ext e1⟩⟩
theorem run{op:UnaryOp}{g:RV->RM->ao->Prop}(e:CU X (unaryOp op) (NC X.K g))(d:ah X a ta):ah X (.UnaryOp op a pos) (Nt g ta):=PE.imp (ZN e d) λ_ _ _ h=>V8 h
def yT(t u:c7):c7:=λσ M Q=>t σ M λc M1=>(c=true->u σ M1 Q)/\(c=false->Q false M1)
def zj(t u:c7):c7:=λσ M Q=>t σ M λc M1=>(c=true->Q true M1)/\(c=false->u σ M1 Q)
def EN(t:c7):c7:=λσ M Q=>t σ M λc M1=>Q (!c) M1
theorem ZA(d:dZ X a tA):m7 X (.BoolOp .And [a] pos) tA:=VN d
theorem Qs(d:dZ X a tA):m7 X (.BoolOp .Or [a] pos) tA:=Xd d
theorem rand(l:dZ X a tA)(m:m7 X (.BoolOp .And (b::rest) pos) tB):m7 X (.BoolOp .And (a::b::rest) pos) (yT tA tB):=PW.imp (Xe l m) λσ0 H r h=>by
 obtain⟨f,M,Q,hs,o,n,d⟩:=h;refine⟨f,M,_,hs,o,n,λk M1 H1 q e1 e=>?_⟩
 cases k with
 |true=>exact qm ⟨f,M1,Q,hs.ext e1,e,q.1 rfl,λb i g z j w=>d b i g z (e1.trans j) w⟩
 |false=>exact qo (d false M1 H1 (q.2 rfl) e1 e)
theorem Nw(l:dZ X a tA)(m:m7 X (.BoolOp .Or (b::rest) pos) tB):m7 X (.BoolOp .Or (a::b::rest) pos) (zj tA tB):=PW.imp (ZH l m) λσ0 H r h=>by
 obtain⟨f,M,Q,hs,o,n,d⟩:=h;refine⟨f,M,_,hs,o,n,λk M1 H1 q e1 e=>?_⟩
 cases k with
 |true=>exact qm (d true M1 H1 (q.1 rfl) e1 e)
 |false=>exact qo ⟨f,M1,Q,hs.ext e1,e,q.2 rfl,λb i g z j w=>d b i g z (e1.trans j) w⟩
theorem zl(h:m7 X a tA):dZ X a tA:=PW.pt h
theorem Z6(d:dZ X a tA):dZ X (.UnaryOp .Not a pos) (EN tA):=PT.imp (Xg d) λσ0 H l h=>by
 obtain⟨j,M,Q,hs,g,f,e⟩:=h;exact⟨j,M,_,hs,g,f,λk M1 H1 q e1 i=>e (!k) M1 H1 q e1 i⟩
def yp(ta tb:aq):aq:=λσ M Q=>ta σ M λx M1=>match x with| .bl c=>(c=true->tb σ M1 Q)/\(c=false->Q (.bl false) M1)|_=>False
def yK(ta tb:aq):aq:=λσ M Q=>ta σ M λx M1=>match x with| .bl c=>(c=true->Q (.bl true) M1)/\(c=false->tb σ M1 Q)|_=>False
def LB(ta:aq):aq:=λσ M Q=>ta σ M λx M1=>match x with| .bl c=>Q (.bl (!c)) M1|_=>False
theorem EF{op}{t:aq}(h:ah X a t):ah X (.BoolOp op [a] pos) t:=W5 h
theorem LO(ha:ah X a ta)(hb:ah X (.BoolOp .And (b::rest) pos) tb):ah X (.BoolOp .And (a::b::rest) pos) (yp ta tb):=PE.imp (W9 ha hb) λσ0 H Q0 h=>by
 obtain⟨σ,M,Q,hs,hv,ht,hk⟩:=h;refine⟨σ,M,_,hs,hv,ht,λrx M1 x H1 q e1 v1 r1=>?_⟩
 cases rx with
 |bl k=>
  simp only[Rep]at r1;refine⟨k,r1,?_⟩;cases k with
  |true=>exact qm ⟨σ,M1,Q,hs.ext e1,v1,q.1 rfl,hk.ext e1⟩
  |false=>exact qo (hk _ M1 _ H1 (q.2 rfl) e1 v1 (by simp only[Rep]))
 |_=>exact q.elim
theorem EE(ha:ah X a ta)(hb:ah X (.BoolOp .Or (b::rest) pos) tb):ah X (.BoolOp .Or (a::b::rest) pos) (yK ta tb):=PE.imp (ZO ha hb) λσ0 H Q0 h=>by
 obtain⟨σ,M,Q,hs,hv,ht,hk⟩:=h;refine⟨σ,M,_,hs,hv,ht,λrx M1 x H1 q e1 v1 r1=>?_⟩
 cases rx with
 |bl k=>
  simp only[Rep]at r1;refine⟨k,r1,?_⟩;cases k with
  |true=>exact qm (hk _ M1 _ H1 (q.1 rfl) e1 v1 (by simp only[Rep]))
  |false=>exact qo ⟨σ,M1,Q,hs.ext e1,v1,q.2 rfl,hk.ext e1⟩
 |_=>exact q.elim
theorem Z9(ha:ah X a ta):ah X (.UnaryOp .Not a pos) (LB ta):=PE.imp (W6 ha) λσ0 H Q0 h=>by
 obtain⟨σ,M,Q,hs,hv,ht,hk⟩:=h;refine⟨σ,M,_,hs,hv,ht,λrx M1 x H1 q e1 v1 r1=>?_⟩
 cases rx with
 |bl k=>simp only[Rep]at r1;exact⟨k,r1,hk _ M1 _ H1 q e1 v1 (by simp only[Rep])⟩
 |_=>exact q.elim
def zi(t:c7)(ta tb:aq):aq:=λσ M Q=>t σ M λc M1=>(c=true->ta σ M1 Q)/\(c=false->tb σ M1 Q)
theorem rif(j:dZ X c tA)(g:ah X a ta)(i:ah X b tb):ah X (.IfExp c a b pos) (zi tA ta tb):=PE.imp (T1 j g i) λσ0 H n h=>by
 obtain⟨d,M,Q,hs,m,l,e⟩:=h;refine⟨d,M,_,hs,m,l,λk M1 H1 q e1 f=>?_⟩
 cases k with
 |true=>exact qm ⟨d,M1,Q,hs.ext e1,f,q.1 rfl,e.ext e1⟩
 |false=>exact qo ⟨d,M1,Q,hs.ext e1,f,q.2 rfl,e.ext e1⟩
variable {e:Expr}{es:aS}{te:aq}{t:bD}
def mK:bD:=λ_ M Q=>Q [] M
def rO(ta:aq)(tr:bD):bD:=λσ M Q=>ta σ M λx M1=>tr σ M1 λxs M2=>Q (x::xs) M2
theorem B9:eI X [] mK:=PA.imp Xa λσ0 H i h=>by
 obtain⟨j,M,Q,hs,g,f,d⟩:=h;exact d [] M [] H f (.refl H) g aa.nil
theorem yt(ha:ah X e te)(hr:eI X es t)(hs:starEach (e::es) X.env=(false,eval e X.env)::starEach es X.env:=by rfl):eI X (e::es) (rO te t):=PA.imp (Vy ha hr hs) λσ0 H Q0 h=>by
 obtain⟨σ,M,Q,hs,hv,ht,hk⟩:=h;refine⟨σ,M,_,hs,hv,ht,λrx M1 x H1 q e1 v1 r1=>?_⟩
 refine⟨σ,M1,_,hs.ext e1,v1,q,λrs M2 vs H2 q2 e2 v2 r2=>?_⟩
 exact hk (rx::rs) M2 (x::vs) H2 q2 (e1.trans e2) v2 (aa.cons (Rep.ext e2 rx x r1) r2)
def EG(t:bD):aq:=λσ M Q=>t σ M λrs M1=>rs.length<=sizeLine/\Q (.tup rs) M1
theorem rf{K:ag}{p:Addr}{rs:LR}{vs:LV}(h:H p=none)(r:aa K H rs vs):Rep K (upd H p (.tup vs)) (.tup rs) (.ref p):=by
 simp only[Rep];exact⟨p,vs,rfl,c6,aa.ext (Ext.new h) rs vs r⟩
theorem ji{K:ag}{p:Addr}{rs:LR}{vs:LV}(h:H p=none)(r:aa K H rs vs):Rep K (upd H p (.aZ o (.lst vs))) (.ls rs) (.ref p):=by
 simp only[Rep];exact⟨p,vs,rfl,.inl ⟨o,c6⟩,aa.ext (Ext.new h) rs vs r⟩
theorem Qp{x1}(h:eI X es t):ah X (.Tuple es x1 pos) (EG t):=PE.imp (W4 h) λσ0 H l h=>by
 obtain⟨k,M,Q,hs,i,g,f⟩:=h;refine⟨k,M,_,hs,i,g,λrs M1 vs H1 q e1 j r1=>⟨by rw[<-r1.length];exact q.1,λp d=>?_⟩⟩
 exact f _ M1 _ _ q.2 (e1.trans (Ext.new d)) (j.new d) (rf d r1)
def EU(t:bD):aq:=λσ M Q=>t σ M λrs M1=>rs.length<=sizeLine/\∀p,M1 p=none->Q (.ref p) (put M1 p (.lst rs))
theorem Qt(h:eI X es t):ah X (.List es pos) (EU t):=PE.imp (La h) λσ0 H l h=>by
 obtain⟨k,M,Q,hs,j,i,g⟩:=h;refine⟨k,M,_,hs,j,i,λrs M1 vs H1 q e1 f r1=>⟨by rw[<-r1.length];exact q.1,λp d=>?_⟩⟩
 exact g _ _ _ _ (q.2 p (f.free d)) (e1.trans (Ext.new d)) (f.cq d ⟨vs,rfl,aa.ext (Ext.new d) rs vs r1⟩) (by simp only[Rep])
end
section
variable {X:Cx}{pins:aF}{σ:L2.St}{H:Hp}{s:Shared}
theorem freeze{p:Addr}(I:Inv X pins σ H s)(h:H p=some (.lst xs)):∃o,Inv X pins σ (upd H p (.aZ o (.lst xs))) s:=by
 have m:xs.length<=sizeLine/\∃(ab:ak) (n:Nat),Vals xs ab/\s.heap.get? p=some { cls:=.type "list",data:=.seq ab.toArray n }:=I.av p _ h;obtain⟨z,ab,n,r,e⟩:=id m;have d:∀b,H b=none->b≠p:=λb q w=>by subst w;rw[h]at q;cases q
 refine⟨{ cls:=.type "list",data:=.seq ab.toArray n },⟨I.ok,I.os,I.bare,⟨I.base.keep,I.base.slot,λb o q w x=>?_,I.base.there,λb f q=>?_,λb o u q=>?_,λb t q=>?_⟩,I.loc,I.cell,?_,λx c q=>?_,λq l=>?_,λb u q=>?_,I.len⟩⟩
 . have:=I.base.free b o q w x
   rw[aD (d b this)];exact this
 . have e1:=I.base.bh b f q
   rw[aD (jm e1 h (by intro z;cases z))];exact e1
 . have e1:=I.base.aJ b o u q
   rw[aD (jm e1 h (by intro z;cases z))];exact e1
 . obtain⟨a,e1⟩:=I.base.eG b t q
   exact⟨a,by rw[aD (jm e1 h (by intro z;cases z))];exact e1⟩
 . rw[aD (d _ I.free)];exact I.free
 . have:=I.bO x c q
   rw[aD (d _ this)];exact this
 . obtain⟨j,g,k⟩:=I.pin q l
   exact⟨j,by rw[aD (d _ g)];exact g,k⟩
 . by_cases i:b=p
   . subst i
     rw[c6]at q;cases q;exact⟨e,z,ab,n,r,e⟩
   . rw[aD i]at q
     refine(I.av b u q).eF (λ_ _ _ q=>q) (λc q=>?_) λc v q=>?_
     . rw[aD (jm q h (by intro z;cases z))];exact q
     . rw[aD (jm q h (by intro z;cases z))];exact q
theorem frozen(h:EP X pins σ (λv a=>∃H1 p xs,v= .ref p/\H1 p=none/\a=upd H1 p (.lst xs)/\∀o,Q (.ref p) (upd H1 p (.aZ o (.lst xs)))) u s):EP X pins σ Q u s:=by
 obtain⟨v,a,I,r,H1,p,xs,rfl,c,rfl,q⟩:=h;obtain⟨o,b⟩:=freeze I (p:=p) (xs:=xs) c6;rw[JD]at b;exact⟨.ref p,_,b,r,q o⟩
end
section
variable {X:Cx}{es:aS}{t:bD}{pos:Pos}
def EV(t:bD):aq:=λσ M Q=>t σ M λrs M1=>rs.length<=sizeLine/\Q (.ls rs) M1
theorem Qu(h:eI X es t):ah X (.List es pos) (EV t):=λpins s σ0 H Q0 I hw=>by
 obtain⟨σ,M,Q,hs,hv,ht,hk⟩:=hw;refine ay (La h pins s σ0 H (λv H'=>∃H1 p xs,v= .ref p/\H1 p=none/\H'=upd H1 p (.lst xs)/\∀o,Q0 (.ref p) (upd H1 p (.aZ o (.lst xs)))) I ?_) λ_ _ e=>frozen e
 refine⟨σ,M,_,hs,hv,ht,λrs M1 vs H1 q e1 v1 r1=>⟨by rw[<-r1.length];exact q.1,λp hp=>⟨H1,p,vs,rfl,hp,rfl,λo=>?_⟩⟩⟩
 exact hk _ M1 _ _ q.2 (e1.trans (Ext.new hp)) (v1.new hp) (ji hp r1)
end
section
variable {X:Cx}{st:Stmt}{rest:List Stmt}{t u:cU}{e:Expr}{te:aq}{pos:Pos}
def LC:cU:=λD a M=>D.nx a M
def EI(t u:cU):cU:=λD a M=>t { D with nx:=u D } a M
theorem O5:ju X [] LC:=fN.imp VO λD0 a H h=>by
 obtain⟨f,M,D,hs,d,c,b⟩:=h;exact b.nx f M a H c (.refl H) d hs
theorem ZS(h1:eJ X st t)(h2:ju X rest u):ju X (st::rest) (EI t u):=fN.imp (Us h1 h2) λD0 σ0 H h=>by
 obtain⟨σ,M,D,hs,hv,ht,hd⟩:=h;refine⟨σ,M,_,hs,hv,ht,⟨λσ' M' σ0' H' q e w r=>?_,hd.rt,hd.bk,hd.ct⟩⟩
 exact⟨σ',M',D,r,w,q,hd.ext e⟩
def LI(te:aq):cU:=λD a M=>te a M λ_ M1=>D.nx a M1
theorem ZR(d:ah X e te)(hs:swapsWith e none pos.line X.env=pure false:=by rfl):eJ X (.Expr e pos) (LI te):=PS.imp (VQ d hs) λD0 a H h=>by
 obtain⟨b,M,D,hs,g,f,c⟩:=h;exact⟨b,M,_,hs,g,f,λrx M1 x H1 q e1 i r1=>c.nx b M1 a H1 q e1 i (hs.ext e1)⟩
def EJ(te:aq):cU:=λD a M=>te a M D.rt
theorem Pq(b:ah X e te):eJ X (.Return (some e) pos) (EJ te):=PS.imp (Xj b) λD0 g H h=>by
 obtain⟨f,M,D,hs,d,c,a⟩:=h;exact⟨f,M,_,hs,d,c,a.rt⟩
def Ly:cU:=λD _ M=>D.rt .au M
theorem Y0:eJ X (.Return none pos) Ly:=PS.imp VP λD0 d H h=>by
 obtain⟨f,M,D,hs,c,b,a⟩:=h;exact a.rt .au M .au H b (.refl H) c (by simp only[Rep])
def yQ(c:c7)(t u:cU):cU:=λD a M=>c a M λb M1=>(b=true->t D a M1)/\(b=false->u D a M1)
theorem sif{a b:List Stmt}(l:dZ X c tc)(i:ju X a t)(j:ju X b u):eJ X (.If c a b pos) (yQ tc t u):=PS.imp (ZJ l i j) λD0 o H h=>by
 obtain⟨d,M,D,hs,n,m,f⟩:=h;refine⟨d,M,_,hs,n,m,λk M1 H1 q e1 g=>?_⟩
 cases k with
 |true=>exact qm ⟨d,M1,D,hs.ext e1,g,q.1 rfl,f.ext e1⟩
 |false=>exact qo ⟨d,M1,D,hs.ext e1,g,q.2 rfl,f.ext e1⟩
def vB(i:Nat)(te:aq):cU:=λD a M=>te a M λx M1=>D.nx (a.set i (some x)) M1
theorem sset(i){x:Str}(c:ah X e te)(a:X.N.Nodup)(hi:X.N[i]? =some x:=by rfl)(hx:Loc X.env.scope x)(hs:swapsWith e (some (.Name x pos')) pos.line X.env=pure false:=by rfl)
 (d:X.fn x=true∨X.env.scope.names.lookup x=some .local):eJ X (.Assign [.Name x pos'] e pos) (vB i te):=PS.imp (Xi a hi hx c hs d) λD0 l H h=>by
 obtain⟨k,M,D,hs,g,f,b⟩:=h;exact⟨k,M,_,hs,g,f,λrx M1 x H1 q e1 j r1=>b.nx _ M1 _ H1 q e1 j ((hs.ext e1).set r1 i)⟩
abbrev iN:=RV->bb->RM->(bb->RM->Prop)->Prop
def upG(K:ag)(g:iN):TG:=λv a H c=>∃rv b M Q,Rep K H rv v/\aN K H b a/\View K H M/\g rv b M Q/\ot K H Q c
def jZ(X:Cx)(a:Expr)(g:iN):Prop:=PG X a (upG X.K g)
theorem PG.imp{tg:Expr}{t t':TG}(h:PG X tg t)(i:∀v σ H Q,t' v σ H Q->t v σ H Q):PG X tg t':=λpins s σ H v u Q I r w=>h pins s σ H v u Q I r (i v σ H Q w)
def i7(i:Nat):iN:=λx a M Q=>Q (a.set i (some x)) M
theorem qyw(i){x:Str}(a:X.N.Nodup)(hi:X.N[i]? =some x:=by rfl)(hx:Loc X.env.scope x)
 (b:X.fn x=true∨X.env.scope.names.lookup x=some .local):jZ X (.Name x pos) (i7 i):=PG.imp (uQ a hi hx b) λv j H k h=>by
 obtain⟨rv,l,M,Q,f,hs,g,c,d⟩:=h;exact d _ M _ H c (.refl H) g (hs.set f i)
def rD:bb->List Nat->LR->bb
 |σ,i::is,x::xs=>rD (σ.set i (some x)) is xs
 |σ,_,_=>σ
def jP:List Nat->m8
 | []=>Gu
 |i::is=>LP (yz i) (jP is)
theorem AO{K:ag}:∀{is:List Nat} {rs:LR} {vs:LV} {σ:bb} {σ0:L2.St},rs.length=is.length->aa K H rs vs->aN K H σ σ0->
 (∀a,aN K H (rD σ is rs) a->Q0 a H)->jP is vs σ0 H Q0
 | [],[],vs,σ,σ0,_,r,hs,k=>by
  simp only[aa]at r;exact⟨r,k σ0 hs⟩
 |i::is,x::rs,vs,σ,σ0,hl,r,hs,k=>by
  simp only[aa]at r;obtain⟨v,b,rfl,c,d⟩:=r;refine⟨v,b,rfl,?_⟩;show jP is b (σ0.set i (some v)) H Q0;exact AO (σ:=σ.set i (some x)) (by simpa using hl) d (hs.set c i) k
def vM(is:List Nat):iN:=λx a M Q=>match x with| .tup xs=>xs.length=is.length/\Q (rD a is xs) M|_=>False
theorem Pz{is:List Nat}{n:Nat}(hc:X.calm=true)(h:m6 X es (jP is))(hl:n=is.length:=by rfl)
 (hn:(assignEach es X.env).length=n:=by rfl) (hst:(assignEach es X.env).findIdx? (·.1)=none:=by rfl):jZ X (.Tuple es k pos) (vM is):=PG.imp (yn hc h hn hst) λv σ0 H Q0 h=>by
 obtain⟨rv,σ,M,Q,hr,hs,hv,hg,hk⟩:=h;cases rv with
 |tup xs=>
  simp only[Rep]at hr;obtain⟨a,vs,rfl,h1,h2⟩:=hr;exact⟨a,vs,rfl,bI.of h1,by rw[<-h2.length,hl];exact hg.1,AO hg.1 h2 hs λσ0' q=>hk _ M σ0' H hg.2 (.refl H) hv q⟩
 |_=>exact hg.elim
def yR(te:aq)(g:iN):cU:=λD a M=>te a M λx M1=>g x a M1 D.nx
theorem B5{tg e:Expr}{g:iN}{pos:Pos}(he:ah X e te)(hg:jZ X tg g)(hs:swapsWithSole [tg] e pos.line X.env=pure false:=by rfl)(hw:swappedStores [tg] e X.env=pure none:=by rfl)
 (h1:(assignEach [tg] X.env).map (·.2)= [assign tg X.env]:=by rfl):eJ X (.Assign [tg] e pos) (yR te g):=PS.imp (Xn he hg hs hw h1) λD0 σ0 H h=>by
 obtain⟨σ,M,D,hs,hv,ht,hd⟩:=h;exact⟨σ,M,_,hs,hv,ht,λrx M1 x H1 q e1 v1 r1=>⟨rx,σ,M1,D.nx,r1,hs.ext e1,v1,q,hd.nx.ext e1⟩⟩
abbrev yx:=RV->RV->RV->RM->(RM->Prop)->Prop
noncomputable def Lq (K:ag)(g:yx):ze:=λo i v H d=>∃ro ri c M Q,Rep K H ro o/\Rep K H ri i/\Rep K H c v/\View K H M/\g ro ri c M Q/\∀b a,Q b->Ext H a->View K a b->d a
def LM(to ti:aq)(g:yx):iN:=λv σ M Q=>to σ M λo M1=>ti σ M1 λi M2=>g o i v M2 λM3=>Q σ M3
theorem PB{o i:Expr}{g:yx}(ho:ah X o to)(hi:ah X i ti)(hs:zf X (Lq X.K g))
 (ha:∀v,assign (.Subscript o i pos) X.env v=(do
  let ov<-holding [v] (eval o X.env)
  let iv<-holding [v,ov] (eval i X.env)
  standAt pos
  holding [v,ov,iv] (setItem ov iv v)
  release [v,ov,iv] []):=by intro _;rfl):jZ X (.Subscript o i pos) (LM to ti g):=PG.imp (W2 ho hi hs ha) λv σ0 H Q0 h=>by
 obtain⟨rv,σ,M,Q,hr,hs,hv,hg,hk⟩:=h;refine⟨σ,M,_,hs,hv,hg,λro M1 o H1 q e1 v1 r1=>?_⟩
 refine⟨σ,M1,_,hs.ext e1,v1,q,λri M2 i H2 q2 e2 v2 r2=>?_⟩
 refine⟨ro,ri,rv,M2,_,Rep.ext e2 ro o r1,r2,Rep.ext (e1.trans e2) rv v hr,v2,q2,λM3 H3 q3 e3 v3=>?_⟩
 have e:=(e1.trans e2).trans e3;exact hk σ M3 σ0 H3 q3 e v3 (hs.ext e)
noncomputable def i6 (g:iN)(tb:cU)(D:RD)(ok:RM->Prop)(un:RM->RM):LR->bb->RM->Prop
 | [],σ,M=>ok M/\D.nx σ (un M)
 |x::r,σ,M=>ok M/\g x σ M λσ2 M2=>tb { D with nx:=i6 g tb D ok un r,ct:=i6 g tb D ok un r,bk:=λσ M=>ok M/\D.nx σ (un M),rt:=λv M=>ok M/\D.rt v (un M) } σ2 M2
end
open PySem.SeqAt (EqAt RcAt RcNeAt)
mutual
def aY:RV->RV->Bool
 | .au,.au=>true
 | .bl a,.bl b=>a==b
 | .bl a,.int b=>(if a then 1 else 0)==b
 | .int a,.bl b=>a==(if b then 1 else 0)
 | .int a,.int b=>a==b
 | .str a,.str b=>a==b
 | .tup xs,.tup ys=>eV xs ys
 | .ls xs,.ls ys=>eV xs ys
 |_,_=>false
def eV:LR->LR->Bool
 | [],[]=>true
 |x::xs,y::ys=>aY x y&&eV xs ys
 |_,_=>false
end
noncomputable def aB:Nat->RV->Bool
 |_,.au=>true
 |_,.bl _=>true
 |_,.int _=>true
 |_,.str _=>true
 |n+1,.tup xs=>xs.all (aB n)
 |n+1,.ls xs=>xs.all (aB n)
 |_,_=>false
mutual
def Den(h:Heap):RV->Value->Prop
 | .au,u=>u= .none
 | .bl b,u=>u= .bool b
 | .int i,u=>∃t,u= .int i t
 | .str x,u=>∃t,u= .str x t
 | .tup xs,u=>∃a ab,u= .ref a/\h.IsTuple a ab.toArray/\az h xs ab
 | .ls xs,u=>∃a ab,u= .ref a/\h.IsList a ab.toArray/\az h xs ab
 | .ref _,_=>False
 | .ty _,_=>False
def az(h:Heap):LR->ak->Prop
 | [],us=>us= []
 |x::xs,us=>∃u r,us=u::r/\Den h x u/\az h xs r
end
theorem az.length:∀{xs:LR} {us:ak},az h xs us->xs.length=us.length
 | [],us,d=>by simp only[az]at d;subst d;rfl
 |x::xs,us,d=>by
  simp only[az]at d;obtain⟨u,r,rfl,_,t⟩:=d;simp[az.length t]
theorem az.get:∀{xs:LR} {us:ak} {j:Nat} {u:Value},az h xs us->us[j]? =some u->Den h (xs.getD j .au) u/\xs.getD j .au∈xs
 | [],us,_,_,d,e=>by simp only[az]at d;subst d;simp at e
 |x::xs,us,0,u,d,e=>by
  simp only[az]at d;obtain⟨v,r,rfl,c,_⟩:=d;simp at e;subst e;exact⟨by simpa using c,by simp⟩
 |x::xs,us,j+1,u,d,e=>by
  simp only[az]at d;obtain⟨v,r,rfl,_,t⟩:=d;obtain⟨a,b⟩:=az.get (j:=j) t (by simpa using e)
  exact⟨by simpa using a,by simp only[List.getD_cons_succ];exact gw _ b⟩
section
variable {X:Cx}{pins:aF}{σ:L2.St}{H:Hp}{s:Shared}
theorem Vals.cons_inv{v:V}{vs:LV}{us:ak}(r:Vals (v::vs) us):∃u c,us=u::c/\RelV v u/\Vals vs c:=by
 cases r with
 |cons a b=>exact⟨_,_,rfl,a,b⟩
theorem iA(I:Inv X pins σ H s):∀n,(∀r v u,aB n r=true->Rep X.K H r v->RelV v u->Den s.heap r u):=by
 intro n
 induction n with
 |zero=>
  intro r v u o h w;cases r with
  |au=>simp only[Rep]at h;subst h;simp only[Den];exact w
  |bl b=>simp only[Rep]at h;subst h;simp only[Den];exact w
  |int i=>simp only[Rep]at h;subst h;simp only[Den];exact w
  |str x=>simp only[Rep]at h;subst h;simp only[Den];exact w
  |_=>simp[aB]at o
 |succ n ih=>
  have all:∀rs vs us,rs.all (aB n)=true->aa X.K H rs vs->Vals vs us->az s.heap rs us:=by
   intro rs
   induction rs with
   |nil=>
    intro vs us _ h w;simp only[aa]at h;subst h;cases w;simp only[az]
   |cons x xs ihx=>
    intro vs us o h w;simp only[aa]at h;obtain⟨v,r,rfl,c,d⟩:=h;obtain⟨u,e,rfl,g,j⟩:=Vals.cons_inv w;rw[d9,aU]at o;simp only[az];exact⟨u,e,rfl,ih x v u o.1 c g,ihx r e o.2 d j⟩
  intro r v u o h w;cases r with
  |au=>simp only[Rep]at h;subst h;simp only[Den];exact w
  |bl b=>simp only[Rep]at h;subst h;simp only[Den];exact w
  |int i=>simp only[Rep]at h;subst h;simp only[Den];exact w
  |str x=>simp only[Rep]at h;subst h;simp only[Den];exact w
  |tup xs=>
   simp only[Rep]at h;obtain⟨a,vs,rfl,c,d⟩:=h;obtain⟨ab,rv,f,_⟩:=I.tuple (bI.of c);simp only[Den];exact⟨a,ab,w,f,all xs vs ab o d rv⟩
  |ls xs=>
   simp only[Rep]at h;obtain⟨a,vs,rfl,c,d⟩:=h;obtain⟨ab,rv,f,_⟩:=I.list c.sq;simp only[Den];exact⟨a,ab,w,f.isList,all xs vs ab o d rv⟩
  |_=>simp[aB]at o
end
theorem JH{h:Heap}{a:Addr}{xs f:ak}(p:h.IsTuple a xs.toArray)(q:h.IsTuple a f.toArray):xs=f:=by
 obtain⟨o,e,_,n,d⟩:=p;obtain⟨i,c,_,g,b⟩:=q;rw[e]at c;cases c;rw[d]at b;injection b with d1 _
 simpa using congrArg Array.toList d1
theorem JS{h:Heap}{a:Addr}{xs f:ak}(p:h.IsList a xs.toArray)(q:h.IsList a f.toArray):xs=f:=by
 obtain⟨o,e,_,n,d⟩:=p;obtain⟨i,c,_,g,b⟩:=q;rw[e]at c;cases c;rw[d]at b;injection b with d1 _
 simpa using congrArg Array.toList d1
theorem Ja{h:Heap}{a:Addr}(p:h.IsList a xs)(q:h.IsTuple a ys):False:=by
 obtain⟨o,e,c,_⟩:=p;obtain⟨f,d,b,_⟩:=q;rw[e]at d;cases d;rw[c]at b;exact ba b (by decide+kernel)
def pd:RV->Bool
 | .au=>true
 | .bl _=>true
 | .int _=>true
 | .str _=>true
 |_=>false
def GC:Value->Option RV
 | .none=>some .au
 | .bool b=>some (.bl b)
 | .int i _=>some (.int i)
 | .str x _=>some (.str x)
 |_=>none
theorem Mj:∀{x:RV},pd x=true->Den h x u->GC u=some x
 | .au,_,d=>by simp only[Den]at d;subst d;rfl
 | .bl _,_,d=>by simp only[Den]at d;subst d;rfl
 | .int _,_,d=>by simp only[Den]at d;obtain⟨t,rfl⟩:=d;rfl
 | .str _,_,d=>by simp only[Den]at d;obtain⟨t,rfl⟩:=d;rfl
theorem qyG:∀{x:RV},pd x=false->Den h x u->GC u=none
 | .tup _,_,d=>by simp only[Den]at d;obtain⟨a,ab,rfl,_⟩:=d;rfl
 | .ls _,_,d=>by simp only[Den]at d;obtain⟨a,ab,rfl,_⟩:=d;rfl
 | .ref _,_,d=>by simp only[Den]at d
 | .ty _,_,d=>by simp only[Den]at d
theorem AR:∀n x y u,aB n x=true->aB n y=true->Den h x u->Den h y u->x=y:=by
 intro n;have sc:∀x y u,pd x=true->Den h x u->Den h y u->x=y:=by
  intro x y u sx f b;have ex:=Mj sx f;cases sy:pd y with
  |true=>
   have o:=Mj sy b;rw[ex]at o;exact dH o
  |false=>
   have o:=qyG sy b;rw[ex]at o;cases o
 induction n with
 |zero=>
  intro x y u j k f b;have sx:pd x=true:=by cases x<;>first|rfl|(simp[aB]at j)
  exact sc x y u sx f b
 |succ n ih=>
  have all:∀i c us,i.all (aB n)=true->c.all (aB n)=true->az h i us->az h c us->i=c:=by
   intro i
   induction i with
   |nil=>
    intro c us _ _ d e;simp only[az]at d;subst d;cases c with
    |nil=>rfl
    |cons y c=>simp only[az]at e;obtain⟨_,_,z,_⟩:=e;cases z
   |cons x i ihx=>
    intro c us j k d e;simp only[az]at d;obtain⟨u,r,rfl,d1,t⟩:=d;cases c with
    |nil=>simp only[az]at e;cases e
    |cons y c=>
     simp only[az]at e;obtain⟨A,w,z,e1,v⟩:=e;cases z;rw[d9,aU]at j k;rw[ih x y u j.1 k.1 d1 e1,ihx c r j.2 k.2 t v]
  intro x y u j k f b;cases sx:pd x with
  |true=>exact sc x y u sx f b
  |false=>
   cases sy:pd y with
   |true=>exact(sc y x u sy b f).symm
   |false=>
    cases x with
    |tup i=>
     simp only[Den]at f;obtain⟨a,ab,rfl,p,d⟩:=f;cases y with
     |tup c=>
      simp only[Den]at b;obtain⟨s,g,z,l,m⟩:=b;cases z;obtain rfl:=JH p l;rw[all i c ab j k d m]
     |ls c=>
      simp only[Den]at b;obtain⟨s,g,z,l,m⟩:=b;cases z;exact(Ja l p).elim
     |ref _=>simp only[Den]at b
     |ty _=>simp only[Den]at b
     |_=>cases sy
    |ls i=>
     simp only[Den]at f;obtain⟨a,ab,rfl,p,d⟩:=f;cases y with
     |ls c=>
      simp only[Den]at b;obtain⟨s,g,z,l,m⟩:=b;cases z;obtain rfl:=JS p l;rw[all i c ab j k d m]
     |tup c=>
      simp only[Den]at b;obtain⟨s,g,z,l,m⟩:=b;cases z;exact(Ja p l).elim
     |ref _=>simp only[Den]at b
     |ty _=>simp only[Den]at b
     |_=>cases sy
    |ref _=>simp only[Den]at f
    |ty _=>simp only[Den]at f
    |_=>cases sx
mutual
theorem pI:∀(x:RV),(∃n,aB n x=true)->aY x x=true
 | .au,_=>by simp[aY]
 | .bl _,_=>by simp[aY]
 | .int _,_=>by simp[aY]
 | .str _,_=>by simp[aY]
 | .tup xs,⟨n,o⟩=>by
  rw[aY];refine An xs ?_;cases n with
  |zero=>simp[aB]at o
  |succ n=>exact⟨n,o⟩
 | .ls xs,⟨n,o⟩=>by
  rw[aY];refine An xs ?_;cases n with
  |zero=>simp[aB]at o
  |succ n=>exact⟨n,o⟩
 | .ref _,⟨n,o⟩=>by cases n<;>simp[aB]at o
 | .ty _,⟨n,o⟩=>by cases n<;>simp[aB]at o
theorem An:∀(xs:LR),(∃n,xs.all (aB n)=true)->eV xs xs=true
 | [],_=>by simp[eV]
 |x::xs,⟨n,o⟩=>by
  rw[d9,aU]at o;rw[eV,pI x ⟨n,o.1⟩,An xs ⟨n,o.2⟩];rfl
end
abbrev qa(xs a:LR)(j:Nat):Bool:=aY (xs.getD j .au) (a.getD j .au)
theorem rA:∀a b:LR,((List.range (min a.length b.length)).all (qa a b)&&a.length==b.length)=eV a b
 | [],[]=>by simp[eV]
 | [],_::_=>by simp[eV]
 |_::_,[]=>by simp[eV]
 |x::a,y::b=>by
  have e:=rA a b;have e1:min (x::a).length (y::b).length=min a.length b.length+1:=by simp only[bG];omega
  have c:((x::a).length==(y::b).length)=(a.length==b.length):=by simp
  have d:(List.range (min a.length b.length+1)).all (qa (x::a) (y::b))=(aY x y&&(List.range (min a.length b.length)).all (qa a b)):=by
   rw[List.range_succ_eq_map,d9,List.all_map];rfl
  rw[e1,c,d,eV,<-e,Bool.and_assoc]
theorem Au{xs a:LR}(h:xs.length=a.length):(List.range xs.length).all (qa xs a)=eV xs a:=by
 have:=rA xs a;rw[<-h,Nat.min_self]at this;simpa using this
theorem Am{xs a:LR}(h:xs.length≠a.length):eV xs a=false:=by
 have:=rA xs a;rw[<-this];simp[h]
theorem in1_units(A:Around):A.in1.units=A.units+1:=rfl
theorem AN:∀(n:Nat) (x y:RV) (A:Around) (s:Shared) (u w:Value),aB n x=true->aB n y=true->Den s.heap x u->Den s.heap y w->A.units+n<cLine->EqAt A s u w (aY x y):=by
 intro n
 induction n with
 |zero=>
  intro x y A s u w ox oy dx dy hu;cases x<;>cases y<;>first|(simp only[Den]at dx;done)|(simp only[Den]at dy;done)|(simp[aB]at ox;done)|(simp[aB]at oy;done)|(simp only[Den]at dx dy;(first|subst dx|obtain⟨t1,rfl⟩:=dx|obtain⟨a1,its1,rfl,p1,d1⟩:=dx);(first|subst dy|obtain⟨t2,rfl⟩:=dy|obtain⟨a2,its2,rfl,p2,d2⟩:=dy);first|(simp only[aY,Bool.not_false,Bool.not_true];with_reducible first|exact EqAt.same _|exact EqAt.none_bool _|exact EqAt.none_int _ _|exact EqAt.none_str _ _|exact EqAt.bool_none _|exact EqAt.bool_bool _ _|exact EqAt.bool_int _ _ _|exact EqAt.bool_str _ _ _|exact EqAt.int_none _ _|exact EqAt.int_bool _ _ _|exact EqAt.int_int _ _ _ _|exact EqAt.int_str _ _ _ _|exact EqAt.str_none _ _|exact EqAt.str_bool _ _ _|exact EqAt.str_int _ _ _ _|exact EqAt.str_str _ _ _ _))
 |succ n ih=>
  intro x y A s u w ox oy dx dy hu;have hu0:A.units<cLine:=by omega
  have item:∀(xs ys:LR) (us ws:ak),xs.all (aB n)=true->ys.all (aB n)=true->az s.heap xs us->az s.heap ys ws->
   ∀j (j1:j<us.toArray.size) (j2:j<ws.toArray.size),EqAt A.in1 s us.toArray[j] ws.toArray[j] (qa xs ys j):=λxs ys us ws o1 o2 d1 d2 j j1 j2=>by
   obtain⟨a1,b1⟩:=d1.get (j:=j) (u:=us.toArray[j]) (by simp)
   obtain⟨a2,b2⟩:=d2.get (j:=j) (u:=ws.toArray[j]) (by simp)
   exact ih _ _ A.in1 s _ _ (ff.mp o1 _ b1) (ff.mp o2 _ b2) a1 a2 (by rw[in1_units];omega)
  have same_EqAt_tup:∀(xs ys:LR) (a a':Addr) (ab its':ak),s.heap.IsTuple a ab.toArray->s.heap.IsTuple a' its'.toArray->az s.heap xs ab->az s.heap ys its'->aB (n+1) (.tup xs)=true->aB (n+1) (.tup ys)=true->EqAt A s (.ref a) (.ref a') (aY (RV.tup xs) (RV.tup ys)):=by
   intro xs ys a a' ab its' p p' d d' ox oy
   by_cases ha:a=a'
   . subst ha
     obtain rfl:=JH p p';have e:RV.tup xs=RV.tup ys:=AR (n+1) _ _ (.ref a) ox oy (by simp only[Den];exact⟨a,ab,rfl,p,d⟩) (by simp only[Den];exact⟨a,ab,rfl,p,d'⟩)
     rw[<-e,pI _ ⟨_,ox⟩];exact EqAt.same _
   refine EqAt.of_refs ha ?_;rw[aY,<-rA,d.length,d'.length];have:=RcAt.tuples p p' hu0 (item xs ys ab its' ox oy d d');simpa using this
  have same_EqAt_ls:∀(xs ys:LR) (a a':Addr) (ab its':ak),s.heap.IsList a ab.toArray->s.heap.IsList a' its'.toArray->az s.heap xs ab->az s.heap ys its'->aB (n+1) (.ls xs)=true->aB (n+1) (.ls ys)=true->EqAt A s (.ref a) (.ref a') (aY (RV.ls xs) (RV.ls ys)):=by
   intro xs ys a a' ab its' p p' d d' ox oy
   by_cases ha:a=a'
   . subst ha
     obtain rfl:=JS p p';have e:RV.ls xs=RV.ls ys:=AR (n+1) _ _ (.ref a) ox oy (by simp only[Den];exact⟨a,ab,rfl,p,d⟩) (by simp only[Den];exact⟨a,ab,rfl,p,d'⟩)
     rw[<-e,pI _ ⟨_,ox⟩];exact EqAt.same _
   refine EqAt.of_refs ha ?_;rw[aY]
   by_cases hz:xs.length=ys.length
   . rw[<-Au hz,d.length]
     have:=RcAt.lists p p' (by simp[<-d.length,<-d'.length,hz]) hu0 (item xs ys ab its' ox oy d d')
     simpa using this
   . rw[Am hz]
     exact RcAt.lists_lengths p p' (by simp[<-d.length,<-d'.length,hz]) hu0
  cases x<;>cases y<;>first|(simp only[Den]at dx;done)|(simp only[Den]at dy;done)|(simp only[Den]at dx dy;(first|subst dx|obtain⟨t1,rfl⟩:=dx|obtain⟨a1,its1,rfl,p1,d1⟩:=dx);(first|subst dy|obtain⟨t2,rfl⟩:=dy|obtain⟨a2,its2,rfl,p2,d2⟩:=dy);first|with_reducible exact same_EqAt_tup _ _ _ _ _ _ p1 p2 d1 d2 ox oy|with_reducible exact same_EqAt_ls _ _ _ _ _ _ p1 p2 d1 d2 ox oy|(simp only[aY,Bool.not_false,Bool.not_true];with_reducible first|exact EqAt.same _|exact EqAt.none_bool _|exact EqAt.none_int _ _|exact EqAt.none_str _ _|exact EqAt.bool_none _|exact EqAt.bool_bool _ _|exact EqAt.bool_int _ _ _|exact EqAt.bool_str _ _ _|exact EqAt.int_none _ _|exact EqAt.int_bool _ _ _|exact EqAt.int_int _ _ _ _|exact EqAt.int_str _ _ _ _|exact EqAt.str_none _ _|exact EqAt.str_bool _ _ _|exact EqAt.str_int _ _ _ _|exact EqAt.str_str _ _ _ _|exact EqAt.tuple_none p1 hu0|exact EqAt.tuple_bool _ p1 hu0|exact EqAt.tuple_int _ _ p1 hu0|exact EqAt.tuple_str _ _ p1 hu0|exact EqAt.list_none p1 hu0|exact EqAt.list_bool _ p1 hu0|exact EqAt.list_int _ _ p1 hu0|exact EqAt.list_str _ _ p1 hu0|exact EqAt.none_tuple p2 hu0|exact EqAt.bool_tuple _ p2 hu0|exact EqAt.int_tuple _ _ p2 hu0|exact EqAt.str_tuple _ _ p2 hu0|exact EqAt.none_list p2 hu0|exact EqAt.bool_list _ p2 hu0|exact EqAt.int_list _ _ p2 hu0|exact EqAt.str_list _ _ p2 hu0|exact EqAt.tuple_list p1 p2 hu0|exact EqAt.list_tuple p1 p2 hu0))
theorem Ik(n:Nat)(x y:RV)(A:Around)(s:Shared)(u w:Value)(ox:aB (n+1) x=true)(oy:aB (n+1) y=true)(dx:Den s.heap x u)(dy:Den s.heap y w)(hu:A.units+(n+1)<cLine):RcNeAt A s u w (!aY x y):=by
 have hu0:A.units<cLine:=by omega
 have item:∀(xs ys:LR) (us ws:ak),xs.all (aB n)=true->ys.all (aB n)=true->az s.heap xs us->az s.heap ys ws->
  ∀j (j1:j<us.toArray.size) (j2:j<ws.toArray.size),EqAt A.in1 s us.toArray[j] ws.toArray[j] (qa xs ys j):=λxs ys us ws o1 o2 d1 d2 j j1 j2=>by
  obtain⟨a1,b1⟩:=d1.get (j:=j) (u:=us.toArray[j]) (by simp)
  obtain⟨a2,b2⟩:=d2.get (j:=j) (u:=ws.toArray[j]) (by simp)
  exact AN n _ _ A.in1 s _ _ (ff.mp o1 _ b1) (ff.mp o2 _ b2) a1 a2 (by rw[in1_units];omega)
 have same_RcNeAt_tup:∀(xs ys:LR) (a a':Addr) (ab its':ak),s.heap.IsTuple a ab.toArray->s.heap.IsTuple a' its'.toArray->az s.heap xs ab->az s.heap ys its'->aB (n+1) (.tup xs)=true->aB (n+1) (.tup ys)=true->RcNeAt A s (.ref a) (.ref a') (!aY (RV.tup xs) (RV.tup ys)):=by
  intro xs ys a a' ab its' p p' d d' ox oy;rw[aY,<-rA,d.length,d'.length];have:=RcNeAt.tuples p p' hu0 (item xs ys ab its' ox oy d d');simpa using this
 have same_RcNeAt_ls:∀(xs ys:LR) (a a':Addr) (ab its':ak),s.heap.IsList a ab.toArray->s.heap.IsList a' its'.toArray->az s.heap xs ab->az s.heap ys its'->aB (n+1) (.ls xs)=true->aB (n+1) (.ls ys)=true->RcNeAt A s (.ref a) (.ref a') (!aY (RV.ls xs) (RV.ls ys)):=by
  intro xs ys a a' ab its' p p' d d' ox oy;rw[aY]
  by_cases hz:xs.length=ys.length
  . rw[<-Au hz,d.length]
    have:=RcNeAt.lists p p' (by simp[<-d.length,<-d'.length,hz]) hu0 (item xs ys ab its' ox oy d d')
    simpa using this
  . rw[Am hz]
    exact RcNeAt.lists_lengths p p' (by simp[<-d.length,<-d'.length,hz]) hu0
 cases x<;>cases y<;>first|(simp only[Den]at dx;done)|(simp only[Den]at dy;done)|(simp only[Den]at dx dy;(first|subst dx|obtain⟨t1,rfl⟩:=dx|obtain⟨a1,its1,rfl,p1,d1⟩:=dx);(first|subst dy|obtain⟨t2,rfl⟩:=dy|obtain⟨a2,its2,rfl,p2,d2⟩:=dy);first|with_reducible exact same_RcNeAt_tup _ _ _ _ _ _ p1 p2 d1 d2 ox oy|with_reducible exact same_RcNeAt_ls _ _ _ _ _ _ p1 p2 d1 d2 ox oy|(simp only[aY,Bool.not_false,Bool.not_true];with_reducible first|exact RcNeAt.none_none|exact RcNeAt.none_bool _|exact RcNeAt.none_int _ _|exact RcNeAt.none_str _ _|exact RcNeAt.bool_none _|exact RcNeAt.bool_bool _ _|exact RcNeAt.bool_int _ _ _|exact RcNeAt.bool_str _ _ _|exact RcNeAt.int_none _ _|exact RcNeAt.int_bool _ _ _|exact RcNeAt.int_int _ _ _ _|exact RcNeAt.int_str _ _ _ _|exact RcNeAt.str_none _ _|exact RcNeAt.str_bool _ _ _|exact RcNeAt.str_int _ _ _ _|exact RcNeAt.str_str _ _ _ _|exact RcNeAt.tuple_none p1 hu0|exact RcNeAt.tuple_bool _ p1 hu0|exact RcNeAt.tuple_int _ _ p1 hu0|exact RcNeAt.tuple_str _ _ p1 hu0|exact RcNeAt.list_none p1 hu0|exact RcNeAt.list_bool _ p1 hu0|exact RcNeAt.list_int _ _ p1 hu0|exact RcNeAt.list_str _ _ p1 hu0|exact RcNeAt.none_tuple p2 hu0|exact RcNeAt.bool_tuple _ p2 hu0|exact RcNeAt.int_tuple _ _ p2 hu0|exact RcNeAt.str_tuple _ _ p2 hu0|exact RcNeAt.none_list p2 hu0|exact RcNeAt.bool_list _ p2 hu0|exact RcNeAt.int_list _ _ p2 hu0|exact RcNeAt.str_list _ _ p2 hu0|exact RcNeAt.tuple_list p1 p2 hu0|exact RcNeAt.list_tuple p1 p2 hu0))
theorem Ug(n:Nat)(x y:RV)(A:Around)(s:Shared)(u w:Value)(ox:aB (n+1) x=true)(oy:aB (n+1) y=true)(dx:Den s.heap x u)(dy:Den s.heap y w)(hu:A.units+(n+1)<cLine):RcAt A s u w (aY x y):=by
 have hu0:A.units<cLine:=by omega
 have item:∀(xs ys:LR) (us ws:ak),xs.all (aB n)=true->ys.all (aB n)=true->az s.heap xs us->az s.heap ys ws->
  ∀j (j1:j<us.toArray.size) (j2:j<ws.toArray.size),EqAt A.in1 s us.toArray[j] ws.toArray[j] (qa xs ys j):=λxs ys us ws o1 o2 d1 d2 j j1 j2=>by
  obtain⟨a1,b1⟩:=d1.get (j:=j) (u:=us.toArray[j]) (by simp)
  obtain⟨a2,b2⟩:=d2.get (j:=j) (u:=ws.toArray[j]) (by simp)
  exact AN n _ _ A.in1 s _ _ (ff.mp o1 _ b1) (ff.mp o2 _ b2) a1 a2 (by rw[in1_units];omega)
 have same_RcAt_tup:∀(xs ys:LR) (a a':Addr) (ab its':ak),s.heap.IsTuple a ab.toArray->s.heap.IsTuple a' its'.toArray->az s.heap xs ab->az s.heap ys its'->aB (n+1) (.tup xs)=true->aB (n+1) (.tup ys)=true->RcAt A s (.ref a) (.ref a') (aY (RV.tup xs) (RV.tup ys)):=by
  intro xs ys a a' ab its' p p' d d' ox oy;rw[aY,<-rA,d.length,d'.length];have:=RcAt.tuples p p' hu0 (item xs ys ab its' ox oy d d');simpa using this
 have same_RcAt_ls:∀(xs ys:LR) (a a':Addr) (ab its':ak),s.heap.IsList a ab.toArray->s.heap.IsList a' its'.toArray->az s.heap xs ab->az s.heap ys its'->aB (n+1) (.ls xs)=true->aB (n+1) (.ls ys)=true->RcAt A s (.ref a) (.ref a') (aY (RV.ls xs) (RV.ls ys)):=by
  intro xs ys a a' ab its' p p' d d' ox oy;rw[aY]
  by_cases hz:xs.length=ys.length
  . rw[<-Au hz,d.length]
    have:=RcAt.lists p p' (by simp[<-d.length,<-d'.length,hz]) hu0 (item xs ys ab its' ox oy d d')
    simpa using this
  . rw[Am hz]
    exact RcAt.lists_lengths p p' (by simp[<-d.length,<-d'.length,hz]) hu0
 cases x<;>cases y<;>first|(simp only[Den]at dx;done)|(simp only[Den]at dy;done)|(simp only[Den]at dx dy;(first|subst dx|obtain⟨t1,rfl⟩:=dx|obtain⟨a1,its1,rfl,p1,d1⟩:=dx);(first|subst dy|obtain⟨t2,rfl⟩:=dy|obtain⟨a2,its2,rfl,p2,d2⟩:=dy);first|with_reducible exact same_RcAt_tup _ _ _ _ _ _ p1 p2 d1 d2 ox oy|with_reducible exact same_RcAt_ls _ _ _ _ _ _ p1 p2 d1 d2 ox oy|(simp only[aY,Bool.not_false,Bool.not_true];with_reducible first|exact RcAt.none_none|exact RcAt.none_bool _|exact RcAt.none_int _ _|exact RcAt.none_str _ _|exact RcAt.bool_none _|exact RcAt.bool_bool _ _|exact RcAt.bool_int _ _ _|exact RcAt.bool_str _ _ _|exact RcAt.int_none _ _|exact RcAt.int_bool _ _ _|exact RcAt.int_int _ _ _ _|exact RcAt.int_str _ _ _ _|exact RcAt.str_none _ _|exact RcAt.str_bool _ _ _|exact RcAt.str_int _ _ _ _|exact RcAt.str_str _ _ _ _|exact RcAt.tuple_none p1 hu0|exact RcAt.tuple_bool _ p1 hu0|exact RcAt.tuple_int _ _ p1 hu0|exact RcAt.tuple_str _ _ p1 hu0|exact RcAt.list_none p1 hu0|exact RcAt.list_bool _ p1 hu0|exact RcAt.list_int _ _ p1 hu0|exact RcAt.list_str _ _ p1 hu0|exact RcAt.none_tuple p2 hu0|exact RcAt.bool_tuple _ p2 hu0|exact RcAt.int_tuple _ _ p2 hu0|exact RcAt.str_tuple _ _ p2 hu0|exact RcAt.none_list p2 hu0|exact RcAt.bool_list _ p2 hu0|exact RcAt.int_list _ _ p2 hu0|exact RcAt.str_list _ _ p2 hu0|exact RcAt.tuple_list p1 p2 hu0|exact RcAt.list_tuple p1 p2 hu0))
section
variable {X:Cx}
theorem nT(h:dM X f r)(ri:∀(i j:Int) M Q (H:Hp) (c:VK),rr (.int i) (.int j) M Q->(∀z:RV,Q z M->∀v,Rep X.K H z v->c v H)->r (.int i) (.int j) H c)
 (no:∀x y M Q,rr x y M Q->∃i j,x= .int i/\y= .int j):cS X f rr:=by
 intro d s w H x y v u c I m n g;obtain⟨a,b,M,Q,ra,rb,l,e,k⟩:=g;obtain⟨i,j,rfl,rfl⟩:=no a b M Q e;simp only[Rep]at ra rb;subst ra;subst rb;exact h d s w H _ _ v u c I m n (ri i j M Q H c e λz q t o=>k z M t H q (.refl H) l o)
def vi(C:Int->Int->Prop)(g:Int->Int->RV):cx:=λx y M Q=>match x,y with| .int i,.int j=>C i j/\Q (g i j) M|_,_=>False
def p8(g:Int->Int->RV):cx:=λx y M Q=>match x,y with| .int i,.int j=>Q (g i j) M|_,_=>False
theorem AD{g:Int->Int->RV}(x y)(M)(Q)(h:vi C g x y M Q):∃i j,x= .int i/\y= .int j:=by
 unfold vi at h;split at h
 . exact⟨_,_,rfl,rfl⟩
 . exact h.elim
theorem uD{g:Int->Int->RV}(x y)(M)(Q)(h:p8 g x y M Q):∃i j,x= .int i/\y= .int j:=by
 unfold p8 at h;split at h
 . exact⟨_,_,rfl,rfl⟩
 . exact h.elim
abbrev EH:cx:=p8 λi j=>.int (i-j)
theorem PY:cS X (binaryOp .Sub) EH:=nT Yh (λi j M Q H a h k=>⟨i,j,rfl,rfl,k _ h _ (by simp only[Rep])⟩) uD
abbrev ET:cx:=vi (λ_ j=>0<j) λi j=>.int (i % j)
theorem P4:cS X (binaryOp .Mod) ET:=nT Yl (λi j M Q H a h k=>⟨i,j,rfl,rfl,h.1,k _ h.2 _ (by simp only[Rep])⟩) AD
abbrev Es:cx:=vi (λ_ j=>0<j/\j<1073741824) λi j=>.int (i / j)
theorem P7:cS X (binaryOp .FloorDiv) Es:=nT Wu (λi j M Q H a h k=>⟨i,j,rfl,rfl,h.1,k _ h.2 _ (by simp only[Rep])⟩) AD
abbrev EK:cx:=vi (λi j=>0<=j/\j<=1000000/\i.natAbs<2 ^ 64) λi j=>.int (i ^ j.toNat)
theorem P0:cS X (binaryOp .Pow) EK:=nT Yj (λi j M Q H a h k=>⟨i,j,rfl,rfl,h.1,k _ h.2 _ (by simp only[Rep])⟩) AD
abbrev Nn:cx:=p8 λi j=>.bl (decide (i<j))
theorem Ou:cS X (compareOp .Lt) Nn:=nT Zr (λi j M Q H a h k=>⟨i,j,rfl,rfl,k _ h _ (by simp only[Rep])⟩) uD
abbrev Nm:cx:=p8 λi j=>.bl (decide (i<=j))
theorem Ot:cS X (compareOp .LtE) Nm:=nT Zs (λi j M Q H a h k=>⟨i,j,rfl,rfl,k _ h _ (by simp only[Rep])⟩) uD
abbrev Nj:cx:=p8 λi j=>.bl (decide (j<i))
theorem Ol:cS X (compareOp .Gt) Nj:=nT Zt (λi j M Q H a h k=>⟨i,j,rfl,rfl,k _ h _ (by simp only[Rep])⟩) uD
abbrev Ni:cx:=p8 λi j=>.bl (decide (j<=i))
theorem Oj:cS X (compareOp .GtE) Ni:=nT Zu (λi j M Q H a h k=>⟨i,j,rfl,rfl,k _ h _ (by simp only[Rep])⟩) uD
noncomputable def ES:cx:=λx y M Q=>match x,y with
 | .int i,.int j=>ig i j/\Q (.int (i*j)) M
 | .ref a,.int k=>∃b,M a=some (.lst b)/\-(2 ^ 63)<=k/\k<2 ^ 63/\b.length*k.toNat<=sizeLine/\Q (.ls (List.replicate k.toNat b).flatten) M
 |_,_=>False
theorem Ip{K:ag}{vs:LV}(r:aa K H xs vs):∀n:Nat,aa K H (List.replicate n xs).flatten (List.replicate n vs).flatten
 |0=>by simpa using aa.nil
 |n+1=>by
  rw[qH,sD,qH,sD];exact r.append (Ip r n)
theorem P2:cS X (binaryOp .Mult) ES:=by
 intro d s z H x y v u l I t w h;obtain⟨a,b,M,Q,ra,rb,f,c,m⟩:=h;cases a with
 |int i=>
  cases b with
  |int j=>simp only[Rep]at ra rb;exact Yk d s z H x y v u l I t w ⟨i,j,ra,rb,c.1,m _ M _ H c.2 (.refl H) f (by simp only[Rep])⟩
  |_=>exact(show False from c).elim
 |ref p=>
  cases b with
  |int k=>
   simp only[Rep]at ra rb;obtain⟨g,J,C,D,E,F⟩:=c;obtain⟨L,e,r⟩:=f p _ J;obtain⟨vs,rfl,n⟩:=r;refine ay (Yi d s z H x y v u (λv A=>∃H1 p g,v= .ref p/\H1 p=none/\A=upd H1 p (.lst g)/\∀o,l (.ref p) (upd H1 p (.aZ o (.lst g)))) I t w ⟨p,k,vs,ra,rb,e,C,D,by rw[<-n.length];exact E,λq c=>⟨H,q,_,rfl,c,rfl,λo=>?_⟩⟩) λ_ _ e=>frozen e
   exact m _ M _ _ F (Ext.new c) (f.new c) (ji c (Ip n _))
  |_=>exact(show False from c).elim
 |_=>cases b<;>exact(show False from c).elim
noncomputable def yU:cx:=λx y M Q=>match x,y with
 | .int i,.int j=>Q (.int (i+j)) M
 | .str i,.str j=>i.length+j.length<=sizeLine/\Q (.str (i++j)) M
 | .tup xs,.tup ys=>xs.length+ys.length<=sizeLine/\Q (.tup (xs++ys)) M
 | .ls xs,.ls ys=>xs.length+ys.length<=sizeLine/\Q (.ls (xs++ys)) M
 |_,_=>False
theorem UU{s:Shared}{t b:Addr}{ws:ak}(u:IsTup s.heap t ([]:ak).toArray)(r:IsTup s.heap b ws.toArray)(h:Q (.ref b) s):
 wpAny (model prog w) A (binaryOp .Add (.ref t) (.ref b)) Q E s:=by
 obtain⟨⟨o,dd,j,sl⟩,m,k,n,l⟩:=id u;obtain⟨⟨i,f,e,g⟩,d,a,v,c⟩:=id r;simp only at k l a c;subst k l a c;exact concat_meets ⟨_,m,rfl⟩ ⟨_,d,rfl⟩ noFill_tuple_add seq_tuple_add PySem.F.slot_tuple_add PySem.F.entry_tuple_add (PySem.F.args_tuple_add_2 _ _)
  (tuple_addW0 t b [].toArray ws.toArray n v dd f sl g (by simp)) ⟨m,d,h⟩
theorem WU{s:Shared}{l b:Addr}{vs ws:ak}(hl:s.heap.IsList l vs.toArray)(hb:s.heap.IsList b ws.toArray)
 (h:Q (.ref s.heap.objs.size) { s with heap:=s.heap.push { cls:=.type "list",data:=.seq (vs++ws).toArray } }) (hsz:vs.length+ws.length<=sizeLine):
 wpAny (model prog w) A (binaryOp .Add (.ref l) (.ref b)) Q E s:=by
 obtain⟨⟨cls,dd,data,sl⟩,ho,hc,n,hd⟩:=id hl;obtain⟨⟨cls2,dd2,data2,sl2⟩,ho2,hc2,n2,hd2⟩:=id hb;simp only at hc hd hc2 hd2;subst hc hd hc2 hd2;have e:vs.toArray++ws.toArray=(vs++ws).toArray:=by simp
 refine concat_meets ⟨_,ho,rfl⟩ ⟨_,ho2,rfl⟩ noFill_list_add seq_list_add PySem.F.slot_list_add PySem.F.entry_list_add (PySem.F.args_list_add_2 _ _) (list_addW l b vs.toArray ws.toArray n n2 dd dd2 sl sl2 (by simpa using hsz)) ⟨ho,ho2,?_⟩
 rw[e];exact h
theorem P8:cS X (binaryOp .Add) yU:=by
 intro f s J H x y v u E I z A h;obtain⟨a,b,M,Q,ra,rb,n,c,m⟩:=h;cases a with
 |int i=>
  cases b with
  |int j=>simp only[Rep]at ra rb;exact Yn f s J H x y v u E I z A ⟨i,j,ra,rb,m _ M _ H c (.refl H) n (by simp only[Rep])⟩
  |_=>exact(show False from c).elim
 |str i=>
  cases b with
  |str j=>simp only[Rep]at ra rb;exact R9 f s J H x y v u E I z A ⟨i,j,ra,rb,c.1,m _ M _ H c.2 (.refl H) n (by simp only[Rep])⟩
  |_=>exact(show False from c).elim
 |tup D=>
  cases b with
  |tup ys=>
   obtain⟨N,c⟩:=c;simp only[Rep]at ra rb;obtain⟨p,vs,rfl,r,k⟩:=ra;obtain⟨q,C,rfl,g,d⟩:=rb
   by_cases U:vs= []
   . subst U
     have hx:D= []:=by have:=k.length;simpa using this
     subst hx;cases z;cases A;obtain⟨ab,r1,p1,_⟩:=I.tuple (bI.of r);obtain⟨w,R,O,_⟩:=I.tuple (bI.of g);cases r1;exact UU p1 O ⟨.ref q,H,I,rfl,m _ M _ H c (.refl H) n (by simp only[Rep,List.nil_append];exact⟨q,C,rfl,g,d⟩)⟩
   . refine Wv f s J H _ _ v u E I z A ⟨p,q,vs,C,rfl,rfl,r,g,U,by rw[<-k.length,<-d.length];exact N,λe=>?_,λe l L=>?_⟩
     . subst e
       have Y:ys= []:=by have:=d.length;simpa using this
       subst Y;exact m _ M _ H c (.refl H) n (by simp only[Rep,qJ];exact⟨p,vs,rfl,r,k⟩)
     . exact m _ M _ _ c (Ext.new L) (n.new L) (rf L (k.append d))
  |_=>exact(show False from c).elim
 |ls D=>
  cases b with
  |ls ys=>
   obtain⟨N,c⟩:=c;simp only[Rep]at ra rb;obtain⟨p,vs,rfl,r,k⟩:=ra;obtain⟨q,C,rfl,g,d⟩:=rb;cases z;cases A;obtain⟨ab,r1,p1,Z⟩:=I.list r.sq;obtain⟨w,R,O,z2⟩:=I.list g.sq;have t:vs.length+C.length<=sizeLine:=by rw[<-k.length,<-d.length];exact N
   refine ay (WU (Q:=EP X f J (λv W=>∃H1 p D,v= .ref p/\H1 p=none/\W=upd H1 p (.lst D)/\∀o,E (.ref p) (upd H1 p (.aZ o (.lst D))))) p1.isList O.isList ?_ (by rw[<-r1.length,<-R.length];exact t)) λ_ _ e=>frozen e
   have F:=I.av.fresh (aK s.heap.objs.size);refine⟨.ref s.heap.objs.size,upd H s.heap.objs.size (.lst (vs++C)),I.laid (t':=s.toks) (λb ob q=>bw _ q) (aK _) ?_,rfl,H,_,_,rfl,F,rfl,λo=>?_⟩
   . exact⟨by rw[eQ];exact t,_,0,r1.append R,dE _ rfl⟩
   . exact m _ M _ _ c (Ext.new F) (n.new F) (ji F (k.append d))
  |_=>exact(show False from c).elim
 |_=>cases b<;>exact(show False from c).elim
def PN:cx:=λx y M Q=>aB 16 x=true/\aB 16 y=true/\Q (.bl (!aY x y)) M
theorem one(l:X.A.units+64<cLine):cS X (compareOp .NotEq) PN:=by
 intro d s m H x y v u k I i j h;obtain⟨a,b,M,Q,ra,rb,g,⟨o1,c,f⟩,e⟩:=h;exact Ik 15 a b X.A s v u o1 c (iA I 16 a x v o1 ra i) (iA I 16 b y u c rb j) ∅ _ _ _ _ ⟨.bl (!aY a b),H,I,rfl,e _ M _ H f (.refl H) g (by simp only[Rep])⟩
def iq:RV->Bool
 | .au=>true
 |_=>false
theorem Kb{K:ag}:∀{a:RV} {x:V},Rep K H a x->decide (x= .au)=iq a:=by
 intro a x h;cases a with
 |tup xs=>simp only[Rep]at h;obtain⟨p,vs,rfl,_⟩:=h;simp[iq]
 |ls xs=>simp only[Rep]at h;obtain⟨p,vs,rfl,_⟩:=h;simp[iq]
 |_=>simp only[Rep]at h;subst h;simp[iq]
def Nl:cx:=λx y M Q=>match y with| .au=>Q (.bl (iq x)) M|_=>False
def K5:cx:=λx y M Q=>match y with| .au=>Q (.bl (!iq x)) M|_=>False
theorem Oo:cS X (compareOp .Is) Nl:=by
 intro c s k H x y v u e I i j h;obtain⟨a,b,M,Q,ra,rb,g,d,f⟩:=h;cases b with
 |au=>simp only[Rep]at rb;exact Ym c s k H x y v u e I i j ⟨rb,by rw[Kb ra];exact f _ M _ H d (.refl H) g (by simp only[Rep])⟩
 |_=>exact(show False from d).elim
theorem Ys:cS X (compareOp .IsNot) K5:=by
 intro c s k H x y v u e I i j h;obtain⟨a,b,M,Q,ra,rb,g,d,f⟩:=h;cases b with
 |au=>simp only[Rep]at rb;exact Wt c s k H x y v u e I i j ⟨rb,by rw[Kb ra];exact f _ M _ H d (.refl H) g (by simp only[Rep])⟩
 |_=>exact(show False from d).elim
noncomputable def bM:cx:=λx y M Q=>match x,y with
 | .tup xs,.int i=>match bK xs i with|some v=>Q v M|none=>False
 | .ls xs,.int i=>match bK xs i with|some v=>Q v M|none=>False
 | .ref a,.int i=>match M a with
  |some (.lst xs)=>match bK xs i with|some v=>Q v M|none=>False
  |_=>False
 | .str z,.int i=>z.length<=sizeLine/\match bK z.cps.toList i with|some c=>Q (.str ⟨#[c]⟩) M|none=>False
 |_,_=>False
theorem Oq:sH X (sv X.K bM):=by
 intro g f j s C H x y v u n I t A h hs;obtain⟨a,b,M,Q,ra,rb,l,d,o⟩:=h;cases b with
 |int i=>
  simp only[Rep]at rb;cases a with
  |tup m=>
   simp only[Rep]at ra;obtain⟨p,vs,rfl,D,k⟩:=ra;simp only[bM]at d;cases e:bK m i with
   |none=>rw[e]at d;exact d.elim
   |some z=>
    rw[e]at d;obtain⟨w,e1,r1⟩:=k.bK e;exact X8 g f j s C H _ y v u n I t A ⟨p,vs,i,w,rfl,rb,D,e1,o _ M _ H d (.refl H) l r1⟩ hs
  |ls m=>
   simp only[Rep]at ra;obtain⟨p,vs,rfl,D,k⟩:=ra;simp only[bM]at d;cases e:bK m i with
   |none=>rw[e]at d;exact d.elim
   |some z=>
    rw[e]at d;obtain⟨w,e1,r1⟩:=k.bK e;exact J7 g f j s C H _ y v u n I t A ⟨p,vs,i,w,rfl,rb,D.sq,e1,o _ M _ H d (.refl H) l r1⟩ hs
  |ref p=>
   simp only[Rep]at ra;simp only[bM]at d;split at d
   . rename_i m E
     obtain⟨J,e,r⟩:=l p _ E;obtain⟨vs,rfl,k⟩:=r;cases e2:bK m i with
     |none=>rw[e2]at d;exact d.elim
     |some z=>
      rw[e2]at d;obtain⟨w,e1,r1⟩:=k.bK e2;exact J7 g f j s C H x y v u n I t A ⟨p,vs,i,w,ra,rb,cj.of e,e1,o _ M _ H d (.refl H) l r1⟩ hs
   . exact d.elim
  |str z=>
   simp only[Rep]at ra;simp only[bM]at d;obtain⟨F,d⟩:=d;cases e:bK z.cps.toList i with
   |none=>rw[e]at d;exact d.elim
   |some c=>
    rw[e]at d;exact X9 g f j s C H x y v u n I t A ⟨z,i,c,ra,rb,F,e,o _ M _ H d (.refl H) l (by simp only[Rep])⟩ hs
  |_=>exact(show False from d).elim
 |_=>cases a<;>exact(show False from d).elim
theorem rix{a b:Expr}{c tb:aq}(d:ah X a c)(e:ah X b tb)(hs:Kh b:=by intro _ _;rfl):ah X (.Subscript a b pos) (nW bM c tb):=PE.imp (Zo Oq d e hs) λ_ _ _ h=>xV h
noncomputable def p7:yx:=λo i v M Q=>match o,i with
 | .ref p,.int k=>match M p with
  |some (.lst xs)=>match fC xs.length k with|some j=>Q (put M p (.lst (xs.set j v)))|none=>False
  |_=>False
 |_,_=>False
theorem Zq:zf X (Lq X.K p7):=by
 intro f s z H o i v w iv u n I ro ri rv h;obtain⟨a,b,c,M,Q,ra,rb,x,m,d,t⟩:=h;cases a with
 |ref p=>
  cases b with
  |int k=>
   simp only[Rep]at ra rb;simp only[p7]at d;split at d
   . rename_i y g
     obtain⟨A,e,r⟩:=m p _ g;obtain⟨vs,rfl,l⟩:=r;cases e2:fC y.length k with
     |none=>rw[e2]at d;exact d.elim
     |some j=>
      rw[e2]at d;have ex:Ext H (upd H p (.lst (vs.set j v))):=Ext.write e rfl;exact set_list f s z H o i v w iv u n I ro ri rv ⟨p,vs,k,j,ra,rb,e,by rw[<-l.length];exact e2,t _ _ d ex (m.write g ⟨_,rfl,aa.ext ex _ _ (l.set x j)⟩)⟩
   . exact d.elim
  |_=>exact(show False from d).elim
 |_=>cases b<;>exact(show False from d).elim
def eO(K:ag)(r:LR->RM->ao->Prop):LV->Hp->VK->Prop:=λvs H a=>∃rs M Q,aa K H rs vs/\View K H M/\r rs M Q/\iP K H Q a
def jK(r:LR->RM->ao->Prop)(t:bD):aq:=λσ M Q=>t σ M λrs M1=>r rs M1 Q
theorem IS{K:ag}{t:bD}(h:up K (jK r t) σ0 H Q0):CD (eO K r) (CI K t) σ0 H Q0:=by
 obtain⟨e,M,Q,hs,c,b,a⟩:=h;exact⟨e,M,_,hs,c,b,λrs M1 vs H1 q e1 d r1=>⟨rs,M1,Q,r1,d,q,a.ext e1⟩⟩
variable {x:Str}{p pos:Pos}{e:Expr}{es:aS}{t:bD}{id T:String}{r:LR->RM->ao->Prop}
theorem pV(d:cQ X (.builtin id) (eO X.K r))(i:X.mg x=none)(k:bootBuiltins x=some (.builtin id))(c:eI X (e::es) t)(g:Gl X x:=by rfl)(j:x≠"__name__":=by decide)(a:(x==("__debug__":Str))=false:=by decide)
 (f:starEach (e::es) X.env=(false,eval e X.env)::starEach es X.env:=by rfl) (b:(backTo pos (starEach es X.env)).any (·.1)=false:=by rfl):ah X (.Call (.Name x p) (e::es) [] pos) (jK r t):=
 PE.imp (UZ d g i k c j a f b) λ_ _ _ h=>IS h
theorem Bj(d:cQ X (.type T) (eO X.K r))(i:X.mg x=none)(k:bootBuiltins x=some (.type T))(c:eI X (e::es) t)(g:Gl X x:=by rfl)(j:x≠"__name__":=by decide)(a:(x==("__debug__":Str))=false:=by decide)
 (f:starEach (e::es) X.env=(false,eval e X.env)::starEach es X.env:=by rfl) (b:(backTo pos (starEach es X.env)).any (·.1)=false:=by rfl):ah X (.Call (.Name x p) (e::es) [] pos) (jK r t):=
 PE.imp (SS d g i k c j a f b) λ_ _ _ h=>IS h
theorem aa.one{K:ag}{x:RV}{vs:LV}(h:aa K H [x] vs):∃v,vs= [v]/\Rep K H x v:=by
 simp only[aa]at h;obtain⟨v,r,rfl,a,rfl⟩:=h;exact⟨v,rfl,a⟩
theorem aa.two{K:ag}{x y:RV}{vs:LV}(h:aa K H [x,y] vs):∃v w,vs= [v,w]/\Rep K H x v/\Rep K H y w:=by
 simp only[aa]at h;obtain⟨v,r,rfl,a,w,c,rfl,b,rfl⟩:=h;exact⟨v,w,rfl,a,b⟩
noncomputable def yN:LR->RM->ao->Prop:=λrs M Q=>match rs with
 | [.tup xs]=>Q (.int xs.length) M
 | [.ls xs]=>Q (.int xs.length) M
 | [.str z]=>z.length<=sizeLine/\Q (.int z.length) M
 | [.ref a]=>match M a with|some (.lst xs)=>Q (.int xs.length) M|_=>False
 |_=>False
theorem Gy:cQ X (.builtin "len") (eO X.K yN):=by
 intro b s l H w us g I j h;obtain⟨rs,M,Q,k,f,c,i⟩:=h;unfold yN at c;split at c
 . rename_i n
   obtain⟨v,rfl,r1⟩:=k.one;simp only[Rep]at r1;obtain⟨q,vs,rfl,m,d⟩:=r1;exact Ai b s l H _ us g I j ⟨q,vs,rfl,.inr m,by rw[<-d.length];exact i _ M _ H c (.refl H) f (by simp only[Rep])⟩
 . rename_i n
   obtain⟨v,rfl,r1⟩:=k.one;simp only[Rep]at r1;obtain⟨q,vs,rfl,m,d⟩:=r1;exact Ai b s l H _ us g I j ⟨q,vs,rfl,.inl m.sq,by rw[<-d.length];exact i _ M _ H c (.refl H) f (by simp only[Rep])⟩
 . rename_i z
   obtain⟨v,rfl,r1⟩:=k.one;simp only[Rep]at r1;subst r1;exact Rv b s l H _ us g I j ⟨z,rfl,c.1,i _ M _ H c.2 (.refl H) f (by simp only[Rep])⟩
 . rename_i a
   obtain⟨v,rfl,r1⟩:=k.one;simp only[Rep]at r1;subst r1;split at c
   . rename_i n o
     obtain⟨u,e,r⟩:=f a _ o;obtain⟨vs,rfl,d⟩:=r;exact Ai b s l H _ us g I j ⟨a,vs,rfl,.inl (cj.of e),by rw[<-d.length];exact i _ M _ H c (.refl H) f (by simp only[Rep])⟩
   . exact c.elim
 . exact c.elim
noncomputable def Bn:LR->RM->ao->Prop:=λrs M Q=>match rs with
 | [.tup xs]=>Q (.tup xs) M
 | [.ls xs]=>Q (.tup xs) M
 | [.ref a]=>match M a with|some (.lst xs)=>Q (.tup xs) M|_=>False
 |_=>False
theorem YL:cQ X (.type "tuple") (eO X.K Bn):=by
 intro b s n H y us j I l h;obtain⟨rs,M,Q,m,i,c,k⟩:=h;unfold Bn at c;split at c
 . rename_i o
   obtain⟨v,rfl,r1⟩:=m.one;simp only[Rep]at r1;obtain⟨q,vs,rfl,g,f⟩:=r1;exact Ah b s n H _ us j I l ⟨q,vs,rfl,.inr ⟨g,k _ M _ H c (.refl H) i (by simp only[Rep];exact⟨q,vs,rfl,g,f⟩)⟩⟩
 . rename_i o
   obtain⟨v,rfl,r1⟩:=m.one;simp only[Rep]at r1;obtain⟨q,vs,rfl,g,f⟩:=r1;exact Ah b s n H _ us j I l ⟨q,vs,rfl,.inl ⟨g.sq,λl d=>k _ M _ _ c (Ext.new d) (i.new d) (rf d f)⟩⟩
 . rename_i a
   obtain⟨v,rfl,r1⟩:=m.one;simp only[Rep]at r1;subst r1;split at c
   . rename_i o u
     obtain⟨w,e,r⟩:=i a _ u;obtain⟨vs,rfl,f⟩:=r;exact Ah b s n H _ us j I l ⟨a,vs,rfl,.inl ⟨cj.of e,λl d=>k _ M _ _ c (Ext.new d) (i.new d) (rf d f)⟩⟩
   . exact c.elim
 . exact c.elim
end
open HT
section
variable {prog:Program}{w:World}{A:Around}{E:aP}{s:Shared}
theorem QY{t sl:Addr}{lo hi:Option Int}(a:IsTup s.heap t items)(hs:s.heap.IsSliceOf sl vl vu .none)(pl:IsPart vl lo)(j:IsPart vu hi)
 (h0:aQ items.size 0 lo=0) (f:aQ items.size items.size hi=items.size)
 (h:Q (.ref t) s):wpAny (model prog w) A (getItem (.ref t) (.ref sl)) Q E s:=by
 obtain⟨i,e,d,g⟩:=id hs;have c:s.TypeIs (.ref sl) "slice":=⟨i,e,d⟩;unfold getItem
 try with_reducible refine jD ?_
 first|refine aj (aH ?_)|skip
 refine aj (wpAny_sequenceKey a.typeIs ⋯ ?_)
 refine aj (wpAny_callSpecial?_slot (name:=Str.ofString "__getitem__") a.typeIs zA
  (jx zA a.typeIs entry_tuple_getitem ?_ (args_tuple_getitem _ _)))
 show wpAny _ _ (Builtin.Tuple.tupleItemsOf (.ref t) >>= _) _ _ s;refine aj (tupleItemsOf_ a ?_);refine aj (wpAny_typeOf c ?_);rw[ai ⋯]
 refine aj (Hw hs pl j ?_);have b:(((aQ items.size 0 lo:Nat):Int)==0&&(1:Int)==1&&(aQ items.size items.size hi-aQ items.size 0 lo)==items.size)=true:=by
  rw[h0,f];simp
 show wpAny _ _ (if(((aQ items.size 0 lo:Nat):Int)==0&&(1:Int)==1&&(aQ items.size items.size hi-aQ items.size 0 lo)==items.size)=true then _ else _) _ _ s
 rw[ai b];show wpAny _ _ (Builtin.Tuple.tupleIsExact (.ref t) >>= _) _ _ s;unfold Builtin.Tuple.tupleIsExact;refine aj (aj (wpAny_typeOf a.typeIs (aH ?_)));rw[ai ⋯]
 refine aj (wpAny_rule ?_);refine aj (aH ?_);exact aH ⟨_,rfl,aH h⟩
end
section
variable {X:Cx}
abbrev oq:=bb->RM->(Option Int->RM->Prop)->Prop
def upP(K:ag)(t:oq):TO:=λσ0 H Q0=>∃σ M Q,aN K H σ σ0/\View K H M/\t σ M Q/\∀o M' H',Q o M'->Ext H H'->View K H' M'->Q0 o H'
def qL(X:Cx)(e:Option Expr)(t:oq):Prop:=PO X e (upP X.K t)
def EO:oq:=λ_ M Q=>Q none M
def LA(t:aq):oq:=λσ M Q=>t σ M λx M1=>match x with| .int i=>Q (some i) M1|_=>False
theorem PO.imp{e:Option Expr}{t t':TO}(h:PO X e t)(i:∀σ H Q,t' σ H Q->t σ H Q):PO X e t':=λpins s σ H Q I w=>h pins s σ H Q I (i σ H Q w)
theorem ZM:qL X none EO:=PO.imp VU λσ0 H d h=>by
 obtain⟨e,M,Q,hs,c,b,a⟩:=h;exact a none M H b (.refl H) c
theorem ZI{e:Expr}(h:ah X e te):qL X (some e) (LA te):=PO.imp (VT h) λσ0 H Q0 h=>by
 obtain⟨σ,M,Q,hs,hv,ht,hk⟩:=h;refine⟨σ,M,_,hs,hv,ht,λrx M1 x H1 q e1 v1 r1=>?_⟩
 cases rx with
 |int i=>simp only[Rep]at r1;exact⟨i,r1,hk _ M1 H1 q e1 v1⟩
 |_=>exact(show False from q).elim
def fy(xs:LR)(lo hi:Option Int):LR:=(xs.drop (aQ xs.length 0 lo)).take (aQ xs.length xs.length hi-aQ xs.length 0 lo)
theorem Jr{K:ag}{vs:LV}(r:aa K H xs vs)(lo hi:Option Int):aa K H (fy xs lo hi) (nO vs lo hi):=by
 unfold fy nO;rw[r.length];exact(r.drop _).take _
noncomputable def mJ:RV->Option Int->Option Int->RM->ao->Prop:=λx lo hi M Q=>match x with
 | .tup xs=>Q (.tup (fy xs lo hi)) M
 | .ls xs=>Q (.ls (fy xs lo hi)) M
 | .ref a=>match M a with|some (.lst xs)=>Q (.ls (fy xs lo hi)) M|_=>False
 |_=>False
noncomputable def upL (K:ag)(r:RV->Option Int->Option Int->RM->ao->Prop):V->Option Int->Option Int->Hp->VK->Prop:=λx lo hi H b=>∃a M Q,Rep K H a x/\View K H M/\r a lo hi M Q/\iP K H Q b
theorem PZ:wq X (upL X.K mJ):=by
 intro f s y H x v A C lo hi sl m I w hs t u h;obtain⟨a,M,Q,ra,l,d,n⟩:=h;have c:∀p xs vs,x= .ref p->cj X.K H p vs->aa X.K H xs vs->Q (.ls (fy xs lo hi)) M->
  ∃T id,typeLookup (.type T) "__getitem__" =pure (some (.builtin id))/\s.TypeIs v T/\wpAny (model X.prog X.w) X.A (getItem v (.ref sl)) (EP X f y m) X.xe s:=by
  intro p xs vs ex j g d;obtain⟨T,id,F,J,L⟩:=V4 f s y H x v A C lo hi sl (λv D=>∃H1 p xs,v= .ref p/\H1 p=none/\D=upd H1 p (.lst xs)/\∀o,m (.ref p) (upd H1 p (.aZ o (.lst xs)))) I w hs t u
   ⟨p,vs,ex,j,λq b=>⟨H,q,_,rfl,b,rfl,λo=>n _ M _ _ d (Ext.new b) (l.new b) (ji b (Jr g lo hi))⟩⟩
  exact⟨T,id,F,J,ay L λ_ _ e=>frozen e⟩
 cases a with
 |tup xs=>
  simp only[mJ]at d;simp only[Rep]at ra;obtain⟨p,vs,rfl,j,g⟩:=ra
  by_cases k:aQ vs.length 0 lo=0/\aQ vs.length vs.length hi=vs.length
  . cases w
    obtain⟨ab,r,z,O⟩:=I.tuple (bI.of j);have i:ab.toArray.size=vs.length:=by rw[cZ];exact r.length.symm
    refine⟨"tuple",_,PyProof.Rows.slot_tuple_getitem.lookup,z.typeIs,?_⟩;refine QY z hs t u (by rw[i];exact k.1) (by rw[i];exact k.2) ⟨.ref p,H,I,rfl,?_⟩
    have e:fy xs lo hi=xs:=by
     unfold fy;rw[g.length,k.1,k.2,List.drop_zero,Nat.sub_zero,<-g.length,List.take_length]
    rw[e]at d;exact n _ M _ H d (.refl H) l (by simp only[Rep];exact⟨p,vs,rfl,j,g⟩)
  . exact Xp f s y H _ v A C lo hi sl m I w hs t u ⟨p,vs,rfl,j,k,λq b=>n _ M _ _ d (Ext.new b) (l.new b) (rf b (Jr g lo hi))⟩
 |ls xs=>
  simp only[mJ]at d;simp only[Rep]at ra;obtain⟨p,vs,rfl,j,g⟩:=ra;exact c p xs vs rfl j.sq g d
 |ref p=>
  simp only[mJ]at d;simp only[Rep]at ra;split at d
  . rename_i xs E
    obtain⟨N,e,r⟩:=l p _ E;obtain⟨vs,rfl,g⟩:=r;exact c p xs vs ra (cj.of e) g d
  . exact d.elim
 |_=>exact(show False from d).elim
def Nr(te:aq)(tl th:oq):aq:=λσ M Q=>te σ M λx M1=>tl σ M1 λl M2=>th σ M2 λu M3=>mJ x l u M3 Q
theorem rsl{e:Expr}{lo hi:Option Expr}(he:ah X e te)(hl:qL X lo tl)(hu:qL X hi th):ah X (.Subscript e (.Slice lo hi none p2) pos) (Nr te tl th):=PE.imp (TX PZ he hl hu) λσ0 H Q0 h=>by
 obtain⟨σ,M,Q,hs,hv,ht,hk⟩:=h;refine⟨σ,M,_,hs,hv,ht,λrx M1 x H1 q e1 v1 r1=>?_⟩
 refine⟨σ,M1,_,hs.ext e1,v1,q,λl M2 H2 q2 e2 v2=>?_⟩
 refine⟨σ,M2,_,hs.ext (e1.trans e2),v2,q2,λu M3 H3 q3 e3 v3=>?_⟩
 exact⟨rx,M3,Q,Rep.ext (e2.trans e3) rx x r1,v3,q3,hk.ext ((e1.trans e2).trans e3)⟩
theorem RU(K:ag):PySem.W.kitOne K (.type "NoneType") (.type "int")=some false:=by kernel_rfl
theorem SG(K:ag):PySem.W.kitOne K (.type "bool") (.type "int")=some true:=by kernel_rfl
theorem RY(K:ag):PySem.W.kitOne K (.type "int") (.type "int")=some true:=by kernel_rfl
theorem RS(K:ag):PySem.W.kitOne K (.type "str") (.type "int")=some false:=by kernel_rfl
theorem RP(K:ag):PySem.W.kitOne K (.type "tuple") (.type "int")=some false:=by kernel_rfl
theorem SE(K:ag):PySem.W.kitOne K (.type "list") (.type "int")=some false:=by kernel_rfl
noncomputable def KG:RV->Option Bool
 | .au=>some false
 | .bl _=>some true
 | .int _=>some true
 | .str _=>some false
 | .tup _=>some false
 | .ls _=>some false
 |_=>none
theorem RE(K:ag):PySem.W.kitOne K (.type "NoneType") (.type "bool")=some false:=by kernel_rfl
theorem R0(K:ag):PySem.W.kitOne K (.type "bool") (.type "bool")=some true:=by kernel_rfl
theorem Rq(K:ag):PySem.W.kitOne K (.type "int") (.type "bool")=some false:=by kernel_rfl
theorem RB(K:ag):PySem.W.kitOne K (.type "str") (.type "bool")=some false:=by kernel_rfl
theorem Rz(K:ag):PySem.W.kitOne K (.type "tuple") (.type "bool")=some false:=by kernel_rfl
theorem RW(K:ag):PySem.W.kitOne K (.type "list") (.type "bool")=some false:=by kernel_rfl
noncomputable def is_bool:RV->Option Bool
 | .au=>some false
 | .bl _=>some true
 | .int _=>some false
 | .str _=>some false
 | .tup _=>some false
 | .ls _=>some false
 |_=>none
theorem RT(K:ag):PySem.W.kitOne K (.type "NoneType") (.type "str")=some false:=by kernel_rfl
theorem SF(K:ag):PySem.W.kitOne K (.type "bool") (.type "str")=some false:=by kernel_rfl
theorem RX(K:ag):PySem.W.kitOne K (.type "int") (.type "str")=some false:=by kernel_rfl
theorem RQ(K:ag):PySem.W.kitOne K (.type "str") (.type "str")=some true:=by kernel_rfl
theorem RN(K:ag):PySem.W.kitOne K (.type "tuple") (.type "str")=some false:=by kernel_rfl
theorem SA(K:ag):PySem.W.kitOne K (.type "list") (.type "str")=some false:=by kernel_rfl
noncomputable def KD:RV->Option Bool
 | .au=>some false
 | .bl _=>some false
 | .int _=>some false
 | .str _=>some true
 | .tup _=>some false
 | .ls _=>some false
 |_=>none
theorem Rl(K:ag):PySem.W.kitOne K (.type "NoneType") (.type "tuple")=some false:=by kernel_rfl
theorem Rr(K:ag):PySem.W.kitOne K (.type "bool") (.type "tuple")=some false:=by kernel_rfl
theorem Rm(K:ag):PySem.W.kitOne K (.type "int") (.type "tuple")=some false:=by kernel_rfl
theorem Rk(K:ag):PySem.W.kitOne K (.type "str") (.type "tuple")=some false:=by kernel_rfl
theorem Rj(K:ag):PySem.W.kitOne K (.type "tuple") (.type "tuple")=some true:=by kernel_rfl
theorem Ro(K:ag):PySem.W.kitOne K (.type "list") (.type "tuple")=some false:=by kernel_rfl
noncomputable def Jd:RV->Option Bool
 | .au=>some false
 | .bl _=>some false
 | .int _=>some false
 | .str _=>some false
 | .tup _=>some true
 | .ls _=>some false
 |_=>none
theorem RC(K:ag):PySem.W.kitOne K (.type "NoneType") (.type "list")=some false:=by kernel_rfl
theorem RZ(K:ag):PySem.W.kitOne K (.type "bool") (.type "list")=some false:=by kernel_rfl
theorem Rp(K:ag):PySem.W.kitOne K (.type "int") (.type "list")=some false:=by kernel_rfl
theorem RA(K:ag):PySem.W.kitOne K (.type "str") (.type "list")=some false:=by kernel_rfl
theorem Ry(K:ag):PySem.W.kitOne K (.type "tuple") (.type "list")=some false:=by kernel_rfl
theorem HP(K:ag):PySem.W.kitOne K (.type "list") (.type "list")=some true:=by kernel_rfl
noncomputable def J9:RV->Option Bool
 | .au=>some false
 | .bl _=>some false
 | .int _=>some false
 | .str _=>some false
 | .tup _=>some false
 | .ls _=>some true
 |_=>none
noncomputable def tyN:RV->Option String
 | .au=>some "NoneType"
 | .bl _=>some "bool"
 | .int _=>some "int"
 | .str _=>some "str"
 | .tup _=>some "tuple"
 | .ls _=>some "list"
 |_=>none
noncomputable def qg (T:String)(a:RV->Option Bool):LR->RM->ao->Prop:=λrs M Q=>match rs with
 | [x,.ty T']=>T'=T/\(match a x with|some b=>Q (.bl b) M|none=>False)
 |_=>False
theorem vL{T:String}(ht:∀a b,test a=some b->∃n,tyN a=some n/\PySem.W.kitOne X.K (.type n) (.type T)=some b):cQ X (.builtin "isinstance") (eO X.K (qg T test)):=by
 intro pins s σ H xs us Q0 I rl h;obtain⟨rs,M,Q,rr,hv,hq,hk⟩:=h;unfold qg at hq;split at hq
 . rename_i a T'
   obtain⟨rfl,hq⟩:=hq;obtain⟨v,w,rfl,r1,r2⟩:=rr.two;obtain⟨u,u',rfl,w1,w2⟩:=vals2 rl;simp only[Rep]at r2;subst r2;obtain rfl:u'=Value.type T':=w2;cases e:test a with
   |none=>rw[e]at hq;exact hq.elim
   |some b=>
    rw[e]at hq;obtain⟨n,en,ek⟩:=ht a b e;have fin:∀tk,EP X pins σ Q0 (.bool b) { s with toks:=tk }:=λtk=>⟨.bl b,H,I.tok tk,rfl,hk _ M _ H hq (.refl H) hv (by simp only[Rep])⟩
    cases a with
    |au=>cases en;simp only[Rep]at r1;subst r1;cases(show u=Value.none from w1);exact qK PySem.W.kitx_none I.dj True.intro ek (λz=>nomatch z) fin
    |bl y=>cases en;simp only[Rep]at r1;subst r1;cases(show u=Value.bool y from w1);exact qK PySem.W.kitx_bool I.dj True.intro ek (λz=>nomatch z) fin
    |int y=>cases en;simp only[Rep]at r1;subst r1;obtain⟨t,q⟩:=(show ∃t,u=Value.int y t from w1);cases q;exact qK PySem.W.kitx_int I.dj True.intro ek (λz=>nomatch z) fin
    |str y=>cases en;simp only[Rep]at r1;subst r1;obtain⟨t,q⟩:=(show ∃t,u=Value.str y t from w1);cases q;exact qK PySem.W.kitx_str I.dj True.intro ek (λz=>nomatch z) fin
    |tup ys=>
     cases en;simp only[Rep]at r1;obtain⟨p,vs,rfl,hp,hr⟩:=r1;cases(show u=Value.ref p from w1)
     obtain⟨ab,_,pt,_⟩:=I.tuple (bI.of hp);obtain⟨o,h1,h2,_⟩:=pt;exact qK PySem.W.kitx_tuple I.dj ⟨o,h1,h2⟩ ek (λz=>nomatch z) fin
    |ls ys=>
     cases en;simp only[Rep]at r1;obtain⟨p,vs,rfl,hp,hr⟩:=r1;cases(show u=Value.ref p from w1)
     obtain⟨ab,_,pt,_⟩:=I.list hp.sq;obtain⟨o,h1,h2,_⟩:=pt.isList;exact qK PySem.W.kitx_list I.dj ⟨o,h1,h2⟩ ek (λz=>nomatch z) fin
    |_=>cases en
 . exact hq.elim
theorem UT:cQ X (.builtin "isinstance") (eO X.K (qg "int" KG)):=vL λa b e=>by
 cases a with
 |au=>cases e;exact⟨_,rfl,RU X.K⟩
 |bl _=>cases e;exact⟨_,rfl,SG X.K⟩
 |int _=>cases e;exact⟨_,rfl,RY X.K⟩
 |str _=>cases e;exact⟨_,rfl,RS X.K⟩
 |tup _=>cases e;exact⟨_,rfl,RP X.K⟩
 |ls _=>cases e;exact⟨_,rfl,SE X.K⟩
 |_=>cases e
theorem Tj:cQ X (.builtin "isinstance") (eO X.K (qg "bool" is_bool)):=vL λa b e=>by
 cases a with
 |au=>cases e;exact⟨_,rfl,RE X.K⟩
 |bl _=>cases e;exact⟨_,rfl,R0 X.K⟩
 |int _=>cases e;exact⟨_,rfl,Rq X.K⟩
 |str _=>cases e;exact⟨_,rfl,RB X.K⟩
 |tup _=>cases e;exact⟨_,rfl,Rz X.K⟩
 |ls _=>cases e;exact⟨_,rfl,RW X.K⟩
 |_=>cases e
theorem US:cQ X (.builtin "isinstance") (eO X.K (qg "str" KD)):=vL λa b e=>by
 cases a with
 |au=>cases e;exact⟨_,rfl,RT X.K⟩
 |bl _=>cases e;exact⟨_,rfl,SF X.K⟩
 |int _=>cases e;exact⟨_,rfl,RX X.K⟩
 |str _=>cases e;exact⟨_,rfl,RQ X.K⟩
 |tup _=>cases e;exact⟨_,rfl,RN X.K⟩
 |ls _=>cases e;exact⟨_,rfl,SA X.K⟩
 |_=>cases e
theorem Sk:cQ X (.builtin "isinstance") (eO X.K (qg "tuple" Jd)):=vL λa b e=>by
 cases a with
 |au=>cases e;exact⟨_,rfl,Rl X.K⟩
 |bl _=>cases e;exact⟨_,rfl,Rr X.K⟩
 |int _=>cases e;exact⟨_,rfl,Rm X.K⟩
 |str _=>cases e;exact⟨_,rfl,Rk X.K⟩
 |tup _=>cases e;exact⟨_,rfl,Rj X.K⟩
 |ls _=>cases e;exact⟨_,rfl,Ro X.K⟩
 |_=>cases e
theorem Ti:cQ X (.builtin "isinstance") (eO X.K (qg "list" J9)):=vL λa b e=>by
 cases a with
 |au=>cases e;exact⟨_,rfl,RC X.K⟩
 |bl _=>cases e;exact⟨_,rfl,RZ X.K⟩
 |int _=>cases e;exact⟨_,rfl,Rp X.K⟩
 |str _=>cases e;exact⟨_,rfl,RA X.K⟩
 |tup _=>cases e;exact⟨_,rfl,Ry X.K⟩
 |ls _=>cases e;exact⟨_,rfl,HP X.K⟩
 |_=>cases e
abbrev bX:=LR->RM->ao->Prop
def fH(K:ag)(sp:bX):Sp:=λvs H a _=>∃rs M Q,aa K H rs vs/\View K H M/\sp rs M Q/\iP K H Q a
end
structure zG(P:Program)(w:World)(K:ag)(mg:bo)(base:Heap)(k:Nat)(x:Str)(ps:aA)(sp:bX):Prop where
 ex:∃(f:Addr) (fd:FuncData),mg x=some (.ref f)/\PySem.W.keepIn K (.ref f)=true/\Binds K fd ps []/\dz P w K mg base fh k f fd ps (fH K sp)
section
variable {X:Cx}{x:Str}{p pos:Pos}{e:Expr}{es:aS}{t:bD}{k:Nat}{ps:aA}{sp:bX}
theorem XH(F:zG X.prog X.w X.K X.mg X.base k x ps sp)(m:aI k X.A)(d:eI X (e::es) t)(j:Gl X x:=by rfl)(a:(x==("__debug__":Str))=false:=by decide)
 (i:starEach (e::es) X.env=(false,eval e X.env)::starEach es X.env:=by rfl) (c:(backTo pos (starEach es X.env)).any (·.1)=false:=by rfl):ah X (.Call (.Name x p) (e::es) [] pos) (jK sp t):=by
 obtain⟨f,v,l,b,g,F⟩:=F.ex;refine PE.imp (Vw F m j l b g .nil p9 d a i c) λσ0 H u h=>?_
 obtain⟨s,M,Q,hs,o,n,b⟩:=h;exact⟨s,M,_,hs,o,n,λrs M1 vs H1 q e1 r r1=>⟨rs,M1,Q,by rw[qJ];exact r1,r,q,b.ext e1⟩⟩
theorem VF(F:zG X.prog X.w X.K X.mg X.base k x ps sp)(i:aI k X.A)(d:Gl X x:=by rfl)(a:(x==("__debug__":Str))=false:=by decide):ah X (.Call (.Name x p) [] [] pos) (jK sp mK):=by
 obtain⟨f,n,g,b,c,F⟩:=F.ex;refine PE.imp (U0 F i d g b c .nil p9 a) λσ0 H m h=>?_
 obtain⟨o,M,Q,hs,l,j,b⟩:=h;exact⟨[],M,Q,aa.nil,l,j,b⟩
def iZ(N:aA)(rs:LR):bb:=rs.map some++List.replicate (N.length-rs.length) none
theorem Su{K:ag}{rs:LR}{vs:LV}(r:aa K H rs vs):aN K H (iZ N rs) (L2.start N vs):=by
 unfold iZ L2.start;refine⟨by simp[r.length],λi z e=>?_⟩
 have hi:i<rs.length:=by
  by_cases hi:i<rs.length
  . exact hi
  . rw[List.getElem?_append_right (by simpa using hi),List.getElem?_replicate]at e
    split at e<;>cases e
 rw[qG (by simpa using hi),fK]at e
 cases q:rs[i]? with
 |none=>rw[q]at e;cases e
 |some y=>
  rw[q]at e;cases e;obtain⟨v,e1,r1⟩:=r.get q;exact⟨v,by rw[qG (by rw[bu,<-r.length];exact hi),fK,e1];rfl,r1⟩
def nums(n:Nat):LR:=(List.range n).map λ(i:Nat)=>RV.int (i:Int)
theorem mm(n):(nums n).length=n:=by simp[nums]
end
def eR(b H a:Hp):Prop:=a=H∨∃d o u,H d=some (.aZ o u)/\js u=true/\(∀c e,b d≠some (.aZ c e))/\a=upd H d u
theorem eR.inv{X:Cx}{s:Shared}(t:eR X.H₀ H H')(I:Inv X pins σ H s):Inv X pins σ H' s:=by
 rcases t with rfl|⟨p,ob,u,h,n,k,rfl⟩
 . exact I
 have d:∀b,H b=none->b≠p:=λb q w=>by subst w;rw[h]at q;cases q
 refine⟨I.ok,I.os,I.bare,⟨I.base.keep,I.base.slot,λb o q w x=>?_,I.base.there,λb e q=>?_,λb o u q=>?_,λb m q=>?_⟩,I.loc,I.cell,?_,λx c q=>?_,λq l=>?_,λb v q=>?_,I.len⟩
 . have:=I.base.free b o q w x
   rw[aD (d b this)];exact this
 . have e1:=I.base.bh b e q
   rw[aD (jm e1 h (by intro z;cases z))];exact e1
 . have e1:=I.base.aJ b o u q
   rw[aD (by rintro rfl;exact k _ _ q)];exact e1
 . obtain⟨a,e1⟩:=I.base.eG b m q
   exact⟨a,by rw[aD (jm e1 h (by intro z;cases z))];exact e1⟩
 . rw[aD (d _ I.free)];exact I.free
 . have:=I.bO x c q
   rw[aD (d _ this)];exact this
 . obtain⟨i,f,j⟩:=I.pin q l
   exact⟨i,by rw[aD (d _ f)];exact f,j⟩
 . have st:∀c v,aC X.prog X.w H s.heap c v->aC X.prog X.w (upd H p u) s.heap c v:=λc v z=>z.eF (λ_ _ _ q=>q) (λc q=>by rw[aD (jm q h (by intro z;cases z))];exact q) λc r q=>by rw[aD (jm q h (by intro z;cases z))];exact q
   by_cases g:b=p
   . subst g
     rw[c6]at q;cases q;exact st _ _ (I.av b _ h).2
   . rw[aD g]at q
     exact st _ _ (I.av b v q)
theorem uP{s:Shared}{p:Addr}(I:Inv X pins σ H s)(h:H p=some u)(du:js u=true):∃o,s.heap.get? p=some o/\Inv X pins σ (upd H p (.aZ o u)) s/\∀o' u',X.H₀ p≠some (.aZ o' u'):=by
 have hz:=I.av p u h;obtain⟨ob,e⟩:∃o,s.heap.get? p=some o:=by
  cases u<;>first|(cases du;done)|skip
  . obtain⟨_,_,_,_,o,_,_,e,_⟩:=hz;exact⟨o,e⟩
  . obtain⟨_,_,_,_,o,_,_,e,_⟩:=hz;exact⟨o,e⟩
 have nf:∀o' u',H p≠some (.aZ o' u'):=λo' u' z=>by rw[h]at z;cases z;cases du
 have np:∀b,H b=none->b≠p:=λb q w=>by subst w;rw[h]at q;cases q
 have nt:∀c xs,H c=some (.tup xs)->c≠p:=λc xs q w=>by subst w;rw[h]at q;cases q;cases du
 have no:∀c y,H c=some (.own y)->c≠p:=λc y q w=>by subst w;rw[h]at q;cases q;cases du
 refine⟨ob,e,⟨I.ok,I.os,I.bare,⟨I.base.keep,I.base.slot,λb o q w x=>?_,I.base.there,λb xs' q=>?_,λb o u q=>?_,λb ps q=>?_⟩,I.loc,I.cell,?_,λx c q=>?_,λq hq=>?_,λb v q=>?_,I.len⟩,λo' u' z=>nf o' u' (I.base.aJ _ _ _ z)⟩
 . have:=I.base.free b o q w x
   rw[aD (np b this)];exact this
 . have e1:=I.base.bh b xs' q
   rw[aD (nt _ _ e1)];exact e1
 . have e1:=I.base.aJ b o u q
   rw[aD (by rintro rfl;exact nf _ _ e1)];exact e1
 . obtain⟨more,e1⟩:=I.base.eG b ps q
   exact⟨more,by rw[aD (by rintro rfl;rw[h]at e1;cases e1;cases du)];exact e1⟩
 . rw[aD (np _ I.free)];exact I.free
 . have:=I.bO x c q
   rw[aD (np _ this)];exact this
 . obtain⟨a1,a2,a3⟩:=I.pin q hq
   exact⟨a1,by rw[aD (np _ a2)];exact a2,a3⟩
 . have st:∀c v,aC X.prog X.w H s.heap c v->aC X.prog X.w (upd H p (.aZ ob u)) s.heap c v:=λc v z=>z.eF (λ_ _ _ q=>q) (λc q=>by rw[aD (no _ _ q)];exact q) λc ys q=>by rw[aD (nt _ _ q)];exact q
   by_cases hb:b=p
   . subst hb
     rw[c6]at q;cases q;exact⟨e,st _ _ hz⟩
   . rw[aD hb]at q
     exact st _ _ (I.av b v q)
structure iC(H0 Hs:Hp)(K:ag)(J:It)(xs:LR)(ok:RM->Prop)(un:RM->RM)(H1:Hp):Prop where
 turn:∀i H M,Ext H1 H->View K H M->ok M->∀x,xs[i]? =some x->J.go i H/\∀v H',J.CL i H v H'->Ext H H'/\(∀M,View K H M->View K H' M)/\Rep K H' x v
 stop:∀i H M,Ext H1 H->View K H M->ok M->xs.length<=i->J.stop i H
 cu:∀H M,Ext H1 H->View K H M->ok M->∃H',eR H0 H H'/\bj H H'/\Ext Hs H'/\View K H' (un M)
abbrev gy:=bb->RM->(LR->(RM->Prop)->(RM->RM)->RM->Prop)->Prop
abbrev ej:RM->Prop:=λ_=>True
noncomputable def upI (H0:Hp)(K:ag)(ti:gy):TI:=λσ0 H R=>∃σ M Q,aN K H σ σ0/\View K H M/\ti σ M Q/\∀xs ok un M' J H',Q xs ok un M'->Ext H H'->View K H' M'->iC H0 H K J xs ok un H'->R J H'
def iM(X:Cx)(tg a:Expr)(b:gy):Prop:=PI X tg a (upI X.H₀ X.K b)
section
variable {X:Cx}{tg:Expr}
noncomputable def EX (te:aq):gy:=λσ M Q=>te σ M λv M1=>match v with
 | .tup xs=>Q xs ej id M1
 | .ls xs=>Q xs ej id M1
 | .ref a=>match M1 a with
  |some (.lst xs)=>Q xs (λM=>M a=some (.lst xs)) id M1
  |_=>False
 |_=>False
theorem nj{K:ag}{H1:Hp}{b:RM->Prop}(es:Ext Hs H1):∀H M,Ext H1 H->View K H M->b M->∃a,eR H0 H a/\bj H a/\Ext Hs a/\View K a (id M):=λH M e v _=>⟨H,.inl rfl,(Ext.refl H).w,es.trans e,v⟩
theorem XN{K:ag}{H1:Hp}{a:Addr}{rs:LR}{vs:LV}(h:Fz K H1 a vs)(r:aa K H1 rs vs)(es:Ext Hs H1):iC H0 Hs K (wg K a) rs ej id H1 where
 turn:=λi H M e _ _ x hx=>by
  obtain⟨v,e1,r1⟩:=r.get hx;refine⟨⟨vs,v,(h.ext e).sq,e1⟩,λv' b y=>?_⟩
  obtain⟨rfl,y⟩:=y;have:=y vs (h.ext e).sq;rw[e1]at this;cases this;exact⟨.refl _,λ_ w=>w,Rep.ext e x v r1⟩
 stop:=λi H M e _ _ hi=>⟨vs,(h.ext e).sq,by rw[<-r.length];exact hi⟩
 cu:=nj es
theorem Yb{K:ag}{H1:Hp}{a:Addr}{rs:LR}{vs:LV}(h:bI K H1 a vs)(r:aa K H1 rs vs)(es:Ext Hs H1):iC H0 Hs K (CM K a) rs ej id H1 where
 turn:=λi H M e _ _ x hx=>by
  obtain⟨v,e1,r1⟩:=r.get hx;refine⟨⟨vs,v,bI.ext e h,e1⟩,λv' b y=>?_⟩
  obtain⟨rfl,y⟩:=y;have:=y vs (bI.ext e h);rw[e1]at this;cases this;exact⟨.refl _,λ_ w=>w,Rep.ext e x v r1⟩
 stop:=λi H M e _ _ hi=>⟨vs,bI.ext e h,by rw[<-r.length];exact hi⟩
 cu:=nj es
theorem Yc{K:ag}{H1:Hp}(n)(es:Ext Hs H1):iC H0 Hs K (wk 0 n) (nums n) ej id H1 where
 turn:=λi H M e _ _ x hx=>by
  have hi:i<n:=by have:=(jT.mp hx).1;rw[mm]at this;exact this
  have a:x= .int (i:Int):=by simp[nums,hi]at hx;exact hx.symm
  subst a;refine⟨hi,λv' b y=>?_⟩
  obtain⟨rfl,rfl⟩:=y;exact⟨.refl _,λ_ w=>w,by simp only[Rep];simp⟩
 stop:=λi H M e _ _ hi=>by rw[mm]at hi;exact hi
 cu:=nj es
theorem Yd{K:ag}{H1:Hp}{a:Addr}{rs:LR}(es:Ext Hs H1):iC H0 Hs K (wg K a) rs (λM=>M a=some (.lst rs)) id H1 where
 turn:=λi H M e d c x hx=>by
  obtain⟨f,b,vs,rfl,r⟩:=d a _ c;obtain⟨v,e1,r1⟩:=r.get hx;refine⟨⟨vs,v,cj.of b,e1⟩,λv' g y=>?_⟩
  obtain⟨rfl,y⟩:=y;have:=y vs (cj.of b);rw[e1]at this;cases this;exact⟨.refl _,λ_ w=>w,r1⟩
 stop:=λi H M e d c hi=>by
  obtain⟨f,b,vs,rfl,r⟩:=d a _ c;exact⟨vs,cj.of b,by rw[<-r.length];exact hi⟩
 cu:=nj es
theorem Qb{l:Expr}(w:ah X l te):iM X tg l (EX te):=by
 intro i s n H R I h;obtain⟨E,M,Q,hs,A,z,t⟩:=h;refine ay (w i s n H (λx H1=>(∃a vs rs k M1,x= .ref a/\cj X.K H1 a vs/\iC X.H₀ H X.K (wg X.K a) rs k id H1/\Q rs k id M1/\Ext H H1/\View X.K H1 M1)∨∃a vs rs M1,x= .ref a/\bI X.K H1 a vs/\aa X.K H1 rs vs/\Q rs ej id M1/\Ext H H1/\View X.K H1 M1) I ⟨E,M,_,hs,A,z,λrv M1 v H1 q e1 f r1=>?_⟩) λu d ⟨v,H1,I1,r1,D⟩=>?_
 . cases rv with
   |ls j=>simp only[Rep]at r1;obtain⟨a,vs,rfl,c,g⟩:=r1;exact .inl ⟨a,vs,j,ej,M1,rfl,c.sq,XN c g e1,q,e1,f⟩
   |tup j=>simp only[Rep]at r1;obtain⟨a,vs,rfl,c,g⟩:=r1;exact .inr ⟨a,vs,j,M1,rfl,bI.of c,g,q,e1,f⟩
   |ref a=>
    simp only[Rep]at r1;subst r1;dsimp only at q;split at q
    . rename_i j y
      obtain⟨F,u,vs,rfl,r⟩:=f a _ y;exact .inl ⟨a,vs,j,_,M1,rfl,cj.of u,Yd e1,q,e1,f⟩
    . exact q.elim
   |_=>exact(show False from q).elim
 . rcases D with⟨a,vs,rs,k,M1,rfl,c,g,q,e1,f⟩|⟨a,vs,rs,M1,rfl,c,g,q,e1,f⟩
   . cases r1
     obtain⟨ab,rv,p,C⟩:=I1.list c;refine wpAny_pyIter_list p.isList ?_;refine⟨d.heap.objs.size,[d.heap.objs.size],_,_,H1,rfl,I1.kept (t':=d.toks) λb o e=>bw _ e,Sr a _,⟨_,dE _ rfl,rfl,rfl⟩,λb m=>?_,t rs k id M1 _ H1 q e1 f g⟩
     have e:b=d.heap.objs.size:=by simpa using m
     subst e;exact I1.fU (aK _) (I1.av.fresh (aK _))
   . cases r1
     obtain⟨ab,rv,p,C⟩:=I1.tuple c;refine wpAny_pyIter_tuple (show d.heap.IsTuple a ab.toArray from p) ?_
     refine⟨d.heap.objs.size,[d.heap.objs.size],_,_,H1,rfl,I1.kept (t':=d.toks) λb o e=>bw _ e,Sa a _,⟨_,dE _ rfl,rfl,rfl⟩,λb m=>?_,t rs ej id M1 _ H1 q e1 f (Yb c g e1)⟩
     have e:b=d.heap.objs.size:=by simpa using m
     subst e;exact I1.fU (aK _) (I1.av.fresh (aK _))
noncomputable def rM (Q:LR->(RM->Prop)->(RM->RM)->RM->Prop):LR->RM->Prop:=λrs M=>match rs with
 | [.int n]=>-(2 ^ 62)<=n/\n<2 ^ 62/\Q (nums n.toNat) ej id M
 |_=>False
def EY(te:aq):gy:=λσ M Q=>te σ M λv M1=>rM Q [v] M1
theorem PI.imp{t t':TI}(h:PI X tg iter t)(i:∀σ H R,t' σ H R->t σ H R):PI X tg iter t':=λpins s σ H R I w=>h pins s σ H R I (i σ H R w)
theorem XQ{a:Expr}{p pos:Pos}(i:X.mg "range" =none)(f:ah X a te)(b:Gl X "range":=by rfl)(d:starEach [a] X.env= [(false,eval a X.env)]:=by rfl)(c:starEach (a::[]) X.env=(false,eval a X.env)::starEach [] X.env:=by rfl):
 iM X tg (.Call (.Name "range" p) [a] [] pos) (EY te):=PI.imp (SR b i (yt f B9 c) d) λσ0 H R h=>by
 obtain⟨r,M,Q,hs,k,j,g⟩:=h;refine⟨r,M,rM Q,hs,k,j,λrs M1 vs H1 q e1 o r1=>?_⟩
 unfold rM at q;split at q
 . rename_i n
   obtain⟨l,m,q⟩:=q;obtain⟨v,rfl,e⟩:=r1.one;simp only[Rep]at e;subst e;exact⟨n,rfl,l,m,g _ ej id M1 _ H1 q e1 o (Yc _ e1)⟩
 . exact q.elim
def LH(ti:gy)(g:iN)(tb:cU):cU:=λD σ M=>ti σ M λxs ok un M1=>i6 g tb D ok un xs σ M1
def Ls(H0:Hp)(D:Ends):Ends where
 nx:=λσ H=>∃H',eR H0 H H'/\D.nx σ H'
 rt:=λv H=>∃H',eR H0 H H'/\D.rt v H'
 bk:=D.bk
 ct:=D.ct
theorem Fx{body:List Stmt}{g:iN}{tb:cU}(hp:PassesOwn (model X.prog X.w) X.A X.env X.xe)(hc:X.calm=true)(hi:iM X tg iter ti)(hg:jZ X tg g)(hb:ju X body tb)
 (hs:∀x,foldedSetIterable iter X.env x=pure x:=by intro _;rfl):eJ X (.For tg iter body [] pos) (LH ti g tb):=by
 intro pins s σ0 H D0 I h;refine ay (Xl hp hc hi hg hb hs pins s σ0 H (Ls X.H₀ D0) I ?_) λf s' h'=>?_
 rotate_left
 . cases f with
   |next=>obtain⟨σ1,H1,I1,H2,t,q⟩:=h';exact⟨σ1,H2,t.inv I1,q⟩
   |brk=>exact h'
   |cont=>exact h'
   |ret v=>obtain⟨x1,σ1,H1,I1,r1,H2,t,q⟩:=h';exact⟨x1,σ1,H2,t.inv I1,r1,q⟩
 obtain⟨σ,M,D,hs,hv,ht,hd⟩:=h;refine⟨σ,M,_,hs,hv,ht,λxs ok un M1 J H1 q e1 v1 hJ=>?_⟩
 have lY:∀{σ4:bb} {M4:RM} {σ04:L2.St} {H4:Hp},(ok M4/\D.nx σ4 (un M4))->Ext H1 H4->View X.K H4 M4->aN X.K H4 σ4 σ04->(Ls X.H₀ D0).nx σ04 H4:=λq4 e4 v4 r4=>by
  obtain⟨H5,t5,e5,x5,v5⟩:=hJ.cu _ _ e4 v4 q4.1;exact⟨H5,t5,hd.nx _ _ _ H5 q4.2 x5 v5 (r4.aX e5)⟩
 refine⟨λi m σ0 H=>m=xs.length-i/\i<=xs.length/\∃σ M,aN X.K H σ σ0/\View X.K H M/\i6 g tb D ok un (xs.drop i) σ M/\Ext H1 H,⟨_,rfl,jY _,σ,M1,hs.ext e1,v1,by simpa using q,.refl _⟩,?_⟩
 rintro i m σ0 H ⟨rfl,hi,σ,M,hs,hv,hf,e⟩
 by_cases hlt:i<xs.length
 . have ed:xs.drop i=xs[i]::xs.drop (i+1):=by simp
   rw[ed]at hf;obtain⟨av,hf⟩:=hf;obtain⟨hgo,hy⟩:=hJ.turn i H M e hv av xs[i] (by simp)
   refine .inr ⟨hgo,λσ0 H=>∃σ M,aN X.K H σ σ0/\View X.K H M/\i6 g tb D ok un (xs.drop (i+1)) σ M/\Ext H1 H,λσ' H' h=>⟨_,∅,rfl,hlt,h⟩,λx H' y=>?_⟩
   obtain⟨e2,w2,r2⟩:=hy x H' y;refine⟨xs[i],σ,M,_,r2,hs.ext e2,w2 M hv,hf,λσ' M' σ0' H'' q e3 v3 r3=>?_⟩
   have e13:=(e.trans e2).trans e3;refine⟨σ',M',_,r3,v3,q,⟨λσ4 M4 σ04 H4 q4 e4 v4 r4=>⟨σ4,M4,r4,v4,q4,e13.trans e4⟩,λrv M4 v H4 q4 e4 v4 r4=>?_,λσ4 M4 σ04 H4 q4 e4 v4 r4=>lY q4 (e13.trans e4) v4 r4,λσ4 M4 σ04 H4 q4 e4 v4 r4=>⟨σ4,M4,r4,v4,q4,e13.trans e4⟩⟩⟩
   obtain⟨H5,t5,e5,x5,v5⟩:=hJ.cu _ _ (e13.trans e4) v4 q4.1;exact⟨H5,t5,hd.rt _ _ _ H5 q4.2 x5 v5 (Rep.aX e5 _ _ r4)⟩
 . have ei:i=xs.length:=by omega
   subst ei;rw[List.drop_length]at hf;exact .inl ⟨hJ.stop _ H M e hv hf.1 (aK _),lY hf e hv hs⟩
end
theorem SO{env:Env}:∀a,(∀y∈a.names,y.2= .free->∃c,env.cells.lookup y.1=some c)->∃f,closureFor a env=pure f/\(∀y c,f.lookup y=some c->env.cells.lookup y=some c)/\∀y∈a.names,y.2= .free->∃c,f.lookup y.1=some c:=by
 intro a h;have t:∀(l:List (Str×NameKind)) (cs:List (Str×Addr)),(∀y∈l,y.2= .free->∃c,env.cells.lookup y.1=some c)->(∀y c,cs.lookup y=some c->env.cells.lookup y=some c)->
  ∃f,(forIn l cs λ(x:Str×NameKind) (r:List (Str×Addr))=>(match x with|(name,kind)=>if(kind==NameKind.free)=true then do let c<-cellOf env name;pure (ForInStep.yield ((name,c)::r))else pure (ForInStep.yield r):Sem (ForInStep (List (Str×Addr)))))=(pure f:Sem _)/\
   (∀y c,f.lookup y=some c->env.cells.lookup y=some c)/\(∀y c,cs.lookup y=some c->∃A,f.lookup y=some A)/\∀y∈l,y.2= .free->∃c,f.lookup y.1=some c:=by
  intro l
  induction l with
  |nil=>intro cs _ o;exact⟨cs,by simp,o,λy c e=>⟨c,e⟩,λy b=>by cases b⟩
  |cons x l ih=>
   intro cs u o;obtain⟨n,k⟩:=x
   by_cases v:k= .free
   . subst v
     obtain⟨c,ec⟩:=u (n,.free) ia rfl;have e0:cellOf env n=pure c:=by unfold cellOf;rw[ec]
     obtain⟨f,e1,g,i,j⟩:=ih ((n,c)::cs) (λy b=>u y (gw _ b)) (λy d e=>by
      rw[mV]at e;split at e
      . rename_i z;cases e;rw[gd z];exact ec
      . exact o y d e)
     refine⟨f,?_,g,λy d e=>?_,λy b s=>?_⟩
     . rw[sA]
       simp only[beq_self_eq_true,if_true,e0,pure_bind];exact e1
     . by_cases b:y=n
       . subst b;exact i y c (by simp)
       . exact i y d (by rw[mV,nZ.mpr b];exact e)
     . rcases dh.mp b with rfl|b
       . exact i n c (by simp)
       . exact j y b s
   . obtain⟨f,e1,g,i,j⟩:=ih cs (λy b=>u y (gw _ b)) o
     have C:(k==NameKind.free)=false:=by simpa using v
     refine⟨f,?_,g,i,λy b s=>?_⟩
     . rw[sA]
       simp only[C,jA,if_false,pure_bind];exact e1
     . rcases dh.mp b with rfl|b
       . exact ba s v
       . exact j y b s
 obtain⟨f,e1,g,_,j⟩:=t a.names [] h (λy c e=>by simp at e)
 refine⟨f,?_,g,j⟩;unfold closureFor;have w:=congrArg (λm=>m >>= λr=>(pure r:Sem (List (Str×Addr)))) e1
 simp only[pure_bind]at w;rw[<-w]
noncomputable def f9 (env:Env)(p:Str×NameKind):Str×NameKind:=if(p.2==NameKind.free&&env.scope.kind== .function&&env.kindOf p.1==some .cell)then(p.1,NameKind.cell)else(p.1,p.2)
theorem Ud(env)(p:Str×NameKind):(f9 env p).1=p.1:=by unfold f9;split<;>rfl
theorem AA(env)(p:Str×NameKind):(f9 env p).2=p.2∨((f9 env p).2= .cell/\p.2= .free):=by
 unfold f9;split
 . rename_i h
   rw[aU,aU]at h;exact .inr ⟨rfl,gd h.1.1⟩
 . exact .inl rfl
theorem xc{env:Env}{x:Str}:∀{a:List (Str×NameKind)},(a.map (f9 env)).lookup x=(a.find? λp=>x==p.1).map λp=>(f9 env p).2
 | []=>rfl
 |p::r=>by
  rw[bQ,jy];obtain⟨n,k⟩:=p;have e:f9 env (n,k)=(n,(f9 env (n,k)).2):=Prod.ext (Ud env (n,k)) rfl;rw[e,mV];cases hx:x==n with
  |true=>rfl
  |false=>exact xc
theorem xf{x:Str}:∀{a:List (Str×NameKind)},a.lookup x=(a.find? λp=>x==p.1).map λp=>p.2
 | []=>rfl
 |(n,k)::r=>by
  rw[mV,jy];cases hx:x==n with
  |true=>rfl
  |false=>exact xf
theorem HB{env:Env}{a:List (Str×NameKind)}{x:Str}{k:NameKind}(c:∀y∈a,y.2≠.cell)(d:k= .cell∨k= .free)
 (h:(a.map (f9 env)).lookup x=some k):a.lookup x=some .free:=by
 rw[xc]at h;rw[xf];cases e:a.find? λp=>x==p.1 with
 |none=>rw[e]at h;cases h
 |some p=>
  rw[e]at h;have b:(f9 env p).2=k:=dH h;have f:=List.mem_of_find?_eq_some e;show some p.2=some .free;rcases AA env p with z|z
  . rcases d with rfl|rfl
    . exact ba (z.symm.trans b) (c p f)
    . rw[<-b,z]
  . rw[z.2]
theorem HA{env:Env}{a:List (Str×NameKind)}{x:Str}(h:a.lookup x=some .free):(a.map (f9 env)).lookup x=some .cell∨(a.map (f9 env)).lookup x=some .free:=by
 rw[xf]at h;rw[xc];cases e:a.find? λp=>x==p.1 with
 |none=>rw[e]at h;cases h
 |some p=>
  rw[e]at h;have b:p.2= .free:=dH h;show some (f9 env p).2=some .cell∨some (f9 env p).2=some .free;rcases AA env p with z|z
  . right;rw[z,b]
  . left;rw[z.1]
noncomputable def c0 (X:Cx)(scope:Scope)(cl:List (Str×Addr))(C:Addr)(a:aA)(s:Shared)(H:Hp)(b:List Addr):Cx:=
 { X with N:=a,s₀:=s,H₀:=H,env:=compEnvC scope cl C X.env,outer:=X.stack,ex:=b,fn:=λ_=>false,pn:=[],xe:=λ_ _=>False }
theorem Yy{s:Shared}{scope:Scope}{cl:List (Str×Addr)}(I:Inv X pins σ H s)(d:∀b∈i,mP X pins H b)(g:∀b∈i,b<s.heap.objs.size)
 (k:scope.kind= .function) (j:s.heap.objs.size<=C) (f:∀y c,cl.lookup y=some c->X.env.cells.lookup y=some c) (m:∀y∈scope.names,y.2= .free->∃c,cl.lookup y.1=some c) (h:∀y∈scope.names,y.2≠.cell):
 (c0 X scope cl C Nc s H i).Ok where
 mod:=I.ok.mod
 kind:=k
 glob:=I.ok.glob
 blt:=I.ok.blt
 above:=j
 inj:=λx y c e1 l=>I.ok.inj x y c (f x c e1) (f y c l)
 has:=λx hx=>by
  have e:scope.names.lookup x=some .free:=by
   rcases hx with hx|hx
   . exact HB h (.inl rfl) hx
   . exact HB h (.inr rfl) hx
  exact m (x,.free) (PySem.mem_of_lookup e) rfl
 qN:=λx c z=>by cases z
 hd:=I.ok.hd
 frames:=I.ok.frames
 vN:=.inl rfl
 sT:=λb a=>⟨λz=>ba (fu (g b a) j) (by rw[show b=C from z];exact jV _),λx c e=>(d b a).2.2.2.2.1 x c (f x c e)⟩
 bs:=λb o e=>I.bs b o e
 jd:=bR I.ok.jd I.sz
 iu:=λb o e a=>by
  rcases(d b a).2.2.2.1 with z|z
  . exact I.ok.iu b o e z
  . exact ba (fu (bx e) (bR I.ok.jd z)) (jV _)
 il:=λb a z=>by
  rcases dh.mp (I.fJ b z)with e|e
  . exact(d b a).2.1 e
  . exact(d b a).2.2.1 e
 dP:=I.stack
 nh:=I.fI
section
variable {prog:Program}{w:World}{A:Around}{R:Result->Shared->Prop}{s:Shared}
abbrev Nv:aP:=λ_ _=>False
noncomputable abbrev AV (a:aS) (env:Env):Sem Bool:=forIn a true λc r=>if r=true then do let b<-isTrue c env (eval c env);pure (ForInStep.yield b)else pure (ForInStep.yield r)
theorem TJ{env:Env}(I:Nat->Shared->Prop)
 (u:∀n s,I n s->wpAny (model prog w) A (pyNext it) (λr c=>(r=none/\R (.ok .next) c)∨∃v,r=some v/\wpAny (model prog w) A (letOwnedTupleGo target it v) (λ_ d=>wpAny (model prog w) A (assign target env v) (λ_ g=>
  wpAny (model prog w) A (AV ifs env) (λok e=>
   if ok=true then wpAny (model prog w) A (eval elt env) (λx i=>
    wpAny (model prog w) A (call (.builtin "list.append") [acc,x]) (λ_ j=>∃m,m<n/\I m j) Nv i) Nv e
   else ∃m,m<n/\I m e) Nv g) Nv d) Nv c) Nv s)
 (n) (h:I n s):
 codeAny (model prog w) A (.compLoop (.ListComp elt [⟨target,iter,ifs,0⟩] scope pos) 0 it acc env) R s:=by
 refine codeAny_loop rfl I (λn s y=>?_) n h
 show wpAny _ A ((compTurn (.ListComp elt [⟨target,iter,ifs,0⟩] scope pos) 0 it acc env).onRaise (λx=>do noteFrame x env;theTreesLotGoes x)) _ _ s
 refine wpAny_noted ?_;rw[compTurn_list];refine aj (wpAny_standAt (aj (gx (u n s y) (λr c a=>?_) λ_ _ b=>b.elim)))
 rcases a with⟨rfl,a⟩|⟨v,rfl,a⟩
 . exact aH a
 . refine aj (gx a (λ_ d k=>?_) λ_ _ b=>b.elim)
   refine aj (gx k (λ_ g l=>aj (gx l (λok e f=>?_) λ_ _ b=>b.elim)) λ_ _ b=>b.elim)
   cases ok with
   |false=>exact aH ⟨rfl,f⟩
   |true=>
    exact aj (aj (gx f (λx i o=>aj (gx o (λ_ j t=>aH (aH ⟨rfl,t⟩)) λ_ _ b=>b.elim)) λ_ _ b=>b.elim))
end
def qy(X:Cx)(b:aS)(t:c7):Prop:=
 ∀(a:aF) (s:Shared) (σ:L2.St) (H:Hp) (Q:Bool->Hp->Prop),Inv X a σ H s->CJ X.K t σ H Q->wpAny (model X.prog X.w) X.A (AV b X.env) (TP X a σ Q) X.xe s
def PJ:c7:=λ_ M Q=>Q true M
theorem OK:qy X [] PJ:=by
 intro a s e H f I h;obtain⟨g,M,Q,hs,d,c,b⟩:=h;exact aH ⟨H,I,b true M H c (.refl H) d⟩
theorem OJ{t:c7}(h:dZ X c t):qy X [c] t:=by
 intro a s b H d I e;have:=h a s b H d I e;unfold AV;rw[sA];simp only[if_true,bind_assoc,pure_bind];refine aj (ay this λb f q=>?_)
 simp only[List.forIn_nil];exact aH q
def jQ(md:Bool)(a:LR)(M:RM)(Q:ao):Prop:=match md with
 |true=>∀p,M p=none->Q (.ref p) (put M p (.lst a))
 |false=>Q (.ls a) M
noncomputable def gj (bd:RV->Option (LR))(md:Bool)(b:RM->Prop)(un:RM->RM)(e:c7)(d:aq)(a:List (Option RV)):LR->LR->RM->ao->Prop
 | [],acc,M,Q=>b M/\jQ md acc (un M) Q
 |x::xs,acc,M,Q=>b M/\match bd x with
  |some bs=>e (bs.map some++a) M λc M1=>(c=true->d (bs.map some++a) M1 λv M2=>gj bd md b un e d a xs (acc++ [v]) M2 Q)/\(c=false->gj bd md b un e d a xs acc M1 Q)
  |none=>False
noncomputable def rF (bd:RV->Option (LR))(md:Bool)(ti:gy)(cap:List Nat)(tt:c7)(te:aq):aq:=λσ M Q=>ti σ M λxs ok un M1=>xs.length<sizeLine/\gj bd md ok un tt te (cap.map λi=>(σ[i]?).join) xs [] M1 Q
section
variable {X:Cx}
theorem Th{elt iter tg:Expr}{nm:aA}(caps:List (Nat×Str)){osc:Scope}{oN:aA}
 (hc:X.calm=true) (hi:iM X tg iter ti)
 (hif:∀cl C s H fp,qy (c0 X scope cl C (nm++caps.map Prod.snd) s H fp) ifs tt)
 (hel:∀cl C s H fp,ah (c0 X scope cl C (nm++caps.map Prod.snd) s H fp) elt te)
 (hX:X.env.scope=osc) (hN:X.N=oN)
 (fw:∀p∈caps,oN[p.1]? =some p.2/\scope.names.lookup p.2=some .free/\(osc.names.lookup p.2=some .cell∨osc.names.lookup p.2=some .free))
 (eL:∀y∈scope.names,y.2= .free->(osc.names.lookup y.1=some .cell∨osc.names.lookup y.1=some .free))
 (bB:∀y∈scope.names,y.2≠.cell) (bF:scope.kind= .function) (ck:∀y∈scope.names,y.2= .local->scope.names.lookup y.1=some .local)
 (hb:∀r bs,bd r=some bs->bs.length=nm.length)
 (hpg:∀cl C s2 H2 fp (pins':aF) (s6:Shared) (vs0 cv:List (Option V)) (H6:Hp) (rv:RV) (xv:V) (u:Value) (bs:LR) (Q1:Unit->Shared->Prop),vs0.length=nm.length->Inv (c0 X scope cl C (nm++caps.map Prod.snd) s2 H2 fp) pins' (vs0++cv) H6 s6->RelV xv u->Rep X.K H6 rv xv->bd rv=some bs->
  (∀vs s7,aa X.K H6 bs vs->Inv (c0 X scope cl C (nm++caps.map Prod.snd) s2 H2 fp) pins' (vs.map some++cv) H6 s7->Q1 () s7)->wpAny (model X.prog X.w) X.A (assign tg (compEnvC scope cl C X.env) u) Q1 Nv s6)
 (hs:∀v,foldedSetIterable iter X.env v=pure v) {s:Shared} (I:Inv X pins σ0 H s) (hw:up X.K (rF bd md ti (caps.map Prod.fst) tt te) σ0 H Q0)
 (fin:∀(D C:Addr) (s5:Shared) (m5:bo) (H5:Hp),s5.heap.Ns C m5->(∀h',Heap.SameBut C s5.heap h'->Inv X pins σ0 H5 { s5 with heap:=h' })->Q0 (.ref D) H5->H5 C=none->C≠X.env.locals->X.s₀.heap.objs.size<=C->(∀y c,X.env.cells.lookup y=some c->c≠C)->(∀p∈X.pn++pins,p.1≠C)->compPost (model X.prog X.w) X.A X.xe use PP (.ref D) C (.ok .next) s5):
 wpAny (model X.prog X.w) X.A (comprehension (.ListComp elt [⟨tg,iter,ifs,0⟩] scope pos) scope X.env pos' (newList []) false (eval iter X.env) use) PP X.xe s:=by
 subst hX;subst hN;obtain⟨σ,M,Q,hst,hv,ht,hk⟩:=hw;obtain⟨cl,hclos,hcl1,hcl2⟩:=SO scope λy hy hf=>I.ok.has y.1 (eL y hy hf)
 refine wpAny_comprehension_free (use:=use) (cl:=cl) rfl hs hclos bF ck ?_;refine gx (hi pins s σ0 H (λJ H1=>∃xs ok un M1,Ext H H1/\View X.K H1 M1/\iC X.H₀ H X.K J xs ok un H1/\xs.length<sizeLine/\gj bd md ok un tt te ((caps.map Prod.fst).map λi=>(σ[i]?).join) xs [] M1 Q) I ⟨σ,M,_,hst,hv,ht,λxs ok un M' J H' q e w hJ=>⟨xs,ok,un,M',e,w,hJ,q.1,q.2⟩⟩)
  (λv s1 h1=>gx h1 (λitv s2 h2=>?_) λ_ _ e=>e) λ_ _ e=>e
 obtain⟨it,fp,tn,J,H2,rfl,I2,T,st2,f2,xs,ok,un,M1,e2,w2,hJ,hz,hq⟩:=h2;have lR:∀b∈fp,b<s2.heap.objs.size:=λb hb=>by obtain⟨o,e,_⟩:=T.obj _ _ st2 b hb;exact bx e
 refine jS (wpAny_newFunctionEnv bB (by intro y hy;simp at hy) (λh₁ hns₁ hsb₁=>?_) bF)
 dsimp only at hns₁ hsb₁ ⊢;generalize hH2:s2.heap.push { cls:=.type "list",dict:=none,data:=.seq ([]:ak).toArray }=hp2 at hns₁ hsb₁ ⊢;have hCs:hp2.objs.size=s2.heap.objs.size+1:=by rw[<-hH2,Heap.size_push]
 have hDC:s2.heap.objs.size≠hp2.objs.size:=by rw[hCs];exact cJ (Nat.lt_succ_self _)
 have hCle:s2.heap.objs.size<=hp2.objs.size:=by rw[hCs];exact n8 _
 have old:∀b o,s2.heap.get? b=some o->h₁.get? b=some o:=λb o e=>hsb₁.extBut b o (cJ (by rw[hCs];exact zx (bx e))) (bw _ (hH2 ▸ bw _ e))
 have hacc:h₁.get? s2.heap.objs.size=some { cls:=.type "list",data:=.seq ([]:ak).toArray }:=hsb₁.extBut _ _ hDC (bw _ (hH2 ▸ dE _ rfl));generalize hD:s2.heap.objs.size=D at*;generalize hCg:hp2.objs.size=C at*;have hDfp:∀b∈fp,b≠D:=λb hb=>cJ (lR b hb)
 have okB:(c0 X scope cl C (nm++caps.map Prod.snd) s2 H2 fp).Ok:=Yy I2 f2 (by rw[hD];exact lR) bF (by rw[hD];exact hCle) hcl1 hcl2 bB
 have fr:∀b,D<=b->H2 b=none:=λb hb=>I2.av.fresh (by rw[hD];exact hb)
 have capsV:∃cv:List (Option V),cv.length=caps.length/\(∀(j:Nat) v,cv[j]? =some (some v)->∃p,caps[j]? =some p/\σ0[p.1]? =some (some v))/\
  ∀(j:Nat) r,((caps.map Prod.fst).map λi=>(σ[i]?).join)[j]? =some (some r)->∃v,cv[j]? =some (some v)/\Rep X.K H2 r v:=by
  refine⟨caps.map λp=>(σ0[p.1]?).join,by simp,λj v e=>?_,λj r e=>?_⟩
  . rw[fK]at e
    cases q:caps[j]? with
    |none=>rw[q]at e;cases e
    |some p=>
     rw[q]at e;have e':(σ0[p.1]?).join=some v:=dH e;refine⟨p,rfl,?_⟩;cases z:σ0[p.1]? with
     |none=>rw[z]at e';cases e'
     |some o=>rw[z]at e';have:o=some v:=e';rw[this]
  . rw[fK,fK]at e
    cases q:caps[j]? with
    |none=>rw[q]at e;cases e
    |some p=>
     rw[q]at e;have e':(σ[p.1]?).join=some r:=dH e;have e'':σ[p.1]? =some (some r):=by
      cases z:σ[p.1]? with
      |none=>rw[z]at e';cases e'
      |some o=>rw[z]at e';have:o=some r:=e';rw[this]
     obtain⟨v,h1,h2⟩:=hst.2 p.1 r e'';refine⟨v,?_,Rep.ext e2 r v h2⟩;rw[fK,q];show some ((σ0[p.1]?).join)=_;rw[h1];rfl
 obtain⟨cv,cvl,cv1,cv2⟩:=capsV;have I3:Inv (c0 X scope cl C (nm++caps.map Prod.snd) s2 H2 fp) [(D,{ cls:=.type "list",data:=.seq ([]:ak).toArray })] (List.replicate nm.length none++cv) H2 { s2 with heap:=h₁,toks:=s2.toks+([]:List (Str×Value)).length }:=by
  refine⟨okB,rfl,I2.bare,Un.kept old,⟨_,hns₁,λi y v a b c=>?_⟩,λy c e=>?_,fr C hCle,λy c e=>I2.bO y c (hcl1 y c e),λp hp=>?_,I2.av.kept old,?_⟩
  . by_cases hi0:i<nm.length
    . rw[qG (by rw[zq];exact hi0),List.getElem?_replicate]at b
      split at b<;>cases b
    . obtain⟨j,rfl⟩:=Nat.exists_eq_add_of_le (Nat.le_of_not_lt hi0)
      rw[List.getElem?_append_right (by rw[zq];omega),zq,zC]at b
      have a:(caps.map Prod.snd)[j]? =some y:=by
       have a':(nm++caps.map Prod.snd)[nm.length+j]? =some y:=a;rw[List.getElem?_append_right ∅,zC]at a';exact a'
      obtain⟨p,q1,q2⟩:=cv1 j v b;have hy:p.2=y:=by
       have a':(caps.map Prod.snd)[j]? =some y:=a;rw[fK,q1]at a';exact dH a'
      subst hy;obtain⟨z1,z2,z3⟩:=fw p (i9 q1);obtain⟨m,hn,hl⟩:=I2.loc;have zp:qM X.env.scope p.2:=by rcases z3 with z|z;exact .inr (.inl z);exact .inr (.inr z)
      obtain⟨u,ru,lk⟩:=hl p.1 p.2 v z1 q2 zp;refine⟨u,ru,.inr ⟨HA z2,?_⟩⟩;obtain⟨c,ec⟩:=hcl2 (p.2,.free) (PySem.mem_of_lookup z2) rfl;have ec':=hcl1 p.2 c ec;rcases lk with⟨k,_⟩|⟨_,c',e',ic⟩
      . have k':X.env.scope.names.lookup p.2=some .local:=k
        rcases z3 with z|z<;>(rw[z]at k';cases k')
      . rw[ec']at e';cases e'
        obtain⟨o,ho,hd⟩:=ic;exact⟨c,ec,o,old c o ho,hd⟩
  . obtain⟨v,o,ho,hd⟩:=I2.cell y c (hcl1 y c e)
    exact⟨v,o,old c o ho,hd⟩
  . have hp':p=(D,{ cls:=.type "list",data:=.seq ([]:ak).toArray }):=by simpa[c0]using hp
    subst hp';refine⟨hacc,fr D (aK _),hDC,λz=>?_,λv=>by simp⟩
    have:=I2.fI D z;rcases dh.mp (I2.fJ D z)with e|e
    . exact ba I2.lt (by rw[<-e,hD];exact jV _)
    . exact I2.tj (by rw[hD];exact aK _) e
  . show(List.replicate nm.length none++cv).length=(nm++caps.map Prod.snd).length
    simp[cvl]
 have W:∀s3:Shared,s3= { s2 with heap:=h₁,toks:=s2.toks+([]:List (Str×Value)).length }->codeAny (model X.prog X.w) X.A (.compLoop (.ListComp elt [⟨tg,iter,ifs,0⟩] scope pos) 0 (.ref it) (.ref D) (compEnvC scope cl C X.env))
  (compPost (model X.prog X.w) X.A X.xe use PP (.ref D) C) s3:=by
  rintro s3 rfl;refine TJ (λn s'=>∃(i:Nat) (v0:List (Option V)) (H':Hp) (M':RM) (accR:LR) (accV:LV) (ab:ak) (k:Nat),n=xs.length-i/\v0.length=nm.length/\i<=xs.length/\accR.length<=i/\
   Inv (c0 X scope cl C (nm++caps.map Prod.snd) s2 H2 fp) [(D,{ cls:=.type "list",data:=.seq ab.toArray k })] (v0++cv) H' s'/\View X.K H' M'/\Ext H2 H'/\aa X.K H' accR accV/\Vals accV ab/\tn i s'.heap/\(∀b∈fp,H' b=none)/\
   gj bd md ok un tt te ((caps.map Prod.fst).map λi=>(σ[i]?).join) (xs.drop i) accR M' Q) ?_ xs.length ⟨0,List.replicate nm.length none,H2,M1,[],[],[],0,rfl,by simp,jY _,aK _,I3,w2,.refl _,aa.nil,.nil,T.keep _ _ _ st2 λb _ o e=>old b o e,λb hb=>(f2 b hb).1,by simpa using hq⟩
  rintro n s' ⟨i,v0,H',M',accR,accV,ab,k,rfl,hv0,hi,hal,I4,w4,e4,ra,rl,st4,f4,hq4⟩;have fpB:∀(pins':aF) (H'':Hp),(∀b∈fp,H'' b=none)->(∀p∈pins',∀b∈fp,p.1≠b)->∀b∈fp,mP (c0 X scope cl C (nm++caps.map Prod.snd) s2 H2 fp) pins' H'' b:=λpins' H'' h1 h2 b hb=>
   ⟨h1 b hb,(okB.sT b hb).1,okB.il b hb,.inl hb,(okB.sT b hb).2,λp hp=>h2 p (by simpa[c0]using hp) b hb⟩
  have pD:∀(o:Obj),∀p∈[(D,o)],∀b∈fp,p.1≠b:=λo p hp b hb=>by
   have:p=(D,o):=by simpa using hp
   subst this;exact(hDfp b hb).symm
  by_cases hlt:i<xs.length
  . have ed:xs.drop i=xs[i]::xs.drop (i+1):=by simp
    rw[ed]at hq4;obtain⟨av,hq4⟩:=hq4;obtain⟨hgo,hy⟩:=hJ.turn i H' M' e4 w4 av xs[i] (by simp)
    refine ay (T.item (c0 X scope cl C (nm++caps.map Prod.snd) s2 H2 fp) rfl rfl rfl hc i _ s' _ H' Nv I4 (fpB _ _ f4 (pD _)) st4 hgo) λr s5 ⟨u,hr,h5⟩=>.inr ⟨u,hr,?_⟩
    refine ay h5 λ_ s6 zz=>?_;obtain⟨xv,H6,I6,r6,y6,st6,f6⟩:=zz
    obtain⟨e6,w6,rr6⟩:=hy xv H6 y6;have I6':=I6.pinned (fpB _ _ f6 (pD _)) (T.obj _ _ st6);obtain⟨bs,ebs,hq4⟩:∃bs,bd xs[i]=some bs/\tt (bs.map some++(caps.map Prod.fst).map λi=>(σ[i]?).join) M' λc M1=>(c=true->te (bs.map some++(caps.map Prod.fst).map λi=>(σ[i]?).join) M1 λv M2=>gj bd md ok un tt te ((caps.map Prod.fst).map λi=>(σ[i]?).join) (xs.drop (i+1)) (accR++ [v]) M2 Q)/\(c=false->gj bd md ok un tt te ((caps.map Prod.fst).map λi=>(σ[i]?).join) (xs.drop (i+1)) accR M1 Q):=by
     split at hq4
     . rename_i bs e;exact⟨bs,e,hq4⟩
     . exact hq4.elim
    refine hpg cl C s2 H2 fp _ s6 v0 cv H6 xs[i] xv u bs _ hv0 I6' r6 rr6 ebs λvs6 s7 rp6 I7=>?_
    have lv6:vs6.length=nm.length:=by rw[<-rp6.length];exact hb _ _ ebs
    have base:∀{Hx:Hp},Ext H6 Hx->aN X.K Hx (bs.map some++(caps.map Prod.fst).map λi=>(σ[i]?).join) (vs6.map some++cv):=λ{Hx} ex=>by
     have lb:=rp6.length;refine⟨by simp[cvl,lb],λj r e=>?_⟩
     by_cases hj:j<bs.length
     . rw[qG (by simpa using hj),fK]at e
       cases q:bs[j]? with
       |none=>rw[q]at e;cases e
       |some r'=>
        rw[q]at e;have:r'=r:=dH (dH e);subst this;obtain⟨v,q1,q2⟩:=rp6.get q;exact⟨v,by rw[qG (by rw[bu];omega),fK,q1];rfl,Rep.ext ex _ _ q2⟩
     . obtain⟨k,rfl⟩:=Nat.exists_eq_add_of_le (Nat.le_of_not_lt hj)
       rw[List.getElem?_append_right (by simp),bu,zC]at e
       obtain⟨v,q1,q2⟩:=cv2 k r e;exact⟨v,by rw[List.getElem?_append_right (by rw[bu];omega),bu,<-lb,zC];exact q1,Rep.ext (e4.trans (e6.trans ex)) r v q2⟩
    have next:∀(M8:RM) (H8:Hp) (s8:Shared) (accR':LR) (accV':LV) (its':ak) (k':Nat),accR'.length<=i+1->
     Inv (c0 X scope cl C (nm++caps.map Prod.snd) s2 H2 fp) ([(D,{ cls:=.type "list",data:=.seq its'.toArray k' })]++nE fp s6.heap) (vs6.map some++cv) H8 s8->View X.K H8 M8->Ext H6 H8->aa X.K H8 accR' accV'->Vals accV' its'->
     gj bd md ok un tt te ((caps.map Prod.fst).map λi=>(σ[i]?).join) (xs.drop (i+1)) accR' M8 Q->∃m,m<xs.length-i/\∃(i:Nat) (v0:List (Option V)) (H':Hp) (M':RM) (accR:LR) (accV:LV) (ab:ak) (k:Nat),m=xs.length-i/\v0.length=nm.length/\i<=xs.length/\accR.length<=i/\
     Inv (c0 X scope cl C (nm++caps.map Prod.snd) s2 H2 fp) [(D,{ cls:=.type "list",data:=.seq ab.toArray k })] (v0++cv) H' s8/\View X.K H' M'/\Ext H2 H'/\aa X.K H' accR accV/\Vals accV ab/\tn i s8.heap/\(∀b∈fp,H' b=none)/\
     gj bd md ok un tt te ((caps.map Prod.fst).map λi=>(σ[i]?).join) (xs.drop i) accR M' Q:=by
     intro M8 H8 s8 accR' accV' its' k' hl' I8 w8 e8 ra' rl' hq8;have keep8:∀b∈fp,∀o,s6.heap.get? b=some o->s8.heap.get? b=some o/\H8 b=none:=λb hb o e=>by
      have:=I8.pin (b,o) (iJ _ (iJ _ (Al hb e)));exact⟨this.1,this.2.1⟩
     refine⟨xs.length-(i+1),∅,i+1,vs6.map some,H8,M8,accR',accV',its',k',rfl,by rw[bu];exact lv6,hlt,hl',I8.de,w8,e4.trans (e6.trans e8),ra',rl',T.keep _ _ _ st6 λb hb o e=>(keep8 b hb o e).1,λb hb=>?_,hq8⟩
     obtain⟨o,e,_⟩:=T.obj _ _ st6 b hb;exact(keep8 b hb o e).2
    refine ay (hif cl C s2 H2 fp _ s7 _ H6 (λoc H8=>∃M8,View X.K H8 M8/\Ext H6 H8/\(oc=true->te (bs.map some++(caps.map Prod.fst).map λi=>(σ[i]?).join) M8 λv M2=>gj bd md ok un tt te ((caps.map Prod.fst).map λi=>(σ[i]?).join) (xs.drop (i+1)) (accR++ [v]) M2 Q)/\
     (oc=false->gj bd md ok un tt te ((caps.map Prod.fst).map λi=>(σ[i]?).join) (xs.drop (i+1)) accR M8 Q)) I7 ⟨_,M',_,base (.refl _),w6 M' w4,hq4,λb M8 H8 q e w=>⟨M8,w,e,q.1,q.2⟩⟩) λoc s8 ⟨H8,I8,M8,w8,e8,qt,qf⟩=>?_
    cases oc with
    |false=>
     exact next M8 H8 s8 accR accV ab k ∅ I8 w8 e8 (aa.ext (e6.trans e8) _ _ ra) rl (qf rfl)
    |true=>
     refine ay (hel cl C s2 H2 fp _ s8 _ H8 (λv H9=>∃rv M9,View X.K H9 M9/\Ext H8 H9/\Rep X.K H9 rv v/\gj bd md ok un tt te ((caps.map Prod.fst).map λi=>(σ[i]?).join) (xs.drop (i+1)) (accR++ [rv]) M9 Q) I8 ⟨_,M8,_,base e8,w8,qt rfl,λrv M9 v H9 q e w r=>⟨rv,M9,w,e,r,q⟩⟩) λy s9 zz=>?_;obtain⟨yv,H9,I9,r9,rv,M9,w9,e9,rr9,hq9⟩:=zz
     have pD9:=I9.pin (D,{ cls:=.type "list",data:=.seq ab.toArray k }) (iJ _ (zr _ ia));have hlen:ab.length<=i:=by rw[<-rl.length,<-ra.length];exact hal
     refine call_meets F.slot_list_append ⟨_,pD9.1,rfl⟩ F.entry_list_append (F.args_list_append_2 _ _) (PySem.list_append D ab.toArray k y (by rw[cZ];omega)) ⟨pD9.1,?_⟩
     have q:=PySem.IsL.update pD9.1 (λx_1=>x_1.push y)
     have hpush:ab.toArray.push y=(ab++ [y]).toArray:=by simp
     rw[hpush]at q;obtain⟨k',q⟩:∃k',(s9.heap.update D (Obj.mapSeq λx_1=>x_1.push y)).get? D=some { cls:=.type "list",data:=.seq (ab++ [y]).toArray k' }:=⟨_,q⟩
     have I10:Inv (c0 X scope cl C (nm++caps.map Prod.snd) s2 H2 fp) (nE fp s6.heap) (vs6.map some++cv) H9 { s9 with heap:=s9.heap.update D (Obj.mapSeq λx_1=>x_1.push y),toks:=s9.toks }:=by
      refine Inv.turned (it:=D) (I9.eM λp hp=>I9.pin p (iJ _ (iJ _ hp))) (λb o hb e=>(Heap.get?_update_other _ _ (bZ hb)).trans e) pD9.2.1 pD9.2.2.1 (.inr (by show s2.heap.objs.size<=D;rw[hD];exact aK _)) (λz c e=>?_) λp hp=>?_
      . obtain⟨v,o,ho,hd⟩:=I2.cell z c (hcl1 z c e)
        exact cJ (by have:=bx ho;rw[hD]at this;exact this)
      . have hp':p∈nE fp s6.heap:=by simpa[c0]using hp
        exact hDfp p.1 (IV hp').1
     have I11:Inv (c0 X scope cl C (nm++caps.map Prod.snd) s2 H2 fp) ([(D,{ cls:=.type "list",data:=.seq (ab++ [y]).toArray k' })]++nE fp s6.heap) (vs6.map some++cv) H9 { s9 with heap:=s9.heap.update D (Obj.mapSeq λx_1=>x_1.push y),toks:=s9.toks }:=by
      refine I10.eM λp hp=>?_
      rcases dW.mp hp with hp|hp
      . have:p=(D,{ cls:=.type "list",data:=.seq (ab++ [y]).toArray k' }):=by simpa using hp
        subst this;exact⟨q,pD9.2.1,pD9.2.2.1,pD9.2.2.2.1,λv=>by simp⟩
      . exact I10.pin p (iJ _ hp)
     exact next M9 H9 _ (accR++ [rv]) (accV++ [yv]) (ab++ [y]) k' (by rw[eQ,List.length_singleton];omega) I11 w9 (e8.trans e9) ((aa.ext (e6.trans (e8.trans e9)) _ _ ra).append (aa.cons rr9 aa.nil)) (rl.append (.cons r9 .nil)) hq9
  . have ei:i=xs.length:=by omega
    subst ei;refine ay (T.done (c0 X scope cl C (nm++caps.map Prod.snd) s2 H2 fp) rfl rfl rfl hc _ _ s' _ H' Nv I4 (fpB _ _ f4 (pD _)) st4 (hJ.stop _ H' M' e4 w4 (by rw[List.drop_length]at hq4;exact hq4.1) (aK _))) λr s5 ⟨hr,I5⟩=>.inl ⟨hr,?_⟩
    rw[List.drop_length]at hq4;obtain⟨hok4,hq4⟩:=hq4;obtain⟨m5,hn5,_⟩:=I5.loc;have pD5:=I5.pin (D,{ cls:=.type "list",data:=.seq ab.toArray k }) (iJ _ ia);have hC5:H' C=none:=I5.free;have lC:X.env.locals<C:=fu I2.lt (by rw[hD];exact hCle)
    obtain⟨HD,oHD,wHD,qHD⟩:∃HD:HO,(∀h':Heap,h'.get? D=some { cls:=.type "list",data:=.seq ab.toArray k }->accV.length<=sizeLine->aC X.prog X.w (upd H' D HD) h' D HD)/\(∀o u,HD= .aZ o u->js u=false)/\∃H5,eR X.H₀ (upd H' D HD) H5/\Q0 (.ref D) H5/\H5 C=none:=by
     have keyD:∀(HD:HO),∃H5,eR X.H₀ (upd H' D HD) H5/\H5 C=none/\∃H4,bj H' H4/\Ext H H4/\View X.K H4 (un M')/\H4 D=none/\H5=upd H4 D HD:=λHD=>by
      obtain⟨H4,t4,e4',x4',v4⟩:=hJ.cu H' M' e4 w4 hok4;rcases t4 with h4|⟨d,ob,u,h1,du,h0,rfl⟩
      . rw[h4]at v4 x4'
        exact⟨_,.inl rfl,by rw[aD (bZ hDC)];exact hC5,H',(Ext.refl _).w,x4',v4,pD5.2.1,rfl⟩
      . have nd:d≠D:=λz=>by rw[z,pD5.2.1]at h1;cases h1
        have nc:d≠C:=λz=>by rw[z,hC5]at h1;cases h1
        have h1':upd H' D HD d=some (.aZ ob u):=by rw[aD nd];exact h1
        have eq:upd (upd H' D HD) d u=upd (upd H' d u) D HD:=by
         funext b;unfold upd
         by_cases b1:b=d
         . subst b1;rw[ai rfl,ae nd,ai rfl]
         . rw[ae b1]
           by_cases b2:b=D
           . rw[ai b2,ai b2]
           . rw[ae b2,ae b2,ae b1]
        exact⟨_,.inr ⟨d,ob,u,h1',du,h0,rfl⟩,by rw[aD nc.symm,aD (bZ hDC)];exact hC5,_,e4',x4',v4,by rw[aD nd.symm];exact pD5.2.1,eq⟩
     cases md with
     |false=>
      obtain⟨H5,t5,c5,H4,x4,y4,v4,n4,rfl⟩:=keyD (.aZ { cls:=.type "list",data:=.seq ab.toArray k } (.lst accV));exact⟨.aZ { cls:=.type "list",data:=.seq ab.toArray k } (.lst accV),λh' e z=>⟨e,z,ab,k,rl,e⟩,λo u z=>by cases z;rfl,_,t5,hk _ _ _ _ hq4 (y4.trans (Ext.new n4)) (v4.new n4) (ji n4 (aa.aX x4 _ _ ra)),c5⟩
     |true=>
      obtain⟨H5,t5,c5,H4,x4,y4,v4,n4,rfl⟩:=keyD (.lst accV);exact⟨.lst accV,λh' e z=>⟨z,ab,k,rl,e⟩,λo u z=>(by cases z),_,t5,hk _ _ _ _ (hq4 D (v4.free n4)) (y4.trans (Ext.new n4)) (v4.cq n4 ⟨accV,rfl,aa.aX (x4.trans (Ext.new n4).w) _ _ ra⟩) (by simp only[Rep]),c5⟩
    obtain⟨H5,t5,q5,c5⟩:=qHD;refine fin D C s5 m5 H5 hn5 (λh' sb=>t5.inv ?_) q5 c5 (Nat.ne_of_gt lC) (bR I2.ok.above (jX lC)) (λy c e=>?_) λp hp=>?_
    rotate_left
    . obtain⟨v,o,ho,_⟩:=I2.cell y c e
      exact cJ (fu (bx ho) (by rw[hD];exact hCle))
    . exact cJ (fu (bx (I2.pin p hp).1) (by rw[hD];exact hCle))
    have hDh:h'.get? D=some { cls:=.type "list",data:=.seq ab.toArray k }:=sb.extBut _ _ hDC pD5.1;have hz':accV.length<=sizeLine:=by rw[<-ra.length];omega
    have hok5:cM X.prog X.w (upd H' D HD) h':=λb u q=>by
     by_cases hb:b=D
     . subst hb;rw[c6]at q;cases q
       exact oHD h' hDh hz'
     . rw[aD hb]at q
       refine(I5.av b u q).eF (λc v hcb e=>sb.extBut c v ?_ e) (λc e=>?_) λc ys e=>?_
       . rcases hcb with rfl|e'
         . exact eC q hC5
         . exact eC e' hC5
       . rw[aD (eC e pD5.2.1)];exact e
       . rw[aD (eC e pD5.2.1)];exact e
    have un5:Un (ip X.stack) fp H2 (upd H' D HD) s2.heap h':=by
     have B:Un (ip X.stack) fp H2 H' s2.heap s5.heap:=I5.base;have nC:∀b o,s2.heap.get? b=some o->b≠C:=λb o e=>cJ (fu (bx e) (by rw[hD];exact hCle))
     have nD:∀b o,s2.heap.get? b=some o->b≠D:=λb o e=>cJ (by have:=bx e;rw[hD]at this;exact this)
     refine⟨λb o a1 a2 a3 a4=>sb.extBut b o (nC b o a1) (B.keep b o a1 a2 a3 a4),λb o a1 a2 a3 a4=>?_,λb o a1 a2 a4=>?_,λb o a1 a4=>?_,λb ys a=>?_,λb o u a=>?_,λb ps a=>?_⟩
     . obtain⟨sl,e⟩:=B.slot b o a1 a2 a3 a4
       exact⟨sl,sb.extBut b _ (nC b o a1) e⟩
     . rw[aD (nD b o a1)];exact B.free b o a1 a2 a4
     . obtain⟨o',e⟩:=B.there b o a1 a4
       exact⟨o',sb.extBut b o' (nC b o a1) e⟩
     . have e:=B.bh b ys a;rw[aD (eC e pD5.2.1)];exact e
     . have e:=B.aJ b o u a;rw[aD (eC e pD5.2.1)];exact e
     . obtain⟨more,e⟩:=B.eG b ps a;exact⟨more,by rw[aD (eC e pD5.2.1)];exact e⟩
    have I6:Inv X pins σ0 (upd H' D HD) { s5 with heap:=h' }:=I2.sN (ch:=fp) I5.os un5 hok5 I5.bare λb hb=>⟨(f2 b hb).2.2.2.1,(f2 b hb).2.1,(f2 b hb).2.2.2.2.1,(f2 b hb).2.2.2.2.2⟩
    exact I6
 exact codeAny_compStart_list (W _ rfl) (T.self X.A 0 _ _ _ (T.keep _ _ _ st2 λb _ o e=>old b o e) (W _ rfl))
def nI:aS->Option (aA)
 | []=>some []
 | .Name x _::r=>(nI r).map (x:: ·)
 |_::_=>none
def QO(n:Nat):RV->Option (LR)
 | .tup xs=>if xs.length=n then some xs else none
 |_=>none
def QQ(r:RV):Option (LR):=some [r]
theorem IZ{es:aS}{xs:aA}:∀(es:aS) (xs:aA) (j:Nat),nI es=some xs->X.N.Nodup->(∀i x,xs[i]? =some x->X.N[j+i]? =some x)->(∀x∈xs,X.env.scope.names.lookup x=some .local)->m6 X es (jP (List.range' j xs.length))/\(assignEach es X.env).length=xs.length/\(assignEach es X.env).findIdx? (·.1)=none
 | [],xs,j,h,_,_,_=>by cases h;exact⟨A0,rfl,rfl⟩
 |e::r,xs,j,h,jH,hN,hl=>by
  cases e<;>first|(cases h;done)|skip
  rename_i x p;cases e:nI r with
  |none=>simp only[nI,e]at h;cases h
  |some ys=>
   simp only[nI,e]at h;cases h;obtain⟨a,b,c⟩:=IZ (es:=es) (xs:=xs) r ys (j+1) e jH (λi y d=>by have:=hN (i+1) y (by simpa using d);rw[<-this];congr 1;omega) λy d=>hl y (gw _ d)
   have hx:=hl x ia;have f:(assignEach (.Name x p::r) X.env)=(false,assign (.Name x p) X.env)::assignEach r X.env:=rfl;refine⟨?_,by rw[f,bG,b];rfl,?_⟩
   . rw[bG,List.range'_succ]
     exact xP (uQ (i:=j) jH (by simpa using hN 0 x rfl) (.inl hx) (.inr hx)) a
   . rw[f,List.findIdx?_cons,c];rfl
theorem J0:∀(vs:LV) (pre vs0 cv:List (Option V)),vs0.length=vs.length->Q (pre++(vs.map some++cv)) H->jP (List.range' pre.length vs.length) vs (pre++(vs0++cv)) H Q
 | [],pre,vs0,cv,h,q=>by
  have:vs0= []:=List.eq_nil_of_length_eq_zero h;subst this;exact⟨rfl,q⟩
 |v::vs,pre,vs0,cv,h,q=>by
  cases vs0 with
  |nil=>cases h
  |cons o r=>
   rw[bG,List.range'_succ];refine⟨v,vs,rfl,?_⟩;show jP _ vs ((pre++(o::r++cv)).set pre.length (some v)) H Q;have e:(pre++(o::r++cv)).set pre.length (some v)=(pre++ [some v])++(r++cv):=by simp
   rw[e];have:=J0 (H:=H) (Q:=Q) vs (pre++ [some v]) r cv (by simpa using h) (by simpa using q)
   simpa using this
def vw(tup:Bool)(tg:Expr)(nm:aA):Prop:=match tup,tg with
 |false,.Name x _=>nm= [x]
 |true,.Tuple es _ _=>nI es=some nm
 |_,_=>False
def gv(tup:Bool)(n:Nat):RV->Option (LR):=match tup with
 |true=>QO n
 |false=>QQ
theorem Jg{elt iter tg:Expr}{nm:aA}{tup md:Bool}(caps:List (Nat×Str)){osc:Scope}{oN:aA}(htg:vw tup tg nm)
 (hc:X.calm=true) (hi:iM X tg iter ti)
 (hif:∀cl C s H fp,qy (c0 X scope cl C (nm++caps.map Prod.snd) s H fp) ifs tt)
 (hel:∀cl C s H fp,ah (c0 X scope cl C (nm++caps.map Prod.snd) s H fp) elt te)
 (hX:X.env.scope=osc) (hN:X.N=oN)
 (fw:∀p∈caps,oN[p.1]? =some p.2/\scope.names.lookup p.2=some .free/\(osc.names.lookup p.2=some .cell∨osc.names.lookup p.2=some .free))
 (eL:∀y∈scope.names,y.2= .free->(osc.names.lookup y.1=some .cell∨osc.names.lookup y.1=some .free))
 (bB:∀y∈scope.names,y.2≠.cell) (bF:scope.kind= .function) (ck:∀y∈scope.names,y.2= .local->scope.names.lookup y.1=some .local) (hx:∀x∈nm,scope.names.lookup x=some .local) (jH:(nm++caps.map Prod.snd).Nodup)
 (hs:∀v,foldedSetIterable iter X.env v=pure v) {s:Shared} (I:Inv X pins σ0 H s) (hw:up X.K (rF (gv tup nm.length) md ti (caps.map Prod.fst) tt te) σ0 H Q0)
 (fin:∀(D C:Addr) (s5:Shared) (m5:bo) (H5:Hp),s5.heap.Ns C m5->(∀h',Heap.SameBut C s5.heap h'->Inv X pins σ0 H5 { s5 with heap:=h' })->Q0 (.ref D) H5->H5 C=none->C≠X.env.locals->X.s₀.heap.objs.size<=C->(∀y c,X.env.cells.lookup y=some c->c≠C)->(∀p∈X.pn++pins,p.1≠C)->compPost (model X.prog X.w) X.A X.xe use PP (.ref D) C (.ok .next) s5):
 wpAny (model X.prog X.w) X.A (comprehension (.ListComp elt [⟨tg,iter,ifs,0⟩] scope pos) scope X.env pos' (newList []) false (eval iter X.env) use) PP X.xe s:=by
 refine Th (bd:=gv tup nm.length) (md:=md) (nm:=nm) caps hc hi hif hel hX hN fw eL bB bF ck (λr bs e=>?_) (λcl C s2 H2 fp pins' s6 vs0 cv H6 rv xv u bs Q1 hl I6 r6 rr6 eb hQ=>?_) hs I hw fin
 . cases tup with
   |false=>
    cases tg<;>first|(exact False.elim htg)|skip
    have htg:nm=_:=htg;subst htg;cases e;rfl
   |true=>
    cases r<;>first|(cases(show none=some bs from e))|skip
    rename_i xs;have e':(if xs.length=nm.length then some xs else none)=some bs:=e
    split at e'
    . rename_i hh;cases e';exact hh
    . cases e'
 . have hls:∀x∈nm,(c0 X scope cl C (nm++caps.map Prod.snd) s2 H2 fp).env.scope.names.lookup x=some .local:=λx h=>lookup_relabel_local (hx x h)
   cases tup with
   |false=>
    cases tg<;>first|(exact False.elim htg)|skip
    rename_i x px;have htg:nm=_:=htg;subst htg;cases eb;obtain⟨v0,rfl⟩:=List.length_eq_one_iff.mp hl;have hx0:=hls x (by simp)
    refine ay (uQ (X:=c0 X scope cl C (x::caps.map Prod.snd) s2 H2 fp) (i:=0) jH rfl (.inl hx0) (.inr hx0) _ s6 _ H6 xv u (λσ' H'=>σ'=(some xv::cv)/\H'=H6) I6 r6 ⟨rfl,rfl⟩) λ_ s7 h7=>?_
    obtain⟨σ7,H7,I7,q7,q7'⟩:=h7;subst q7 q7';exact hQ [xv] s7 (aa.cons rr6 aa.nil) I7
   |true=>
    cases tg<;>first|(exact False.elim htg)|skip
    rename_i es tk tp;have htg:nI es=some nm:=htg;cases rv<;>first|(cases(show none=some bs from eb))|skip
    rename_i xs;have e':(if xs.length=nm.length then some xs else none)=some bs:=eb
    split at e'
    . rename_i hh;cases e'
      simp only[Rep]at rr6;obtain⟨pa,pvs,rfl,sq6,rp6⟩:=rr6;have hlen:pvs.length=nm.length:=by rw[<-rp6.length];exact hh
      obtain⟨g1,g2,g3⟩:=IZ (X:=c0 X scope cl C (nm++caps.map Prod.snd) s2 H2 fp) (es:=es) (xs:=nm) es nm 0 htg jH (λi x e=>by
       show(nm++caps.map Prod.snd)[0+i]? =some x;rw[iI,qG (jT.mp e).1];exact e) hls
      have pg:PG (c0 X scope cl C (nm++caps.map Prod.snd) s2 H2 fp) (.Tuple es tk tp) (Gs X.K nm.length (jP (List.range' 0 nm.length))):=yn (n:=nm.length) hc g1 g2 g3;refine ay (pg _ s6 _ H6 _ u (λσ' H'=>σ'=(pvs.map some++cv)/\H'=H6) I6 r6 ⟨pa,pvs,rfl,bI.of sq6,hlen,?_⟩) λ_ s7 h7=>?_
      . have:=J0 (H:=H6) (Q:=λσ' H'=>σ'=(pvs.map some++cv)/\H'=H6) pvs [] vs0 cv (by rw[hlen];exact hl) ⟨rfl,rfl⟩
        rw[hlen]at this;exact this
      . obtain⟨σ7,H7,I7,q7,q7'⟩:=h7
        subst q7 q7';exact hQ pvs s7 rp6 I7
    . cases e'
end
def fq:RV->Option Key
 | .int i=>some (.inl i)
 | .str x=>some (.inr x)
 |_=>none
def cW(kvs:List (Key×α))(k:Key):Option α:=(kvs.find? λp=>decide (p.1=k)).map (·.2)
theorem pJ{K:ag}{a:RV}{x:V}(e:fq a=some k)(r:Rep K H a x):x=kV k:=by
 cases a with
 |int i=>cases e;simp only[Rep]at r;exact r
 |str y=>cases e;simp only[Rep]at r;exact r
 |_=>cases e
theorem ug{K:ag}:∀{kvs:bV} {ws:List (Key×V)},aE K H kvs ws->(∀r,cW kvs k=some r->∃v,fb ws k=some v/\Rep K H r v)/\(cW kvs k=none->fb ws k=none)
 | [],ws,h=>by
  have h:ws= []:=h;subst h;exact⟨λr e=>(by cases e),λ_=>rfl⟩
 |(j,x)::t,ws,h=>by
  obtain⟨v,u,rfl,c,d⟩:=h;have b:=ug (k:=k) d;unfold cW;rw[jy]
  by_cases a:j=k
  . rw[fg (show(j,x).1=k from a)]
    refine⟨λr e=>⟨v,uC (p:=(j,v)) a,?_⟩,λe=>(by cases e)⟩
    cases e;exact c
  . rw[gL (show ¬(j,x).1=k from a)]
    refine⟨λr e=>?_,λe=>?_⟩
    . rw[pH (p:=(j,v)) a];exact b.1 r e
    . rw[pH (p:=(j,v)) a];exact b.2 e
theorem HC:∀(b a:List (Key×V)),((a++b).map Prod.fst).Nodup->mB a b=a++b
 | [],a,_=>by simp[mB]
 |p::r,a,h=>by
  have e:fb a p.1=none:=by
   cases q:fb a p.1 with
   |none=>rfl
   |some v=>
    have m:=VW q;rw[eW,bQ,List.nodup_append]at h;exact ba rfl (h.2.2 p.1 m p.1 ia)
  show mB (putK a p.1 p.2) r=_;rw[Uq _ e,HC r (a++ [(p.1,p.2)]) (by simpa using h)]
  simp
structure KTab(P:Program)(w:World)(K:ag)(mg:bo)(x:Str)(kvs:bV):Prop where
 ex:∃(a:Addr) (vs:List (Key×Value)) (ws:List (Key×V)),mg x=some (.ref a)/\(a==sysModules)=false/\(∀h:Heap,K.In h->h.DictOf (cX P w) a vs)/\KV ws vs/\∀H,aE K H kvs ws
noncomputable def vo (w:World):List DictEntry->List (Str×Value)->Prop
 | [],[]=>True
 |e::es,(x,v)::r=>(∃t,e.key= .str x t)/\e.hash=hashStr w x/\e.val=v/\vo w es r
 |_,_=>False
theorem HN{P:Program}:∀{es:List DictEntry} {vs:List (Str×Value)},vo w es vs->
 (∀e∈es,∃k,(cX P w).is k e.key=true/\e.hash=(cX P w).hash k)/\Pairs (cX P w) es (vs.map λp=>((Sum.inr p.1:Key),p.2))
 | [],[],_=>⟨λ_ h=>(by cases h),Pairs.nil⟩
 |e::es,(x,v)::r,h=>by
  obtain⟨⟨t,h1⟩,h2,h3,h4⟩:=h;obtain⟨ih1,ih2⟩:=HN (P:=P) (w:=w) h4;have hi:(cX P w).is (.inr x) e.key=true:=by rw[h1];exact HK P w x t
  refine⟨λe' he=>?_,?_⟩
  . rcases dh.mp he with rfl|he
    . exact⟨.inr x,hi,h2⟩
    . exact ih1 e' he
  . subst h3
    exact Pairs.cons hi rfl ih2
theorem Ao:∀{l:aA},l.Nodup->(l.map (Sum.inr:Str->Key)).Nodup
 | [],_=>mY
 |a::r,h=>by
  obtain⟨c,d⟩:=i8.mp h;rw[bQ];refine i8.mpr ⟨λm=>?_,Ao d⟩
  obtain⟨b,f,e⟩:=aV.mp m;cases e;exact c f
theorem JK{P:Program}{K:ag}{x:Str}{a:Addr}{sl:Array (cN)}{vs:List (Str×Value)}
 (i:mg x=some (.ref a)) (l:K.lookup a=some ⟨.type "dict",none,.dict es ep,sl⟩) (f:(a==sysModules)=false) (m:vo w es.toList vs) (j:(vs.map Prod.fst).Nodup)
 (b:Obj.ExactDict ⟨.type "dict",none,.dict es ep,sl⟩) (h:KV ws (vs.map λp=>((Sum.inr p.1:Key),p.2))) (k:∀H,aE K H kvs ws):KTab P w K mg x kvs:=by
 obtain⟨c,d⟩:=HN (P:=P) m;refine⟨a,_,ws,i,f,λh X=>⟨_,es,ep,X _ _ l,b,rfl,λe g=>c e (by simpa using g),d,?_⟩,h,k⟩
 have:(vs.map λp=>((Sum.inr p.1:Key),p.2)).map (·.1)=(vs.map Prod.fst).map Sum.inr:=by simp[bT,Function.comp_def]
 rw[this];exact Ao j
section
variable {X:Cx}
noncomputable def yJ (kvs:bV)(te:aq):aq:=λσ M Q=>te σ M λk M1=>match fq k with
 |some key=>(match cW kvs key with|some v=>Q v M1|none=>False)
 |none=>False
theorem Qq{x:Str}{e:Expr}{p pos:Pos}(T:KTab X.prog X.w X.K X.mg x kvs)(j:ah X e te)(hs:sg e:=by intro _ _;rfl)(l:Gl X x:=by rfl)(i:(x==("__debug__":Str))=false:=by decide):
 ah X (.Subscript (.Name x p) e pos) (yJ kvs te):=by
 obtain⟨a,vs,N,n,F,g,m,u⟩:=T.ex;intro b s f H E I h;obtain⟨D,M,Q,c,A,z,t⟩:=h;refine JE PySem.F.slot_dict_getitem.lookup hs (nr I l n (ay (j b s f H (λv H1=>∃r M1,Rep X.K H1 r v/\Ext H H1/\View X.K H1 M1/\(match fq r with
  |some key=>(match cW kvs key with|some v=>Q v M1|none=>False)
  |none=>False)) I ⟨D,M,_,c,A,z,λr M1 v H1 q e w r1=>⟨r,M1,r1,e,w,q⟩⟩) λiv J ⟨y,H2,I2,ry,r,M2,rr,e2,w2,q2⟩=>?_) i)
 have dd:=g _ I2.dj;refine⟨dd.typeIs,?_⟩;cases ek:fq r with
 |none=>rw[ek]at q2;exact q2.elim
 |some key=>
  rw[ek]at q2;simp only at q2;cases el:cW kvs key with
  |none=>rw[el]at q2;exact q2.elim
  |some rv=>
   rw[el]at q2;simp only at q2;obtain⟨v,e1,r1⟩:=(ug (k:=key) (u H2)).1 rv el;have:=pJ ek rr;subst this;obtain⟨L,C,d⟩:=bN.some_of (v:=v) (o:=valueAt vs key) (by rw[<-e1];exact m.val key)
   exact wpAny_getItem_of (i5 ry) dd.mapOf C ⟨v,H2,I2.tok _,d,t rv M2 v H2 q2 e2 w2 r1⟩
theorem Se{K:ag}{vs:List (Key×Value)}(b:KV ws vs)(a:aE K H kvs ws):(valueAt vs key).isSome=(cW kvs key).isSome:=by
 rw[<-(b.val key).bc];cases el:cW kvs key with
 |none=>rw[(ug (k:=key) a).2 el];rfl
 |some rv=>obtain⟨v,e1,_⟩:=(ug (k:=key) a).1 rv el;rw[e1];rfl
def drop(M:RM)(p:Addr):RM:=λb=>if b=p then none else M b
theorem UN{p:Addr}(h:M p=none):drop (put M p o) p=M:=by
 funext b;unfold drop put
 by_cases a:b=p
 . subst a;simp[h]
 . simp[a]
theorem View.drop{K:ag}{H:Hp}{M:RM}(w:View K H M)(p:Addr):View K H (drop M p):=λa o e=>by
 unfold R.drop at e;split at e
 . cases e
 . exact w a o e
noncomputable def AE (kvs:bV)(te:aq):aq:=λσ M Q=>∀p,M p=none->te σ (put M p (.dk kvs)) λk M1=>M1 p=some (.dk kvs)/\(match fq k with
 |some key=>(match cW kvs key with|some v=>Q v (drop M1 p)|none=>False)
 |none=>False)
def uB:List (Key×V)->List (TE×TE)
 | []=>[]
 |(k,v)::r=>(tC (kV k),tC v)::uB r
theorem HI:∀{ws:List (Key×V)} {H:Hp} {Q:List (V×V)->Hp->Prop},Q (ws.map λkv=>(kV kv.1,kv.2)) H->yl (uB ws) σ H Q
 | [],_,_,h=>h
 |(k,v)::r,H,Q,h=>HI (ws:=r) (Q:=λps H3=>Q ((kV k,v)::ps) H3) h
theorem Ue{e:Expr}{p1 pos:Pos}(z:X.A.units+1<cLine)(h:oo X p1 keys values (uB ws))(o:ah X e te)(x:∀H,aE X.K H kvs ws)
 (w:(ws.map Prod.fst).Nodup) (b:ws.length<=15:=by decide) (a:keys.all (·.isSome)=true:=by rfl) (t:keys.length=values.length:=by rfl) (h0:keys≠[]) (c:keys.length<=15:=by decide) (hs:sg e:=by intro _ _;rfl):
 ah X (.Subscript (.Dict keys values p1) e pos) (AE kvs te):=PE.imp (JL z (Vv h a t h0 c) o hs) λσ0 H E h=>by
 obtain⟨D,M,Q,f,i,y,s⟩:=h;intro p d;refine HI ⟨c6,ws,rfl,b,?_⟩;have u:mB [] ws=ws:=by have:=HC ws [] (by simpa using w);simpa using this
 rw[u,JD];have ex:Ext H (upd H p (.dK ws)):=Ext.new d;refine⟨D,put M p (.dk kvs),_,f.ext ex,i.cq d ⟨ws,rfl,x _⟩,y p (i.free d),λr M1 v H1 q e1 l r1=>?_⟩
 obtain⟨q0,q⟩:=q;obtain⟨F,n,g⟩:=l p _ q0;obtain⟨C,rfl,g⟩:=g;cases ek:fq r with
 |none=>rw[ek]at q;exact q.elim
 |some key=>
  rw[ek]at q;simp only at q;cases el:cW kvs key with
  |none=>rw[el]at q;exact q.elim
  |some rv=>
   rw[el]at q;simp only at q;obtain⟨j,m,A⟩:=(ug (k:=key) g).1 rv el;have:=pJ ek r1;subst this;exact⟨p,j,rfl,by rw[<-m];exact bU.k n,s rv _ j H1 q (ex.trans e1) (l.drop p) A⟩
def gf(l:List (Str×Int)):bV:=l.map λp=>((Sum.inr p.1:Key),RV.int p.2)
def mZ(l:List (Str×Int)):List (Key×V):=l.map λp=>((Sum.inr p.1:Key),V.int p.2)
theorem Bb{K:ag}:∀l:List (Str×Int),aE K H (gf l) (mZ l)
 | []=>rfl
 |p::r=>⟨V.int p.2,mZ r,rfl,by simp only[Rep],Bb r⟩
theorem Wz{l:List (Str×Int)}(h:(l.map Prod.fst).Nodup):((mZ l).map Prod.fst).Nodup:=by
 have e:(mZ l).map Prod.fst=(l.map Prod.fst).map (Sum.inr:Str->Key):=by simp[mZ,bT,Function.comp_def]
 rw[e];exact Ao h
theorem XD(l:List (Str×Int)){e:Expr}{p1 pos:Pos}(j:X.A.units+1<cLine)(h:oo X p1 keys values trs)(d:ah X e te)
 (g:(l.map Prod.fst).Nodup) (i:trs=uB (mZ l):=by rfl) (b:l.length<=15:=by decide) (a:keys.all (·.isSome)=true:=by rfl) (f:keys.length=values.length:=by rfl) (h0:keys≠[]) (c:keys.length<=15:=by decide) (hs:sg e:=by intro _ _;rfl):
 ah X (.Subscript (.Dict keys values p1) e pos) (AE (gf l) te):=Ue j (i ▸ h) d (λH=>Bb l) (Wz g) (by rw[mZ,bu];exact b) a f h0 c hs
end
theorem Zy{P:Program}{K:ag}{x qual:Str}{st:Stmt}{sp:bX}{t:cU}(F:sG K x qual st f fd)(S:rB N ps (fP st))
 (len:∀rs M Q,sp rs M Q->rs.length=ps.length)
 (term:∀(cdv:Value),fd.code=cdv->∀(A:Around) (outer:List Env) (s:Shared) (H:Hp) (E:XK),aI k (A.deeper (envOfC qual (fP st) s.heap.objs.size f cdv))->ju (nN fh P w K mg base N qual (fP st) f cdv A outer s H E).qU (pM st) t)
 (body:∀rs M Q,sp rs M Q->t { nx:=λ_ M'=>Q .au M',rt:=Q } (iZ N rs) M):dz P w K mg base fh (k+1) f fd ps (fH K sp):=by
 refine F.ok S (λvs H Q0 E h=>?_) λcdv hcd A outer s H vs Q0 E hr h=>?_
 . obtain⟨rs,M,Q,rr,hv,hq,hk⟩:=h
   rw[<-rr.length];exact len rs M Q hq
 . obtain⟨rs,M,Q,rr,hv,hq,hk⟩:=h
   refine⟨_,term cdv hcd A outer s H E hr,iZ N rs,M,{ nx:=λ_ M'=>Q .au M',rt:=Q },Su rr,hv,body rs M Q hq,⟨λσ M' σ0 H' q e w r=>hk .au M' .au H' q e w (by simp only[Rep]),hk,λ_ _ _ _ z=>z.elim,λ_ _ _ _ z=>z.elim⟩⟩
theorem YS:bootBuiltins "len" =some (.builtin "len"):=by decide+kernel
theorem Rh:bootBuiltins "isinstance" =some (.builtin "isinstance"):=by decide+kernel
theorem YQ:bootBuiltins "ord" =some (.builtin "ord"):=by decide+kernel
theorem Yx:bootBuiltins "all" =some (.builtin "all"):=by decide+kernel
theorem Ji:bootBuiltins "tuple" =some (.type "tuple"):=by decide+kernel
theorem JZ:bootBuiltins "list" =some (.type "list"):=by decide+kernel
theorem Kk:bootBuiltins "int" =some (.type "int"):=by decide+kernel
theorem WW:bootBuiltins "bool" =some (.type "bool"):=by decide+kernel
theorem YO:bootBuiltins "str" =some (.type "str"):=by decide+kernel
section
variable {X:Cx}{pos:Pos}
theorem Wa(b:X.mg "int" =none)(a:Gl X "int":=by rfl):ah X (.Name "int" pos) (rC (.ty "int")):=vg b Kk (v:=.ty "int") rfl (λH=>by simp only[Rep]) a
theorem Uc(b:X.mg "bool" =none)(a:Gl X "bool":=by rfl):ah X (.Name "bool" pos) (rC (.ty "bool")):=vg b WW (v:=.ty "bool") rfl (λH=>by simp only[Rep]) a
theorem V9(b:X.mg "str" =none)(a:Gl X "str":=by rfl):ah X (.Name "str" pos) (rC (.ty "str")):=vg b YO (v:=.ty "str") rfl (λH=>by simp only[Rep]) a
theorem Si(b:X.mg "tuple" =none)(a:Gl X "tuple":=by rfl):ah X (.Name "tuple" pos) (rC (.ty "tuple")):=vg b Ji (v:=.ty "tuple") rfl (λH=>by simp only[Rep]) a
theorem Ub(b:X.mg "list" =none)(a:Gl X "list":=by rfl):ah X (.Name "list" pos) (rC (.ty "list")):=vg b JZ (v:=.ty "list") rfl (λH=>by simp only[Rep]) a
def Co(mg:bo)(x:Str)(i:Int):Prop:=∃t,mg x=some (.int i t)
theorem rgi{x:Str}{i:Int}(h:Co X.mg x i)(b:Gl X x:=by rfl)(a:(x==("__debug__":Str))=false:=by decide):ah X (.Name x pos) (rC (.int i)):=by
 obtain⟨t,c⟩:=h;exact LL c (v:=.int i) ⟨t,rfl⟩ (λH=>by simp only[Rep]) b a
def vJ(K:ag)(a:Addr)(b:aA):Prop:=∃(o:Obj) (ab:Array Value) (n:Nat),K.lookup a=some o/\o.cls= .type "tuple"/\o.data= .seq ab n/\ab.size<=sizeLine/\Vals (b.map V.str) ab.toList
def rZ(K:ag)(mg:bo)(x:Str)(b:aA):Prop:=∃a,mg x=some (.ref a)/\vJ K a b
def Nh(K:ag)(a:aA):aq:=λ_ M Q=>∀p,vJ K p a->Q (.ref p) M
theorem Nu{x:Str}(h:rZ X.K X.mg x ss)(c:Gl X x:=by rfl)(b:(x==("__debug__":Str))=false:=by decide):ah X (.Name x pos) (Nh X.K ss):=by
 obtain⟨a,e,f⟩:=h;refine PE.imp (LL (r:=.ref a) e (v:=.ref a) rfl (λH=>by simp only[Rep]) c b) λσ0 H k h=>?_
 obtain⟨j,M,Q,hs,i,g,d⟩:=h;exact⟨j,M,Q,hs,i,g a f,d⟩
end
theorem VZ{K:ag}{x:Str}{a:Addr}{b:aA}{ab:Array Value}{n:Nat}{sl:Array (cN)}(c:mg x=some (.ref a))(l:K.lookup a=some ⟨.type "tuple",d,.seq ab n,sl⟩)(hz:ab.size<=sizeLine)
 (e:Vals (b.map V.str) ab.toList):rZ K mg x b:=⟨a,c,_,ab,n,l,rfl,rfl,hz,e⟩
structure Lh(N:aA)(sc:Scope):Prop where
 nd:N.Nodup
 loc:∀x∈N,sc.names.lookup x=some .local∨sc.names.lookup x=some .cell
 iQ:∀x∈N,(x==("__debug__":Str))=false/\(x==("__classdict__":Str))=false
section
variable {X:Cx}{x:Str}{pos pos':Pos}
structure NJ(X:Cx):Prop where
 zp:∀x∈X.N,qM X.env.scope x
 iQ:∀x∈X.N,(x==("__debug__":Str))=false/\(x==("__classdict__":Str))=false
theorem NY{scope:Scope}{s:Shared}(h:scope.names.lookup x=some .globalImplicit):Gl (c0 X scope cl C Nc s H fp) x:=by
 show(scope.names.map (f9 X.env)).lookup x=_;rw[xc];rw[xf]at h;cases e:scope.names.find? λp=>x==p.1 with
 |none=>rw[e]at h;cases h
 |some p=>
  rw[e]at h;have a:p.2= .globalImplicit:=dH h;show some (f9 X.env p).2=_;rcases AA X.env p with z|z
  . rw[z,a]
  . rw[a]at z;cases z.2
end
noncomputable def Bz (w:World):List DictEntry->List (Str×Int)->Prop
 | [],[]=>True
 |e::es,(x,i)::r=>(∃t,e.key= .str x t)/\e.hash=hashStr w x/\(∃t,e.val= .int i t)/\Bz w es r
 |_,_=>False
theorem Kv:∀{es:List DictEntry} {l:List (Str×Int)},Bz w es l->∃vs:List (Str×Value),vo w es vs/\vs.map Prod.fst=l.map Prod.fst/\KV (mZ l) (vs.map λp=>((Sum.inr p.1:Key),p.2))
 | [],[],_=>⟨[],trivial,rfl,.nil⟩
 |e::es,(x,i)::r,h=>by
  obtain⟨d,f,⟨t,g⟩,j⟩:=h;obtain⟨vs,a,b,c⟩:=Kv j;exact⟨(x,.int i t)::vs,⟨d,f,g,a⟩,by simp[b],.cons ⟨rfl,t,rfl⟩ c⟩
theorem Vj{P:Program}{K:ag}{x:Str}{a:Addr}{l:List (Str×Int)}
 (f:mg x=some (.ref a)) (lk:K.lookup a=some ⟨.type "dict",none,.dict es ep,#[]⟩) (e:(a==sysModules)=false) (h:Bz w es.toList l) (g:(l.map Prod.fst).Nodup):KTab P w K mg x (gf l):=by
 obtain⟨vs,b,c,d⟩:=Kv h;exact JK f lk e b (by rw[c];exact g) ⟨rfl,rfl,rfl⟩ d λH=>Bb l
theorem Kg{e:Value->Bool}{p:RV->Bool}:∀{xs:LR} {us:ak},az h xs us->(∀x∈xs,∀u,Den h x u->e u=p x)->us.any e=xs.any p
 | [],us,d,_=>by simp only[az]at d;subst d;rfl
 |x::xs,us,d,k=>by
  simp only[az]at d;obtain⟨u,r,rfl,d1,a⟩:=d;rw[jW,jW,k x ia u d1,Kg a λy b=>k y (gw _ b)]
theorem JR:∀{xs:LR} {us:ak},az h xs us->∀u∈us,∃x∈xs,Den h x u
 | [],us,d,u,a=>by simp only[az]at d;subst d;cases a
 |x::xs,us,d,u,a=>by
  simp only[az]at d;obtain⟨w,r,rfl,d1,b⟩:=d;rcases dh.mp a with rfl|a
  . exact⟨x,ia,d1⟩
  . obtain⟨y,e,c⟩:=JR b u a
    exact⟨y,gw _ e,c⟩
open Classical in
noncomputable def ng (h:Heap)(a:RV)(w:Value):Bool:=if q:∃r,aB 15 r=true/\Den h r w then aY (choose q) a else false
theorem Kj{a x:RV}(o:aB 15 x=true)(d:Den h x u):ng h a u=aY x a:=by
 have q:∃r,aB 15 r=true/\Den h r u:=⟨x,o,d⟩;unfold ng;rw[dif_pos q];have e:=AR 15 _ x u (Classical.choose_spec q).1 o (Classical.choose_spec q).2 d;rw[e]
def inR(x:RV)(xs:LR):Bool:=xs.any λy=>aY y x
noncomputable def yP (neg:Bool):cx:=λx y M Q=>match y with
 | .tup xs=>aB 15 x=true/\xs.all (aB 15)=true/\Q (.bl (if neg then !inR x xs else inR x xs)) M
 | .ls xs=>aB 15 x=true/\xs.all (aB 15)=true/\Q (.bl (if neg then !inR x xs else inR x xs)) M
 |_=>False
section
variable {X:Cx}
theorem uJ{s:Shared}{A:Around}{xs:LR}{ab:ak}{a:RV}{v:Value}(g:A.units+15<cLine)(os:xs.all (aB 15)=true)(i:aB 15 a=true)(d:az s.heap xs ab)(e:Den s.heap a v):
 (∀w,w∈ab.toArray->SeqAt.EqAt A s w v (ng s.heap a w))/\ab.toArray.any (ng s.heap a)=inR a xs:=by
 have b:∀x∈xs,aB 15 x=true:=by simpa[ff]using os
 refine⟨λw h=>?_,?_⟩
 . obtain⟨x,hx,c⟩:=JR d w (by simpa using h)
   rw[Kj (b x hx) c];exact AN 15 x a A s w v (b x hx) i c e g
 . rw[show ab.toArray.any (ng s.heap a)=ab.any (ng s.heap a) by simp]
   exact Kg d λx hx u f=>Kj (b x hx) f
theorem yC{xs:LR}(os:xs.all (aB 15)=true):aB 16 (.tup xs)=true/\aB 16 (.ls xs)=true:=⟨os,os⟩
theorem Om(r:X.A.units+64<cLine):cS X (compareOp .In) (yP false):=by
 intro l s t H x y v u o I m n h;obtain⟨a,b,M,Q,ra,rb,k,c,j⟩:=h;cases b with
 |tup xs=>
  obtain⟨e,f,c⟩:=c;have d:=iA I 16 (.tup xs) y u (yC f).1 rb n;simp only[Den]at d;obtain⟨p,ab,rfl,i,g⟩:=d;have z:=uJ (A:=X.A.in1) (by rw[in1_units];omega) f e g (iA I 15 a x v e ra m)
  refine SeqAt.in_tupleAt _ i z.1 ⟨.bl (inR a xs),H,I,by rw[z.2];rfl,j _ M _ H c (.refl H) k (by simp only[Rep];rfl)⟩
 |ls xs=>
  obtain⟨e,f,c⟩:=c;have d:=iA I 16 (.ls xs) y u (yC f).2 rb n;simp only[Den]at d;obtain⟨p,ab,rfl,i,g⟩:=d;have z:=uJ (A:=X.A.in1) (by rw[in1_units];omega) f e g (iA I 15 a x v e ra m)
  refine SeqAt.in_listAt _ i z.1 ⟨.bl (inR a xs),H,I,by rw[z.2];rfl,j _ M _ H c (.refl H) k (by simp only[Rep];rfl)⟩
 |_=>exact(show False from c).elim
theorem Yp(r:X.A.units+64<cLine):cS X (compareOp .NotIn) (yP true):=by
 intro l s t H x y v u o I m n h;obtain⟨a,b,M,Q,ra,rb,k,c,j⟩:=h;cases b with
 |tup xs=>
  obtain⟨e,f,c⟩:=c;have d:=iA I 16 (.tup xs) y u (yC f).1 rb n;simp only[Den]at d;obtain⟨p,ab,rfl,i,g⟩:=d;have z:=uJ (A:=X.A.in1) (by rw[in1_units];omega) f e g (iA I 15 a x v e ra m)
  refine SeqAt.notIn_tupleAt _ i z.1 ⟨.bl (!inR a xs),H,I,by rw[z.2];rfl,j _ M _ H c (.refl H) k (by simp only[Rep];rfl)⟩
 |ls xs=>
  obtain⟨e,f,c⟩:=c;have d:=iA I 16 (.ls xs) y u (yC f).2 rb n;simp only[Den]at d;obtain⟨p,ab,rfl,i,g⟩:=d;have z:=uJ (A:=X.A.in1) (by rw[in1_units];omega) f e g (iA I 15 a x v e ra m)
  refine SeqAt.notIn_listAt _ i z.1 ⟨.bl (!inR a xs),H,I,by rw[z.2];rfl,j _ M _ H c (.refl H) k (by simp only[Rep];rfl)⟩
 |_=>exact(show False from c).elim
def EM:LR->RM->ao->Prop:=λrs M Q=>match rs with
 | [.str x]=>x.length=1/\Q (.int (x.cps.getD 0 0:Nat)) M
 |_=>False
theorem QL:cQ X (.builtin "ord") (eO X.K EM):=by
 intro b s j H k us d I i h;obtain⟨rs,M,Q,c,g,a,e⟩:=h
 match rs,a with
 | [.str x],a=>
  obtain⟨f,a⟩:=a;simp only[aa,Rep]at c;obtain⟨v,r,rfl,rfl,rfl⟩:=c;exact UW b s j H _ us d I i ⟨x,rfl,f,e _ M _ H a (.refl H) g (by simp only[Rep])⟩
noncomputable def yO (K:ag)(neg:Bool):cx:=λx y M Q=>match y with
 | .ref p=>∃a,vJ K p a/\aB 15 x=true/\Q (.bl (if neg then !inR x (a.map RV.str)else inR x (a.map RV.str))) M
 |_=>False
theorem II:∀{b:aA} {ab:ak},Vals (b.map V.str) ab->az h (b.map RV.str) ab
 | [],_,r=>by rw[oh]at r;cases r;simp only[oh,az]
 |s::b,_,r=>by
  rw[bQ]at r;cases r with
  |cons a t=>rw[bQ];simp only[az,Den];exact⟨_,_,rfl,a,II t⟩
theorem KJ{s:Shared}(h:X.A.units+64<cLine)(I:Inv X pins σ H s){a:RV}{x:V}{v:Value}{p:Addr}(d:vJ X.K p ss)(c:aB 15 a=true)(ra:Rep X.K H a x)(g:RelV x v):
 ∃ab:ak,IsTup s.heap p ab.toArray/\(∀w,w∈ab.toArray->SeqAt.EqAt X.A.in1 s w v (ng s.heap a w))/\ab.toArray.any (ng s.heap a)=inR a (ss.map RV.str):=by
 obtain⟨ab,b,e,_⟩:=I.tuple (a:=p) (xs:=ss.map V.str) (.inr d);have f:(ss.map RV.str).all (aB 15)=true:=by simp[ff,aB]
 have z:=uJ (A:=X.A.in1) (by rw[in1_units];omega) f c (II b) (iA I 15 a x v c ra g)
 exact⟨ab,e,z.1,z.2⟩
theorem P5(i:X.A.units+64<cLine):cS X (compareOp .In) (yO X.K false):=by
 intro d s w H x y v u t I l m h;obtain⟨a,b,M,Q,ra,rb,j,c,e⟩:=h;cases b with
 |ref p=>
  obtain⟨n,f,k,c⟩:=c;simp only[Rep]at rb;subst rb;cases(show u=Value.ref p from m)
  obtain⟨ab,g,o,r⟩:=KJ i I f k ra l;exact SeqAt.in_tupleAt _ g o ⟨.bl (inR a (n.map RV.str)),H,I,by rw[r];rfl,e _ M _ H c (.refl H) j (by simp only[Rep];rfl)⟩
 |_=>exact(show False from c).elim
theorem Ww(i:X.A.units+64<cLine):cS X (compareOp .NotIn) (yO X.K true):=by
 intro d s w H x y v u t I l m h;obtain⟨a,b,M,Q,ra,rb,j,c,e⟩:=h;cases b with
 |ref p=>
  obtain⟨n,f,k,c⟩:=c;simp only[Rep]at rb;subst rb;cases(show u=Value.ref p from m)
  obtain⟨ab,g,o,r⟩:=KJ i I f k ra l;exact SeqAt.notIn_tupleAt _ g o ⟨.bl (!inR a (n.map RV.str)),H,I,by rw[r];rfl,e _ M _ H c (.refl H) j (by simp only[Rep];rfl)⟩
 |_=>exact(show False from c).elim
noncomputable def rU (neg:Bool)(ss:aA)(ty:aq):aq:=λσ M Q=>ty σ M λx M1=>aB 15 x=true/\Q (.bl (if neg then !inR x (ss.map RV.str)else inR x (ss.map RV.str))) M1
def Eu:LR->RM->ao->Prop:=λrs M Q=>∃a:List Bool,rs= [.ls (a.map RV.bl)]/\Q (.bl (a.all id)) M
theorem AY{K:ag}:∀{bs:List Bool} {vs:LV},aa K H (bs.map RV.bl) vs->vs=bs.map V.bl
 | [],vs,h=>by simpa only[oh,aa]using h
 |b::bs,vs,h=>by
  simp only[bQ,aa,Rep]at h;obtain⟨v,r,rfl,rfl,a⟩:=h;rw[AY a];rfl
theorem AU:∀{bs:List Bool} {us:ak},Vals (bs.map V.bl) us->us=bs.map Value.bool
 | [],us,h=>by cases h;rfl
 |b::bs,us,h=>by
  obtain⟨u,r,rfl,a,c⟩:=Vals.cons_inv h;cases a;rw[AU c];rfl
theorem range_all(bs:List Bool):(List.range bs.length).all (λi=>bs.getD i true)=bs.all id:=by
 induction bs with
 |nil=>rfl
 |cons b bs ih=>
  rw[bG,List.range_succ_eq_map,d9,List.all_map,d9];have:((λi=>(b::bs).getD i true) ∘ Nat.succ)=λi=>bs.getD i true:=by funext i;rfl
  rw[this,ih];rfl
theorem UY(O:X.calm=true):cQ X (.builtin "all") (eO X.K Eu):=by
 intro d s t H xs us Q0 I Y h;obtain⟨rs,M,Q,Z,W,⟨f,rfl,U⟩,R⟩:=h;obtain⟨v,rfl,r1⟩:=Z.one;simp only[Rep]at r1;obtain⟨a,vs,rfl,J,L⟩:=r1;have:=AY L;subst this;obtain⟨u,rfl,ru⟩:=Y.one;cases ru;obtain⟨ab,rv,p,hz⟩:=I.list J.sq;have:=AU rv;subst this;have m:a<s.heap.objs.size:=by obtain⟨o,n,e,_⟩:=p;exact bx e
 refine call_all_walk (wpAny_pyIter_list p.isList ?_);have hd:X.A.in1.handled=none:=I.ok.hd O;refine⟨s.heap.objs.size,_,_,_,_,_,λi=>f.getD i true,rfl,Walks.list hd s.heap.objs.size a (cJ m) (f.map Value.bool).toArray,⟨⟨_,dE _ rfl,rfl,rfl⟩,p.isList.push _⟩,?_,?_⟩
 . intro i v s' y E' N j
   have c:(f.map Value.bool)[i]? =some v:=by simpa using N
   rw[fK]at c;cases e:f[i]? with
   |none=>rw[e]at c;cases c
   |some b=>
    rw[e]at c;have k:f.getD i true=b:=by rw[List.getD_eq_getElem?_getD,e];rfl
    cases c;have g:y (f.getD i true) s':=j;rw[k]at g;exact jB g
 . intro h' r l
   have w:Inv X d t H { s with heap:=s.heap.push { cls:=.type "list_iterator",data:=.fields #[.ref a,.int 0 0] } }:=I.kept (t':=s.toks) λb o e=>bw _ e
   obtain⟨A,C,f2,D,E,F⟩:=I.fU (aK _) (I.av.fresh (aK _));have x:Inv X d t H { s with heap:=h',toks:=r }:=by
    have z:=w.turned (h':=h') (t':=r) (it:=s.heap.objs.size) (λb o k e=>l b o (by simpa using k) e) A C D E F
    exact z
   refine⟨.bl (f.all id),H,x,?_,R _ M _ H U (.refl H) W (by simp only[Rep])⟩
   show _=_;rw[<-range_all];simp
def wm(x:Str):It:=⟨λi _=>i<x.cps.size,λi H v a=>a=H/\∃c,x.cps[i]? =some c/\v= .str ⟨#[c]⟩,λi _=>x.cps.size<=i⟩
def mx(x:Str):LR:=x.cps.toList.map λc=>.str ⟨#[c]⟩
theorem Jm{P:Program}{K:ag}{tg:Expr}(it)(n:String)(x:Str)(t)
 (hn:["enumerate","zip","dict_itemiterator","dict_reverseitemiterator","odict_iterator","itertools.zip_longest","itertools.pairwise"].contains n=false)
 (W:∀A:Around,A.handled=none->Walks P w A it [it] [it] x.cps.size (SignAt x) (λi h=>h.IsStrIter it n x t i))
 (l:∀(A:Around) (i:Nat) (s:Shared) (Q:cN->Shared->Prop) (E:aP),A.handled=none->s.heap.IsStrIter it n x t i->x.cps.size<=i->(∀j,(∀b o,b≠it->s.heap.get? b=some o->j.get? b=some o)->Q none { s with heap:=j })->wpAny (model P w) A (pyNext (.ref it)) Q E s)
 (g:∀A i s Q E,s.heap.IsStrIter it n x t i->Q (.ref it) s->wpAny (model P w) A (pyIter (.ref it)) Q E s):
 Turn P w K tg (wm x) [it] it (λi h=>h.IsStrIter it n x t i) where
 mem:=by simp
 obj:=λi h st b f=>by
  have e:b=it:=by simpa using f
  subst e;obtain⟨o,e,c,d⟩:=st;exact⟨o,e,λv z=>by rw[d]at z;cases z⟩
 keep:=λi h j st k=>by
  obtain⟨o,e,r⟩:=st;exact⟨o,k it (by simp) o e,r⟩
 item:=by
  intro X M Y L N i a s σ H E I v st U;subst M Y L;obtain⟨y,C,f2,D,F,J⟩:=v it (by simp)
  refine(W X.A (I.ok.hd N)).item i s _ _ U st λv j Z hv m kk=>?_
  obtain⟨c,u,R,rfl⟩:=hv;have I1:Inv X a σ H { s with heap:=j,toks:=Z }:=I.turned (λb o f e=>kk b o (by simpa using f) e) y C D F J
  obtain⟨o,e,O,hd⟩:=id m;exact⟨_,rfl,vj (s:={ s with heap:=j,toks:=Z }) (n:=n) e O hd hn ⟨.str ⟨#[c]⟩,H,I1,⟨u,rfl⟩,⟨rfl,c,R,rfl⟩,m,λb f=>(v b f).1⟩⟩
 done:=by
  intro X M Y L N i a s σ H E I v st U;subst M Y L;obtain⟨y,C,f2,D,F,J⟩:=v it (by simp)
  exact l X.A i s _ _ (I.ok.hd N) st U λh' eb=>⟨rfl,I.turned (t':=s.toks) (λb o f e=>eb b o f e) y C D F J⟩
 self:=g
theorem Ky{K:ag}{H1:Hp}(x)(es:Ext Hs H1):iC H0 Hs K (wm x) (mx x) ej id H1 where
 turn:=λi H M e _ _ r b=>by
  have hi:i<x.cps.size:=by have:=(jT.mp b).1;simpa[mx]using this
  refine⟨hi,λv' f y=>?_⟩
  obtain⟨rfl,c,a,rfl⟩:=y;refine⟨.refl _,λ_ w=>w,?_⟩
  have:r= .str ⟨#[c]⟩:=by
   have d:x.cps.toList[i]? =some c:=by simpa using a
   simp only[mx,fK,d,Option.map_some,n9]at b;exact b.symm
  subst this;simp only[Rep]
 stop:=λi H M e _ _ hi=>by
  have:(mx x).length=x.cps.size:=by simp[mx]
  rw[this]at hi;exact hi
 cu:=nj es
def EW(te:aq):gy:=λσ M Q=>te σ M λv M1=>match v with| .str x=>Q (mx x) ej id M1|_=>False
theorem Qa{tg:Expr}{l:Expr}(r:ah X l te):iM X tg l (EW te):=by
 intro a s j H R I h;obtain⟨y,M,Q,hs,w,u,m⟩:=h;refine ay (r a s j H (λv H1=>∃x M1,v= .str x/\Q (mx x) ej id M1/\Ext H H1/\View X.K H1 M1) I ⟨y,M,_,hs,w,u,λrv M1 v H1 q e1 g r1=>?_⟩) λv c ⟨z,H1,I1,r1,q1⟩=>?_
 . cases rv with
   |str x=>simp only[Rep]at r1;exact⟨x,M1,r1,q,e1,g⟩
   |_=>exact(show False from q).elim
 . obtain⟨x,M1,rfl,q,e1,g⟩:=q1
   obtain⟨t,rfl⟩:=r1;have k:∀b∈[c.heap.objs.size],mP X a H1 b:=λb n=>by
    have e:b=c.heap.objs.size:=by simpa using n
    subst e;exact I1.fU (aK _) (I1.av.fresh (aK _))
   cases ha:x.cps.all (. < 128)
   . refine wpAny_pyIter_wide ha ?_
     exact⟨c.heap.objs.size,[c.heap.objs.size],_,wm x,H1,rfl,I1.kept (t':=c.toks) λb o e=>bw _ e,Jm _ "str_iterator" x t ⋯ (λA d=>Walks.strWide d _ x t) (λA i s Q E d st hi f=>wpAny_pyNext_wide_end d st (by simp;exact hi) f) (λA i s Q E st f=>wpAny_pyIter_striter_wide st f),⟨_,dE _ rfl,rfl,rfl⟩,k,m _ ej id M1 _ H1 q e1 g (Ky x e1)⟩
   . refine wpAny_pyIter_ascii ha ?_
     exact⟨c.heap.objs.size,[c.heap.objs.size],_,wm x,H1,rfl,I1.kept (t':=c.toks) λb o e=>bw _ e,Jm _ "str_ascii_iterator" x t ⋯ (λA d=>Walks.strAscii d _ x t) (λA i s Q E d st hi f=>wpAny_pyNext_ascii_end d st (by simp;exact hi) f) (λA i s Q E st f=>wpAny_pyIter_striter_ascii st f),⟨_,dE _ rfl,rfl,rfl⟩,k,m _ ej id M1 _ H1 q e1 g (Ky x e1)⟩
noncomputable def yS (to:aq)(t:bD):aq:=λσ M Q=>to σ M λx M1=>match x with
 | .ref p=>(∃ys,M1 p=some (.lst ys))/\t σ M1 λrs M2=>∃ys y,rs= [y]/\M2 p=some (.lst ys)/\ys.length<sizeLine/\Q .au (put M2 p (.lst (ys++ [y])))
 |_=>False
theorem VG{o e:Expr}{t:bD}{c a:Pos}(D:ah X o to)(z:eI X [e] t)
 (d:attributeBase o "append" X.env (eval o X.env)=eval o X.env:=by rfl)
 (g:((backTo a (starEach [e] X.env)).all (λx=>!x.1)&&(backToKw a (keywordEach [] X.env)).all (λx=>x.1.isSome)&&decide ([e].length+([]:List Keyword).length+(if([]:List Keyword).isEmpty then 0 else 1)<30))=true:=by rfl)
 (f:(c.endLine==a.line)=true:=by rfl) (hs:starEach [e] X.env=(false,eval e X.env)::starEach [] X.env:=by rfl) (b:(backTo a (starEach [] X.env)).any (·.1)=false:=by rfl):
 ah X (.Call (.Attribute o "append" c) [e] [] a) (yS to t):=PE.imp (BB PySem.F.plainAttrs_list PySem.F.slot_list_append PySem.F.type_list_append SY D z d g f hs b) λσ0 H Z h=>by
 obtain⟨u,M,Q,hs,J,I,A⟩:=h;refine⟨u,M,_,hs,J,I,λrx M1 x H1 q e1 r r1=>?_⟩
 cases rx with
 |ref p=>
  obtain⟨⟨ys,C⟩,q⟩:=q;simp only[Rep]at r1;subst r1;obtain⟨E,e0,r0⟩:=r p _ C;obtain⟨W,rfl,U⟩:=r0;refine⟨.inl ⟨rfl,_,cj.of e0⟩,u,M1,_,hs.ext e1,r,q,λrs M2 vs m l w s N=>?_⟩
  obtain⟨Y,y,rfl,i,L,l⟩:=l;obtain⟨v,rfl,O⟩:=N.one;obtain⟨F,n,R⟩:=s p _ i;obtain⟨k,rfl,j⟩:=R;have ex:Ext m (upd m p (.lst (k++ [v]))):=Ext.write n rfl;refine⟨p,k,v,rfl,rfl,n,by rw[<-j.length];exact L,A _ _ _ _ l ((e1.trans w).trans ex) (s.write i ⟨_,rfl,?_⟩) (by simp only[Rep])⟩
  exact(aa.ext ex _ _ j).append (aa.cons (Rep.ext ex _ _ O) aa.nil)
 |_=>exact(show False from q).elim
def BD:LR->RM->ao->Prop:=λrs M Q=>match rs with
 | [.tup xs]=>Q (.ls xs) M
 | [.ls xs]=>Q (.ls xs) M
 |_=>False
theorem qyP:cQ X (.type "list") (eO X.K BD):=by
 intro a s n H i us k I w h;obtain⟨rs,M,Q,m,u,b,t⟩:=h;have f:∀p vs j,i= [.ref p]->(cj X.K H p vs∨bI X.K H p vs)->aa X.K H j vs->Q (.ls j) M->wpAny (model X.prog X.w) X.A (call (.type "list") us) (EP X a n k) X.xe s:=by
  intro p vs j e c d b;subst e;refine ay (Ru a s n H _ us (λv r=>∃H1 p i,v= .ref p/\H1 p=none/\r=upd H1 p (.lst i)/\∀o,k (.ref p) (upd H1 p (.aZ o (.lst i)))) I w ⟨p,vs,rfl,c,λl g=>⟨H,l,vs,rfl,g,rfl,λo=>?_⟩⟩) λ_ _ e=>frozen e
  exact t _ M _ _ b (Ext.new g) (u.new g) (ji g d)
 unfold BD at b;split at b
 . obtain⟨v,rfl,r1⟩:=m.one
   simp only[Rep]at r1;obtain⟨q,vs,rfl,c,d⟩:=r1;exact f q vs _ rfl (.inr c) d b
 . obtain⟨v,rfl,r1⟩:=m.one
   simp only[Rep]at r1;obtain⟨q,vs,rfl,c,d⟩:=r1;exact f q vs _ rfl (.inl c.sq) d b
 . exact b.elim
noncomputable def K7 (fs:List (Addr×bX))(tx:aq)(t:bD):aq:=λσ M Q=>tx σ M λv M1=>match v with
 | .ref f=>∃sp,(f,sp)∈fs/\t σ M1 λrs M2=>sp rs M2 Q
 |_=>False
theorem XG{x:Str}{p pos:Pos}{e:Expr}{t:bD}{tx:aq}(g:List (Addr×bX))
 (z:∀q∈g,∃d m k,aI k X.A/\PySem.W.keepIn X.K (.ref q.1)=true/\Binds X.K d m []/\dz X.prog X.w X.K X.mg X.base fh k q.1 d m (fH X.K q.2)) (hx:ah X (.Name x p) tx) (A:eI X (e::es) t)
 (D:starEach (e::es) X.env=(false,eval e X.env)::starEach es X.env:=by rfl) (l:(backTo pos (starEach es X.env)).any (·.1)=false:=by rfl):ah X (.Call (.Name x p) (e::es) [] pos) (K7 g tx t):=by
 intro a s b H u I h;obtain⟨o,M,Q,hs,N,L,E⟩:=h;refine wpAny_Call_Name_kw (ay (hx a s b H (λv H1=>∃f sp M1,v= .ref f/\(f,sp)∈g/\Ext H H1/\View X.K H1 M1/\t o M1 λrs M2=>sp rs M2 Q) I ⟨o,M,_,hs,N,L,λrv M1 v H1 q e1 n r1=>?_⟩) λv U ⟨y,H1,I1,r1,q1⟩=>?_)
 . cases rv with
   |ref f=>simp only[Rep]at r1;obtain⟨sp,j,q⟩:=q;exact⟨f,sp,M1,r1,j,e1,n,q⟩
   |_=>exact(show False from q).elim
 . obtain⟨f,sp,M1,rfl,j,e1,n,q⟩:=q1
   cases r1;obtain⟨d,m,k,J,i,C,F⟩:=z _ j;refine zu (h₀:=X.base) I1.ok.mod.iR i (ay (A pos a U b H1 (λvs c=>fH X.K sp (vs++ []) c u (λ_ _ _=>False)) I1 ⟨o,M1,_,hs.ext e1,n,q,λrs M2 vs c O w W R=>?_⟩) λus Y ⟨vs,c,I2,r,q⟩=>⟨I2.dj,?_⟩) D l
   . exact⟨rs,M2,Q,by rw[qJ];exact R,W,O,E.ext (e1.trans w)⟩
   . exact uR F J C .nil p9 I2 r q
end
theorem SV{P:Program}{vs:List (Key×Value)}(h:Pairs (cX P w) es vs):Pairs (optKind P w) es (vs.map λp=>(some p.1,p.2)):=by
 induction h with
 |nil=>exact .nil
 |cons a b _ ih=>exact .cons (kv:=(some _,_)) a b ih
theorem HV:∀{l:List Key},l.Nodup->(l.map some).Nodup
 | [],_=>mY
 |a::r,h=>by
  obtain⟨c,d⟩:=i8.mp h;rw[bQ];refine i8.mpr ⟨λm=>?_,HV d⟩
  obtain⟨b,f,e⟩:=aV.mp m;cases e;exact c f
theorem UP{P:Program}{h:Heap}{a:Addr}{vs:List (Key×Value)}(d:h.DictOf (cX P w) a vs):h.DictOf (optKind P w) a (vs.map λp=>(some p.1,p.2)):=by
 obtain⟨o,c,b,f,g,i,j,l,m⟩:=d;refine⟨o,c,b,f,g,i,λe n=>?_,SV l,?_⟩
 . obtain⟨k,r,s⟩:=j e n
   exact⟨some k,r,s⟩
 . rw[bT]
   have:((λx:Option Key×Value=>x.1) ∘ λp:Key×Value=>(some p.1,p.2))=some ∘ λp=>p.1:=rfl
   rw[this,<-bT];exact HV m
theorem Wy{vs:List (Key×Value)}:valueAt (vs.map λp=>(some p.1,p.2)) (none:Option Key)=none:=by
 unfold valueAt;rw[List.find?_eq_none.mpr]
 . rfl
 . intro x hx
   obtain⟨p,_,rfl⟩:=aV.mp hx;simp
section
variable {X:Cx}
noncomputable def Bu (neg:Bool)(kvs:bV)(Q:ao):ao:=λk M1=>match fq k with
 |some key=>Q (.bl (if neg then !(cW kvs key).isSome else(cW kvs key).isSome)) M1
 |none=>False
def xS(kvs:bV)(Q:ao):ao:=λk M1=>match k with
 | .au=>Q (.bl true) M1
 |k=>Bu true kvs Q k M1
def AB(kvs:bV)(te:aq):aq:=λσ M Q=>te σ M (xS kvs Q)
theorem Q6{x:Str}{e:Expr}{p:Pos}(T:KTab X.prog X.w X.K X.mg x kvs)(C:ah X e te)(D:Gl X x)(A:(x==("__debug__":Str))=false):
 PC X .NotIn e (.Name x p) (up X.K (AB kvs te)):=by
 obtain⟨a,vs,Y,F,l,z,E,J⟩:=T.ex;intro d s i H U I h;obtain⟨R,M,Q,g,N,L,n⟩:=h;refine ay (C d s i H (λv H1=>∃r M1,Rep X.K H1 r v/\Ext H H1/\View X.K H1 M1/\xS kvs Q r M1) I ⟨R,M,_,g,N,L,λr M1 v H1 q e w r1=>⟨r,M1,r1,e,w,q⟩⟩) λiv W O=>?_;obtain⟨y,c,f,t,r,M2,o,j,u,b⟩:=O
 refine nr f D F ?_ A;have dd:=z _ f.dj
 by_cases m:r= .au
 . subst m
   have b:Q (.bl true) M2:=b;have:y=V.au:=by simpa only[Rep]using o
   subst this;have:iv=Value.none:=t;subst this;refine wpAny_notIn_of (knd:=optKind X.prog X.w) (k:=none) rfl l (UP dd).mapOf ?_;rw[Wy];exact⟨.bl true,c,f.tok _,rfl,n _ M2 _ c b j u (by simp only[Rep])⟩
 . have b:Bu true kvs Q r M2:=by
    cases r<;>first|exact b|exact ba rfl m
   unfold Bu at b;cases ek:fq r with
   |none=>rw[ek]at b;exact b.elim
   |some key=>
    rw[ek]at b;simp only at b;have:=pJ ek o;subst this;refine wpAny_notIn_of (i5 t) l dd.mapOf ?_;rw[Se E (J c)];exact⟨.bl (!(cW kvs key).isSome),c,f.tok _,rfl,n _ M2 _ c b j u (by simp only[Rep];rfl)⟩
theorem Sj{x:Str}{e:Expr}{p pos:Pos}(T:KTab X.prog X.w X.K X.mg x kvs)(c:ah X e te)(d:Gl X x:=by rfl)(b:(x==("__debug__":Str))=false:=by decide)(a:behindInMarks .NotIn (Expr.Name x p)=false:=by with_unfolding_all rfl):
 dZ X (.Compare e [.NotIn] [.Name x p] pos) (mE (AB kvs te)):=PT.imp (Bq (Q6 T c d b) a) λσ0 H k h=>by
 obtain⟨j,M,Q,hs,i,g,f⟩:=h;exact⟨j,M,_,hs,i,g,pN f⟩
end
theorem xb{K:ag}:∀{a:List (Str×RV)} {gs:List (Str×V)} {v:RV},aE K H a gs->a.lookup f=some v->∃u,gs.lookup f=some u/\Rep K H v u
 | [],gs,v,h,e=>by cases e
 |(g,x)::r,gs,v,h,e=>by
  obtain⟨u,t,rfl,b,c⟩:=h;rw[mV]at e;cases hb:f==g with
  |true=>rw[hb]at e;cases e;exact⟨u,by rw[mV,hb],b⟩
  |false=>
   rw[hb]at e;obtain⟨w,e1,r1⟩:=xb c e;exact⟨w,by rw[mV,hb];exact e1,r1⟩
theorem Ax{K:ag}:∀{a:List (Str×RV)} {gs:List (Str×V)},aE K H a gs->a.lookup f=none->gs.lookup f=none
 | [],gs,h,e=>by have b:gs= []:=h;subst b;rfl
 |(g,x)::r,gs,h,e=>by
  obtain⟨u,t,rfl,d,c⟩:=h;rw[mV]at e ⊢;cases hb:f==g with
  |true=>rw[hb]at e;cases e
  |false=>rw[hb]at e;exact Ax c e
noncomputable def jL (f:Str)(v:RV):List (Str×RV)->List (Str×RV)
 | []=>[(f,v)]
 |(g,x)::r=>if g=f then(g,v)::r else(g,x)::jL f v r
theorem Aw{K:ag}{v:RV}(a:Rep K H v u):∀{b:List (Str×RV)} {gs:List (Str×V)},aE K H b gs->aE K H (jL f v b) (fm f u gs)
 | [],gs,h=>by have d:gs= []:=h;subst d;exact⟨u,[],rfl,a,rfl⟩
 |(g,x)::r,gs,h=>by
  obtain⟨w,t,rfl,i,c⟩:=h;unfold jL fm
  by_cases e:g=f
  . rw[ai e,ai e];exact⟨u,t,rfl,a,c⟩
  . rw[ae e,ae e];exact⟨w,_,rfl,i,Aw a c⟩
theorem iw{K:ag}:∀{a:List (κ×RV)} {gs:List (κ×V)},aE K H a gs->a.length=gs.length
 | [],gs,h=>by have b:gs= []:=h;subst b;rfl
 |(g,x)::r,gs,h=>by
  obtain⟨w,t,rfl,d,c⟩:=h;rw[bG,bG,iw c]
section
variable {X:Cx}{o e value:Expr}{f:Str}{pos pos':Pos}{ta tv:aq}{C:Addr}
noncomputable def PX (C:Addr)(f:Str)(ta:aq):aq:=λσ M Q=>ta σ M λx M1=>match x with
 | .ref a=>∃fs v,M1 a=some (.ins C fs)/\fs.lookup f=some v/\Q v M1
 |_=>False
theorem Qw(hc:cK X.K C)(hn:aW X.K C f)(he:ah X e ta)(hb:attributeBase e f X.env (eval e X.env)=eval e X.env:=by rfl):ah X (.Attribute e f pos) (PX C f ta):=PE.imp (W8 he hb) λσ0 H Q0 h=>by
 obtain⟨σ,M,Q,hs,hv,ht,hk⟩:=h;refine⟨σ,M,_,hs,hv,ht,λrx M1 x H1 q e1 v1 r1=>?_⟩
 cases rx with
 |ref a=>
  obtain⟨fs,v,hm,hl,q⟩:=q;simp only[Rep]at r1;subst r1;obtain⟨ho,eo,dx,gs,rfl,hg⟩:=v1 a _ hm;obtain⟨u,hu,ru⟩:=xb hg hl;exact⟨a,C,dx,gs,u,rfl,eo,hc,hn,hu,hk _ M1 _ H1 q e1 v1 ru⟩
 |_=>exact(show False from q).elim
noncomputable def ZD (C:Addr)(f:Str)(ta tv:aq):cU:=λD c M=>tv c M λy M1=>ta c M1 λx M2=>match x with
 | .ref a=>∃b,M2 a=some (.ins C b)/\b.length<1000/\D.nx c (put M2 a (.ins C (jL f y b)))
 |_=>False
theorem O7(hc:cK X.K C)(hn:aW X.K C f)(ha:ah X o ta)(hv:ah X value tv)(hs:swapsWith value (some (.Attribute o f pos')) pos.line X.env=pure false:=by rfl):eJ X (.Assign [.Attribute o f pos'] value pos) (ZD C f ta tv):=PS.imp (Xm ha hv hs) λD0 σ0 H h=>by
 obtain⟨σ,M,D,hs,hv,ht,hd⟩:=h;refine⟨σ,M,_,hs,hv,ht,λry M1 y H1 q e1 v1 r1=>⟨σ,M1,_,hs.ext e1,v1,q,λrx M2 x H2 q2 e2 v2 r2=>?_⟩⟩
 cases rx with
 |ref a=>
  obtain⟨fs,hm,hl,q2⟩:=q2;simp only[Rep]at r2;subst r2;obtain⟨ho,eo,dx,gs,rfl,hg⟩:=v2 a _ hm;have ex:Ext H2 (upd H2 a (.ins C dx (fm f y gs))):=Ext.write eo rfl;refine⟨a,C,dx,gs,rfl,eo,hc,hn,by rw[<-iw hg];exact hl,hd.nx σ _ _ _ q2 ((e1.trans e2).trans ex) (v2.write hm ⟨dx,_,rfl,?_⟩) (hs.ext ((e1.trans e2).trans ex))⟩
  exact Aw (Rep.ext (e2.trans ex) _ _ r1) (hg.ext ex)
 |_=>exact(show False from q2).elim
end
section
variable {K:ag}{H:Hp}{k:Key}{v:RV}{u:V}
theorem Js:∀{a:List (κ×RV)} {ws:List (κ×V)} {ys:List (κ×RV)} {zs:List (κ×V)},aE K H a ws->aE K H ys zs->aE K H (a++ys) (ws++zs)
 | [],ws,ys,zs,h,t=>by have b:ws= []:=h;subst b;exact t
 |(j,x)::r,ws,ys,zs,h,t=>by
  obtain⟨w,e,rfl,c,d⟩:=h;exact⟨w,_,rfl,c,Js d t⟩
end
section
variable {X:Cx}{o i value:Expr}{pos pos':Pos}{td ty tv:aq}
def LJ:aq:=λ_ M Q=>∀p,M p=none->Q (.ref p) (put M p (.dk []))
theorem Zz:ah X (.Dict [] [] pos) LJ:=PE.imp T3 λσ0 H e h=>by
 obtain⟨f,M,Q,hs,b,d,c⟩:=h;intro p a;exact c _ _ _ _ (d p (b.free a)) (Ext.new a) (b.cq a ⟨[],rfl,rfl⟩) (by simp only[Rep])
def atKey(M:RM)(x y:RV)(P:Addr->bV->Key->Prop):Prop:=match x with
 | .ref a=>(match M a with|some (.dk kvs)=>(match fq y with|some k=>P a kvs k|none=>False)|_=>False)
 |_=>False
end
section
variable {X:Cx}{x m:Str}{p pos apos:Pos}{o e:Expr}{es:aS}{t:bD}{ta:aq}{k:Nat}{ps:aA}{sp:bX}{C g:Addr}{fd:FuncData}
noncomputable def vh (C:Addr)(m:Str)(sp:bX)(ta:aq)(t:bD):aq:=λσ M Q=>ta σ M λx M1=>match x with
 | .ref a=>∃fs,M1 a=some (.ins C fs)/\fs.lookup m=none/\t σ M1 λrs M2=>sp (.ref a::rs) M2 Q
 |_=>False
theorem S2(h:up X.K (vh C m sp ta t) σ0 H Q0):BF C m (fH X.K sp) [] (λ_ _ _=>False) (up X.K ta) (CI X.K t) σ0 H Q0:=by
 obtain⟨σ,M,Q,hs,hv,ht,hk⟩:=h;refine⟨σ,M,_,hs,hv,ht,λrx M1 x H1 q e1 v1 r1=>?_⟩
 cases rx with
 |ref a=>
  obtain⟨fs,hm,hl,q⟩:=q;simp only[Rep]at r1;subst r1;obtain⟨ho,eo,dx,gs,rfl,hg⟩:=v1 a _ hm;refine⟨a,dx,gs,rfl,eo,Ax hg hl,σ,M1,_,hs.ext e1,v1,q,λrs M2 vs H2 q2 e2 v2 r2=>?_⟩
  exact⟨.ref a::rs,M2,Q,by rw[qJ];exact aa.cons (by simp only[Rep]) r2,v2,q2,hk.ext (e1.trans e2)⟩
 |_=>exact(show False from q).elim
theorem Zw(l:ah X o ta)(c:cK X.K C)(n:Meth X.K C m g)(F:dz X.prog X.w X.K X.mg X.base fh k g fd ps (fH X.K sp))(r:aI k X.A)(j:Binds X.K fd ps [])(i:eI X (e::es) t)
 (b:starEach (e::es) X.env=(false,eval e X.env)::starEach es X.env:=by rfl) (a:(backTo pos (starEach es X.env)).any (·.1)=false:=by rfl)
 (s:eval (.Call (.Attribute o m apos) (e::es) [] pos) X.env=(do
  let d<-eval o X.env
  standAt apos.atName
  let(f,first) <-holding [d] (getMethod d m pl)
  callWith pos f first (backTo pos (starEach (e::es) X.env)) (backToKw pos (keywordEach [] X.env))):=by rfl):
 ah X (.Call (.Attribute o m apos) (e::es) [] pos) (vh C m sp ta t):=PE.imp (Vs l c n F r j .nil p9 i b a s) λσ0 H u h=>S2 h
noncomputable def rN (C:Addr)(sp:bX)(t:bD):aq:=λσ M Q=>t σ M λrs M1=>∀a,M1 a=none->sp (.ref a::rs) (put M1 a (.ins C [])) (λv M2=>v= .au/\Q (.ref a) M2)
theorem Zx{h0:Nat}(f:Mk X.K C g)(F:dz X.prog X.w X.K X.mg X.base fh k g fd ps (fH X.K sp))(N:aI (k+1) X.A)(L:X.mg x=some (.ref C))(D:Binds X.K fd ps [])(A:eI X (e::es) t)(I:Gl X x:=by rfl)(j:(x==("__debug__":Str))=false:=by decide)
 (E:starEach (e::es) X.env=(false,eval e X.env)::starEach es X.env:=by rfl) (l:(backTo pos (starEach es X.env)).any (·.1)=false:=by rfl):ah X (.Call (.Name x p) (e::es) [] pos) (rN C sp t):=PE.imp (Vt f F N I L D .nil p9 A j E l) λσ0 H Z h=>by
 obtain⟨Y,M,Q,hs,R,O,J⟩:=h;refine⟨Y,M,_,hs,R,O,λrs M1 vs H1 q e1 w r1 a b r s U=>?_⟩
 have i:Ext H1 (upd H1 b (.own a)):=Ext.new s;have d:(upd H1 b (.own a)) a=none:=by rw[aD (bZ U)];exact r
 have c:Ext H1 (upd (upd H1 b (.own a)) a (.ins C b [])):=i.trans (Ext.new d);refine⟨.ref a::rs,put M1 a (.ins C []),_,by rw[qJ];exact aa.cons (by simp only[Rep]) (aa.ext c _ _ r1),(w.new s).cq d ⟨b,[],rfl,rfl⟩,q a (w.free r),λrv M2 v y n z W u=>?_⟩
 obtain⟨rfl,n⟩:=n;simp only[Rep]at u;exact⟨u,J _ M2 _ y n ((e1.trans c).trans z) W (by simp only[Rep])⟩
end
section
variable {X:Cx}{o e f:Expr}{apos cpos:Pos}{td ty tx:aq}
def ZE:LR->RM->ao->Prop:=λrs M Q=>∃a b,rs= [.ref a]/\M a=some (.dk b)/\Q (.int b.length) M
theorem qyR:cQ X (.builtin "len") (eO X.K ZE):=by
 intro b s u H x us d I n h;obtain⟨rs,M,Q,r,c,⟨a,m,rfl,k,l⟩,j⟩:=h;obtain⟨v,rfl,r1⟩:=r.one;simp only[Rep]at r1;subst r1;obtain⟨w,g,t,rfl,i⟩:=c a _ k;exact Tp b s u H _ us d I n ⟨a,t,rfl,g,j _ M _ H l (.refl H) c (by simp only[Rep];rw[iw i])⟩
end
section
variable {X:Cx}{m:Str}{p pos apos:Pos}{o a b tg:Expr}{ta t1 t2:aq}{k:Nat}{ps:aA}{sp:bX}{C g:Addr}{fd:FuncData}
theorem Xy(he:ah X o ta)(c:cK X.K C)(hm:Meth X.K C m g)(F:dz X.prog X.w X.K X.mg X.base fh k g fd ps (fH X.K sp))(hr:aI k X.A)(hb:Binds X.K fd ps [])
 (ht:eval (.Call (.Attribute o m apos) [] [] pos) X.env=(do
  let ov<-eval o X.env
  standAt apos.atName
  let(f,first) <-holding [ov] (getMethod ov m pl)
  callWith pos f first (backTo pos (starEach [] X.env)) (backToKw pos (keywordEach [] X.env))):=by rfl):
 ah X (.Call (.Attribute o m apos) [] [] pos) (vh C m sp ta mK):=PE.imp (TY he c hm F hr hb .nil p9 ht) λσ0 H Q0 h=>by
 obtain⟨σ,M,Q,hs,hv,ht,hk⟩:=h;refine⟨σ,M,_,hs,hv,ht,λrx M1 x H1 q e1 v1 r1=>?_⟩
 cases rx with
 |ref a=>
  obtain⟨fs,hm,hl,q⟩:=q;simp only[Rep]at r1;subst r1;obtain⟨ho,eo,dx,gs,rfl,hg⟩:=v1 a _ hm;exact⟨a,dx,gs,rfl,eo,Ax hg hl,[.ref a],M1,Q,aa.cons (by simp only[Rep]) aa.nil,v1,q,hk.ext e1⟩
 |_=>exact(show False from q).elim
def xQ(lo:Int)(n:Nat):LR:=(List.range n).map λ(i:Nat)=>RV.int (lo+(i:Int))
end
section
variable {prog:Program}{w:World}{A:Around}{E:aP}{s:Shared}
theorem Je:∀{vs:ak} {ns:List Int},vs.length=ns.length->(∀(j:Nat) v,vs[j]? =some v->∃t,v= .int (ns.getD j 0) t)->IntsAre vs ns
 | [],[],_,_=>.nil
 |v::vs,n::ns,hl,h=>by
  obtain⟨t,e⟩:=h 0 v rfl;have e:v= .int n t:=e;subst e;exact .cons _ _ (Je (by simpa using hl) λj u a=>h (j+1) u (by simpa using a))
theorem R3{ns:List Int}(hh:A.handled=none)(hd:s.heap.DictOf (cX prog w) d kvs)(lo:(d==sysModules)=false)(D:kvs.map (·.1)=ns.map Sum.inl)(i:ns.length<64)
 (h:∀(B:Addr) (h':Heap) (tk e:Nat) (vs':ak) (c:List Int),(∀b o,s.heap.get? b=some o->h'.get? b=some o)->s.heap.get? B=none->h'.get? B=some { cls:=.type "list",data:=.seq vs'.toArray e }->IntsAre vs' c->c.Perm ns->c.Pairwise (. <= ·)->Q (.ref B) { s with heap:=h',toks:=tk }):
 wpAny (model prog w) A (call (.builtin "sorted") [.ref d]) Q E s:=by
 have r:kvs.length=ns.length:=by have:=congrArg List.length D;simpa using this
 obtain⟨o,O,ep,R,U,W,X,Y,Z⟩:=id hd;have y:s.heap.DictAt (cX prog w) d kvs ep:=⟨o,O,R,U,W,X,Y,Z⟩;refine Calls.call_function_entry kind_sorted plain_sorted entry_sorted (args_sorted1 (.ref d)) ?_;unfold Builtin.«sorted»;refine aj (m:=checkCount "sorted" 1 1 _) (aH ?_);refine aj (PySem.W.kdu_collect (A:=A.in1) (PySem.W.kdl_dict (knd:=cX prog w) (kvs:=kvs) (ep:=ep) lo) hh y (by rw[r];exact bR (jX i) ⋯) λg tk a F f=>?_)
 have C:a.toList.length=ns.length:=by rw[Array.length_toList,f.1,r]
 have hI:IntsAre a.toList ns:=Je C λj v e=>by
  obtain⟨k,x,hx,z⟩:=f.2 j v (by rw[<-Array.getElem?_toList];exact e)
  have n:(kvs.map (·.1))[j]? =some k:=by rw[fK,hx];rfl
  rw[D,fK]at n;cases q:ns[j]? with
  |none=>rw[q]at n;cases n
  |some m=>
   rw[q]at n;have N:(Sum.inl m:Key)=k:=dH n;subst N;obtain⟨t,rfl⟩:=Value.isInt_shape (show Value.isInt m v=true from z)
   refine⟨t,?_⟩;rw[List.getD_eq_getElem?_getD,q];rfl
 refine aj (wpAny_newList ?_ (by rw[C];exact bR (jX i) ⋯))
 have l:(g.push { cls:=.type "list",data:=.seq a.toList.toArray }).get? g.objs.size=some (seqObj "list" a.toList.toArray 0):=dE _ rfl;refine aj (jD (jx PyProof.Rows.slot_list_sort ⟨_,l,rfl⟩ PyProof.Rows.entry_list_sort (list_sort_tree (s:={ s with heap:=g.push { cls:=.type "list",data:=.seq a.toList.toArray },toks:=tk }) l hI (by rw[C];exact i) λout c J L M=>⟨_,rfl,?_⟩) (args_list_sort _)))
 obtain⟨e,he⟩:=sortedHeap_at (out:=out) l;refine aH ⟨_,rfl,h g.objs.size _ tk e out.toList c (λb o' q=>?_) ?_ (by rw[Array.toArray_toList];exact he) J L M⟩
 . have H:=F b o' q
   have I:b<g.objs.size:=bx H;rw[sortedHeap_old (cJ I) (by rw[size_push'];exact zx I)]
   exact bw _ H
 . cases q:s.heap.get? g.objs.size with
   |none=>rfl
   |some u=>exact ba (bx (F _ u q)) (jV _)
end
theorem SW{P:Program}{a:Addr}(x:aC P w H h a o):∃u,h.get? a=some u:=by
 cases o with
 |lst xs=>obtain⟨_,_,_,_,e⟩:=x;exact⟨_,e⟩
 |tup xs=>obtain⟨_,_,_,o,e,_⟩:=x;exact⟨o,e⟩
 |dK kvs=>obtain⟨_,_,_,_,o,_,_,e,_⟩:=x;exact⟨_,e⟩
 |dT kvs=>obtain⟨_,_,_,_,o,_,_,e,_⟩:=x;exact⟨_,e⟩
 |set S n=>obtain⟨o,_,_,_,e,_⟩:=x;exact⟨_,e⟩
 |ins C dx fs=>obtain⟨_,_,_,e,_⟩:=x;exact⟨_,e⟩
 |own y=>obtain⟨_,e⟩:=x;exact⟨_,e⟩
 |xd fs=>obtain⟨_,⟨_,_,_,e,_⟩,_⟩:=x;exact⟨_,e⟩
 |zk lo hi=>obtain⟨_,_,_,e⟩:=x;exact⟨_,e⟩
 |aZ ob u=>obtain⟨e,_⟩:=x;exact⟨_,e⟩
 |nX ps=>exact⟨_,(show h.get? a=some _ from x)⟩
 |met f y=>exact⟨_,(show h.get? a=some _ from x)⟩
 |ext φ=>obtain⟨_,⟨_,e⟩,_⟩:=x;exact⟨_,e⟩
section
variable {X:Cx}{pins:aF}{σ:L2.St}{H:Hp}{s:Shared}{h':Heap}{a:Addr}{o:HO}
theorem none_of(I:Inv X pins σ H s)(b:s.heap.get? a=none):H a=none:=by
 cases q:H a with
 |none=>rfl
 |some u=>
  obtain⟨v,e⟩:=SW (I.av a u q);rw[b]at e;cases e
theorem LS(I:Inv X pins σ H s)(k:∀b u,s.heap.get? b=some u->h'.get? b=some u)(h:s.heap.get? a=none)(f:aC X.prog X.w (upd H a o) h' a o):Inv X pins σ (upd H a o) { s with heap:=h',toks:=t' }:=by
 have d:=none_of I h;have j:∀b u,s.heap.get? b=some u->b≠a:=λb u e z=>by rw[z,h]at e;cases e
 refine I.un ⟨λb u q _ _ _=>k b u q,λb u q _ _ _=>⟨u.slots,k b u q⟩,λb u q n _=>by rw[aD (j b u q)];exact n,λb u q _=>⟨u,k b u q⟩,λb i q=>by rw[aD (eC q d)];exact q,λb u i q=>by rw[aD (eC q d)];exact q,λb l q=>⟨#[],by rw[aD (eC q d),q];simp⟩⟩ λb u e=>?_
 by_cases g:b=a
 . subst g;rw[c6]at e;cases e;exact f
 . rw[aD g]at e
   exact(I.av b u e).eF (λc v _ q=>k c v q) (λc q=>by rw[aD (eC q d)];exact q) λc i q=>by rw[aD (eC q d)];exact q
end
theorem bA:∀{vs:ak} {ns:List Int},IntsAre vs ns->Vals (ns.map V.int) vs
 |_,_,.nil=>.nil
 |_,_,.cons _ t r=>.cons ⟨t,rfl⟩ (bA r)
theorem Av{K:ag}:∀(ns:List Int),aa K H (ns.map RV.int) (ns.map V.int)
 | []=>aa.nil
 |n::r=>aa.cons (by simp only[Rep]) (Av r)
theorem IM{K:ag}:∀{a:List (κ×RV)} {ws:List (κ×V)},aE K H a ws->a.map (·.1)=ws.map (·.1)
 | [],ws,h=>by have b:ws= []:=h;subst b;rfl
 |(j,x)::r,ws,h=>by
  obtain⟨w,t,rfl,d,c⟩:=h;rw[bQ,bQ,IM c]
theorem JJ:∀{a:List (κ×V)} {vs:List (κ×Value)},KV a vs->a.map (·.1)=vs.map (·.1)
 |_,_,.nil=>rfl
 |_,_,.cons r t=>by rw[bQ,bQ,r.1,JJ t]
section
variable {X:Cx}
noncomputable def K3:LR->RM->ao->Prop:=λrs M Q=>∃a c ns,rs= [.ref a]/\M a=some (.dk c)/\c.map (·.1)=ns.map Sum.inl/\ns.length<64/\∀b:List Int,b.Perm ns->b.Pairwise (. <= ·)->Q (.ls (b.map RV.int)) M
theorem UR(hc:X.calm=true):cQ X (.builtin "sorted") (eO X.K K3):=by
 intro pins s σ H xs us Q0 I rl h;obtain⟨rs,M,Q,rr,hv,hq,hk⟩:=h;obtain⟨a,kvs,ns,rfl,hm,hkk,h64,hq⟩:=hq;simp only[aa,Rep]at rr;obtain⟨v,r,rfl,rfl,rfl⟩:=rr;obtain⟨u,rfl,ru⟩:=vals1 rl;cases ru;obtain⟨ho,eo,ws,rfl,hg⟩:=hv a _ hm;obtain⟨hz,hS,vs,r,m⟩:ws.length<=sizeLine/\(a==sysModules)=false/\∃vs,KV ws vs/\s.heap.DictOf (cX X.prog X.w) a vs:=I.av a _ eo;refine R3 (I.ok.hd hc) m hS (by rw[<-JJ r,<-IM hg];exact hkk) h64 λB h' tk e vs' ns' kp hB hget hI hp ho=>?_
 have hn:=none_of I hB;have hl:ns'.length<=sizeLine:=by rw[hp.length_eq];exact bR (jX h64) ⋯
 refine frozen ⟨.ref B,upd H B (.lst (ns'.map V.int)),LS I kp hB ⟨by rw[bu];exact hl,vs',e,bA hI,hget⟩,rfl,H,B,_,rfl,hn,rfl,λo=>?_⟩
 exact hk _ M _ _ (hq ns' hp ho) (Ext.new hn) (hv.new hn) (ji hn (Av ns'))
def LD:LR->RM->ao->Prop:=λrs M Q=>match rs with
 | [.int i,.int j]=>Q (.int (if j > i then j else i)) M
 |_=>False
theorem QM(e:X.calm=true):cQ X (.builtin "max") (eO X.K LD):=by
 intro a s l H o us d I k h;obtain⟨rs,M,Q,c,g,b,f⟩:=h
 match rs,b with
 | [.int i,.int j],b=>
  simp only[aa,Rep]at c;obtain⟨v,r,rfl,rfl,n,m,rfl,rfl,rfl⟩:=c;exact To e a s l H _ us d I k ⟨i,j,rfl,f _ M _ H b (.refl H) g (by simp only[Rep])⟩
end
open PySem.W
section
variable {prog:Program}{w:World}{A:Around}{E:aP}{s:Shared}
def nU(vs:ak)(p:Array Nat):ak:=p.toList.map λi=>vs.getD i Value.none
def CC(prog:Program)(w:World)(A:Around)(s:Shared)(a:Addr)(vs:ak){O:KeyOrd}(f:Nat->O.α):Prop:=∀g:Heap,(∀b o,b≠a->s.heap.get? b=some o->g.get? b=some o)->
 ∃κ,(∀(Q:SortKind->Shared->Prop) (E':aP),Q κ { s with heap:=g }->wpAny (model prog w) A (keyKind' vs.toArray) Q E' { s with heap:=g })/\
  ∀i j C,i<vs.length->j<vs.length->C (gR f i j) { s with heap:=g }->kas_ask prog w A κ vs i j C { s with heap:=g }
theorem Yq{vs:ak}{O:KeyOrd}{f:Nat->O.α}(h:vs.length<2):∃p,Ar vs.length p/\SU f p vs.length/\nU vs p=vs:=by
 match vs,h with
 | [],_=>exact⟨#[],⟨rfl,by simp⟩,λi j _ z=>ba z (sF _),rfl⟩
 | [v],_=>exact⟨#[0],⟨rfl,by simp[List.range_succ]⟩,λi j b c=>by rw[show i=j by simp at c;omega];exact KeyOrd.kle_refl _,rfl⟩
theorem Sv{a:Addr}{vs:ak}{n:Nat}{P:Fin->Shared->Prop}{O:KeyOrd}{f:Nat->O.α}(ho:s.heap.get? a=some (seqObj "list" vs.toArray n))(h64:vs.length<64)(hk:2<=vs.length->CC prog w A s a vs f)
 (h:∀p,Ar vs.length p->SU f p vs.length->P (.done (.ret .none)) { s with heap:=sortedHeap s.heap a vs (nU vs p).toArray }):wpAny (model prog w) A (Builtin.«list.sort» ⟨[.ref a],[]⟩) P E s:=by
 have la:a<s.heap.objs.size:=bx ho;have big:(64:Nat)<=sizeLine:=by decide
 obtain⟨e1,ho1⟩:∃e1,(s.heap.update a (Obj.mapSeq λ_=>(#[]:Array Value))).get? a=some (seqObj "list" #[] e1):=⟨_,get?_update_seq ho λ_=>#[]⟩
 rw[list_sort_plain];refine aj (listItems_at ho rfl (aj (listUpdate_at ho rfl (aj (seqEpoch_at ho1 rfl (aj (wpAny_newTuple (aj (wpAny_newList (jD ?_) (jY _))) (by show vs.length<=_;omega))))) (by rw[cZ];omega) (jY _))))
 let g:=((s.heap.update a (Obj.mapSeq λ_=>(#[]:Array Value))).push (seqObj "tuple" vs.toArray 0)).push (seqObj "list" #[] 0)
 have hg:g.get? a=some (seqObj "list" #[] e1):=bw _ (bw _ ho1);have kg:∀b o,b≠a->s.heap.get? b=some o->g.get? b=some o:=λb o hb e=>bw _ (bw _ (by rw[Heap.get?_update_ne _ _ _ _ hb];exact e))
 show wpAny (model prog w) A _ P E { s with heap:=g }
 dsimp only;have fin:∀(st:SortSt) p,Ar vs.length p->SU f p vs.length->(arrOf st).map (·.2)=(nU vs p).toArray->failedOf st=none->wpAny (model prog w) A (do
  let touched:=(<-seqEpoch a) != e1
  Builtin.List.listUpdate (.ref a) λ_=>(arrOf st).map (·.2)
  if let some e:=failedOf st then rule "list.sort.comparison-raised";throw e
  if touched then rule "list.sort.modified";raiseError "ValueError" "list modified during sort"
  ret .none) P E { s with heap:=g }:=λst p ar su e ef=>by
  have z:(nU vs p).length=vs.length:=by unfold nU;rw[bu,Array.length_toList,ar.sz]
  rw[e,ef];refine aj (seqEpoch_at hg rfl (aj (listUpdate_at hg rfl ?_ (jY _) (by rw[cZ,z];omega))))
  simp only[bne_self_eq_false,jA,if_false];exact aH (h p ar su)
 by_cases h2:vs.toArray.size<2
 . obtain⟨p,ar,su,e⟩:=Yq (f:=f) (by simpa using h2)
   rw[ai h2,ai h2];refine aj (aH ?_);rw[StateT.run_pure];refine aj (aH (fin _ p ar su ?_ rfl));rw[e];show(vs.toArray.zip vs.toArray).map (·.2)=_
   apply Array.toList_inj.mp;simp[List.map_snd_zip]
 . have l2:2<=vs.length:=by simpa using h2
   obtain⟨κ,k1,k2⟩:=hk l2 g kg;rw[ae h2,ae h2];refine aj (k1 _ _ (aj (gx (kat_run (Q:=λst' s'=>s'= { s with heap:=g }/\∃p,Ar vs.length p/\SU f p vs.length/\arrOf st'=p.map (kas_item (vs.toArray.zip vs.toArray))/\failedOf st'=none)
    (G:=λp s'=>s'= { s with heap:=g }/\Ar vs.length p/\SU f p vs.length) rfl l2 h64 (λp st' s' _ a2 a3 a4=>⟨a4.1,p,a4.2.1,a4.2.2,a2,a3⟩) (LK k2 (VM ∅ λp ar su=>⟨rfl,ar,su⟩))) ?_ λ_ _ x=>x)))
   rintro ⟨⟨⟩,st'⟩ s' ⟨rfl,p,ar,su,e2,e3⟩;exact fin st' p ar su (kat_snds rfl e2) e3
theorem R1{l:Addr}{vs:ak}{Q:aP}{O:KeyOrd}{f:Nat->O.α}(hl:s.heap.IsList l vs.toArray)(h64:vs.length<64)
 (hk:2<=vs.length->∀a g,s.heap.get? a=none->(∀b o,s.heap.get? b=some o->g.get? b=some o)->CC prog w A.in1.in1 { s with heap:=g } a vs f)
 (h:∀B h' e p,(∀b o,s.heap.get? b=some o->h'.get? b=some o)->s.heap.get? B=none->h'.get? B=some (seqObj "list" (nU vs p).toArray e)->Ar vs.length p->SU f p vs.length->Q (.ref B) { s with heap:=h' }):
 wpAny (model prog w) A (call (.builtin "sorted") [.ref l]) Q E s:=by
 have big:(64:Nat)<=sizeLine:=by decide
 refine Calls.call_function_entry kind_sorted plain_sorted entry_sorted (args_sorted1 (.ref l)) ?_;unfold Builtin.«sorted»;refine aj (m:=checkCount "sorted" 1 1 _) (aH (aj (collect_list hl (aj (wpAny_newList ?_ ∅)) ∅)))
 let g0:=(s.heap.push (seqObj "list" #[] 0)).update s.heap.objs.size (Obj.mapSeq (. ++vs.toArray))
 have z0:g0.objs.size=s.heap.objs.size+1:=by show Array.size (Heap.objs (Heap.update _ _ _))=_;rw[Heap.size_update,size_push']
 have kp:∀b o,s.heap.get? b=some o->(g0.push (seqObj "list" vs.toArray 0)).get? b=some o:=λb o e=>bw _ (by
  show Heap.get? (Heap.update _ _ _) b=_;rw[Heap.get?_update_ne _ _ _ _ (cJ (bx e))];exact bw _ e)
 have hB:s.heap.get? g0.objs.size=none:=Heap.get?_none_of_le (by rw[z0];exact n8 _)
 have hoL:(g0.push (seqObj "list" vs.toArray 0)).get? g0.objs.size=some (seqObj "list" vs.toArray 0):=dE _ rfl;show wpAny _ _ _ _ _ { s with heap:=g0.push (seqObj "list" vs.toArray 0) }
 refine aj (jD (jx PyProof.Rows.slot_list_sort ⟨_,hoL,rfl⟩ PyProof.Rows.entry_list_sort (Sv (s:={ s with heap:=g0.push (seqObj "list" vs.toArray 0) }) (f:=f) hoL h64 (λh2=>hk h2 _ _ hB kp) λp ar su=>⟨_,rfl,?_⟩) (PyProof.Rows.args_list_sort (.ref g0.objs.size))))
 obtain⟨e,he⟩:=sortedHeap_at (out:=(nU vs p).toArray) hoL;refine aH ⟨_,rfl,h g0.objs.size _ e p (λb o q=>?_) hB he ar su⟩
 have ne:b≠g0.objs.size:=λz=>by rw[z,hB]at q;cases q
 rw[sortedHeap_old ne (by rw[size_push'];exact zx (by rw[z0];exact zx (bx q)))]
 exact kp b o q
end
section
variable {X:Cx}{pins:aF}{σ:L2.St}{H:Hp}{s:Shared}
def cz(M:RM):RV->RV
 | .ref a=>(match M a with|some (.lst xs)=>.ls xs|_=>.ref a)
 |x=>x
theorem J4(I:Inv X pins σ H s){n:Nat}:∀{rs:LR} {vs:LV} {us:ak},rs.all (aB n)=true->aa X.K H rs vs->Vals vs us->az s.heap rs us
 | [],vs,us,_,r,w=>by
  have e:vs= []:=by simpa only[aa]using r
  subst e;cases w;simp only[az]
 |x::rs,vs,us,o,r,w=>by
  rw[d9,aU]at o;simp only[aa]at r;obtain⟨v,c,rfl,r1,b⟩:=r;obtain⟨u,a,rfl,d,f⟩:=Vals.cons_inv w;simp only[az];exact⟨u,a,rfl,iA I n x v u o.1 r1 d,J4 I o.2 b f⟩
theorem xT(I:Inv X pins σ H s)(d:View X.K H M){a:RV}{x:V}{v:Value}(o:aB 16 (cz M a)=true)(ra:Rep X.K H a x)(b:RelV x v):Den s.heap (cz M a) v:=by
 cases a with
 |ref p=>
  cases q:M p with
  |none=>rw[show cz M (.ref p)= .ref p by simp only[cz,q]]at o;cases o
  |some ob=>
   cases ob with
   |lst xs=>
    have e:cz M (.ref p)= .ls xs:=by simp only[cz,q]
    rw[e]at o ⊢;simp only[Rep]at ra;subst ra;cases b;obtain⟨g,e0,vs,rfl,c⟩:=d p _ q;obtain⟨ab,rv,f,h⟩:=I.list (cj.of e0);simp only[Den];exact⟨p,ab,rfl,f.isList,J4 I (n:=15) o c rv⟩
   |_=>rw[show cz M (.ref p)= .ref p by simp only[cz,q]]at o;cases o
 |_=>exact iA I 16 _ x v o ra b
def E3:cx:=λx y M Q=>aB 16 (cz M x)=true/\aB 16 (cz M y)=true/\Q (.bl (aY (cz M x) (cz M y))) M
def ER:cx:=λx y M Q=>aB 16 (cz M x)=true/\aB 16 (cz M y)=true/\Q (.bl (!aY (cz M x) (cz M y))) M
theorem P6(k:X.A.units+64<cLine):cS X (compareOp .Eq) E3:=by
 intro pins s σ H x y v u j I g i h;obtain⟨a,b,M,Q,ra,rb,c,⟨o1,d,f⟩,e⟩:=h;exact Ug 15 _ _ X.A s v u o1 d (xT I c o1 ra g) (xT I c d rb i) ∅ _ _ _ _ ⟨.bl _,H,I,rfl,e _ M _ H f (.refl H) c (by simp only[Rep])⟩
theorem P1(k:X.A.units+64<cLine):cS X (compareOp .NotEq) ER:=by
 intro pins s σ H x y v u j I g i h;obtain⟨a,b,M,Q,ra,rb,c,⟨o1,d,f⟩,e⟩:=h;exact Ik 15 _ _ X.A s v u o1 d (xT I c o1 ra g) (xT I c d rb i) ∅ _ _ _ _ ⟨.bl _,H,I,rfl,e _ M _ H f (.refl H) c (by simp only[Rep])⟩
end
section
variable {X:Cx}
noncomputable def sX (Q:ao):LR->RM->Prop:=λrs M=>match rs with
 | [.int i,.int j]=>(-1000000<=i/\i<=1000000/\-1000000<=j/\j<=1000000)/\(j-i).toNat<=1000/\Q (.ls (xQ i (j-i).toNat)) M
 |_=>False
def K4(ta tb:aq):aq:=λσ M Q=>rO ta (rO tb mK) σ M (sX Q)
theorem Iu(a:Int):∀(vs:ak) (k:Nat),(∀(j:Nat) v,vs[j]? =some v->∃t,v= .int (a+((k+j:Nat):Int)) t)->Vals ((List.range' k vs.length).map λ(j:Nat)=>V.int (a+(j:Int))) vs
 | [],_,_=>.nil
 |v::vs,k,h=>by
  obtain⟨t,e⟩:=h 0 v rfl;rw[bG,List.range'_succ,bQ];refine .cons ⟨t,e⟩ (Iu a vs (k+1) λj u c=>?_)
  obtain⟨d,b⟩:=h (j+1) u (by simpa using c)
  refine⟨d,?_⟩;rw[b,show k+(j+1)=k+1+j by omega]
theorem Io{K:ag}(a:Int):∀(l:List Nat),aa K H (l.map λ(j:Nat)=>RV.int (a+(j:Int))) (l.map λ(j:Nat)=>V.int (a+(j:Int)))
 | []=>aa.nil
 |j::r=>aa.cons (by simp only[Rep]) (Io a r)
theorem boot_list:bootBuiltins "list" =some (.type "list"):=by decide+kernel
theorem XA{a b:Expr}{p1 z c pos:Pos}(J:X.mg "list" =none)(L:X.mg "range" =none)(hc:X.calm=true)(ha:ah X a t1)(hb:ah X b t2)(E:Gl X "list")(F:Gl X "range")
 (N:starEach [a,b] X.env= [(false,eval a X.env),(false,eval b X.env)]:=by rfl) (n:starEach [b] X.env= [(false,eval b X.env)]:=by rfl)
 (C:starEach [a,b] X.env=(false,eval a X.env)::starEach [b] X.env:=by rfl) (D:starEach [b] X.env=(false,eval b X.env)::starEach [] X.env:=by rfl)
 (g:starEach [Expr.Call (.Name "range" z) [a,b] [] c] X.env=(false,eval (Expr.Call (.Name "range" z) [a,b] [] c) X.env)::starEach [] X.env:=by rfl):
 ah X (.Call (.Name "list" p1) [.Call (.Name "range" z) [a,b] [] c] [] pos) (K4 t1 t2):=by
 intro u s Y H Q0 I h;obtain⟨σ,M,Q,hs,hv,ht,hk⟩:=h;have f:eI X [a,b] (rO t1 (rO t2 mK)):=yt ha (yt hb B9 D) C;refine Call_ (nG I E J boot_list (vQ ?_ g rfl));rw[g];show wpAny _ _ (spliced ((false,eval (Expr.Call (.Name "range" z) [a,b] [] c) X.env)::backTo pos (starEach [] X.env))) _ _ s;refine Calls.spliced_cons (Call_ (nG I F L boot_range (vQ (ay (f c u s Y H (λvs H1=>∃i j M1,vs= [V.int i,V.int j]/\sX Q [.int i,.int j] M1/\Ext H H1/\View X.K H1 M1) I ⟨σ,M,_,hs,hv,ht,λrs M1 vs H1 q e1 W r1=>?_⟩) λus w U=>?_) (by rw[N,n]) (by rw[n];rfl))))
 . unfold sX at q
   split at q
   . simp only[aa,Rep]at r1
     obtain⟨v,r,rfl,rfl,v',r',rfl,rfl,rfl⟩:=r1;exact⟨_,_,M1,rfl,q,e1,W⟩
   . exact q.elim
 . obtain⟨vs,H1,Z,rv,i,j,M1,rfl,q,e1,W⟩:=U
   obtain⟨u1,us1,rfl,U,rv⟩:=Vals.cons_inv rv;obtain⟨u2,us2,rfl,q2,rv⟩:=Vals.cons_inv rv;cases rv;obtain⟨x,rfl⟩:=U;obtain⟨y,rfl⟩:=q2;obtain⟨⟨b1,b2,b3,b4⟩,hn,q⟩:=q;refine call_range_2 ?_;have A:=Z.kept (h':=w.heap.push { cls:=.type "range",data:=.fields #[.int i x,.int j y,.int 1 w.toks] }) (t':=w.toks+1) (λb o e=>bw _ e)
   refine Calls.spliced_nil ?_;have O:Builtin.Range.rangeSize i j 1=((j-i).toNat:Int):=by rw[rangeSize_one];split<;>omega
   refine call_list_range (A.ok.hd hc) (IsRange.new w.heap i j 1 x y w.toks) (small_one ∅ ∅ ∅ ∅) O ∅ λh' tk d c' kp l m=>?_
   have eL:=A.av.fresh (aK _);have R:Vals ((List.range (j-i).toNat).map λ(k:Nat)=>V.int (i+(k:Int))) d.toList:=by
    have:=Iu i d.toList 0 λk v e=>by
     obtain⟨t,e'⟩:=m.2 k v (by rw[<-Array.getElem?_toList];exact e)
     exact⟨t,by rw[e'];simp⟩
    rw[Array.length_toList,m.1]at this;rw[List.range_eq_range'];exact this
   refine frozen ⟨.ref _,_,A.laid kp (aK _) (o:=.lst ((List.range (j-i).toNat).map λ(k:Nat)=>V.int (i+(k:Int)))) ⟨by rw[bu,List.length_range];exact bR hn ⋯,d.toList,c',R,by rw[Array.toArray_toList];exact l⟩,rfl,H1,_,_,rfl,eL,rfl,λo=>?_⟩
   exact hk _ M1 _ _ q (e1.trans (Ext.new eL)) (W.new eL) (ji eL (Io i _))
end
structure sJ(P:Program)(w:World)(K:ag)(mg:bo)(base:Heap)(C:Addr)(k:Nat)(m:Str)(ps:aA)(sp:bX):Prop where
 ex:∃(g:Addr) (fd:FuncData),Meth K C m g/\Binds K fd ps []/\dz P w K mg base fh k g fd ps (fH K sp)
structure zH(P:Program)(w:World)(K:ag)(mg:bo)(base:Heap)(C:Addr)(k:Nat)(ps:aA)(sp:bX):Prop where
 ex:∃(g:Addr) (fd:FuncData),Mk K C g/\Binds K fd ps []/\dz P w K mg base fh k g fd ps (fH K sp)
section
variable {X:Cx}{x m:Str}{p pos apos:Pos}{o e:Expr}{es:aS}{t:bD}{ta:aq}{k:Nat}{ps:aA}{sp:bX}{C:Addr}
theorem Xx(F:sJ X.prog X.w X.K X.mg X.base C k m ps sp)(c:cK X.K C)(n:aI k X.A)(j:ah X o ta)(h:eI X (e::es) t)
 (b:starEach (e::es) X.env=(false,eval e X.env)::starEach es X.env:=by rfl) (a:(backTo pos (starEach es X.env)).any (·.1)=false:=by rfl)
 (r:eval (.Call (.Attribute o m apos) (e::es) [] pos) X.env=(do
  let d<-eval o X.env
  standAt apos.atName
  let(f,first) <-holding [d] (getMethod d m pl)
  callWith pos f first (backTo pos (starEach (e::es) X.env)) (backToKw pos (keywordEach [] X.env))):=by rfl):
 ah X (.Call (.Attribute o m apos) (e::es) [] pos) (vh C m sp ta t):=by
 obtain⟨g,s,l,i,F⟩:=F.ex;exact Zw j c l F n i h b a r
theorem VC(F:sJ X.prog X.w X.K X.mg X.base C k m ps sp)(c:cK X.K C)(i:aI k X.A)(d:ah X o ta)
 (j:eval (.Call (.Attribute o m apos) [] [] pos) X.env=(do
  let a<-eval o X.env
  standAt apos.atName
  let(f,first) <-holding [a] (getMethod a m pl)
  callWith pos f first (backTo pos (starEach [] X.env)) (backToKw pos (keywordEach [] X.env))):=by rfl):
 ah X (.Call (.Attribute o m apos) [] [] pos) (vh C m sp ta mK):=by
 obtain⟨g,l,h,b,F⟩:=F.ex;exact Xy d c h F i b j
theorem Xz(F:zH X.prog X.w X.K X.mg X.base C k ps sp)(l:aI (k+1) X.A)(j:X.mg x=some (.ref C))(d:eI X (e::es) t)(i:Gl X x:=by rfl)(a:(x==("__debug__":Str))=false:=by decide)
 (h:starEach (e::es) X.env=(false,eval e X.env)::starEach es X.env:=by rfl) (b:(backTo pos (starEach es X.env)).any (·.1)=false:=by rfl):ah X (.Call (.Name x p) (e::es) [] pos) (rN C sp t):=by
 obtain⟨g,n,c,f,F⟩:=F.ex;exact Zx (h0:=0) c F l j f d i a h b
end
section
variable {X:Cx}
noncomputable def LF:LR->RM->ao->Prop:=λrs M Q=>match rs with
 | [.ref a,.ty T']=>T'= "list"/\(match M a with|some (.lst _)=>Q (.bl true) M|_=>False)
 |_=>False
theorem Sl:cQ X (.builtin "isinstance") (eO X.K LF):=by
 intro pins s σ H xs us Q0 I rl h;obtain⟨rs,M,Q,rr,hv,hq,hk⟩:=h;unfold LF at hq;split at hq
 . rename_i a T'
   obtain⟨rfl,hq⟩:=hq;obtain⟨v,w,rfl,r1,r2⟩:=rr.two;obtain⟨u,u',rfl,w1,w2⟩:=vals2 rl;simp only[Rep]at r1 r2;subst r1;subst r2;obtain rfl:u'=Value.type "list":=w2;cases(show u=Value.ref a from w1)
   split at hq
   . rename_i ys em
     obtain⟨ho,e,r⟩:=hv a _ em;obtain⟨vs,rfl,hr⟩:=r;obtain⟨ab,_,pt,_⟩:=I.list (cj.of e);obtain⟨o,h1,h2,_⟩:=pt.isList;exact qK PySem.W.kitx_list I.dj ⟨o,h1,h2⟩ (HP X.K) (λz=>nomatch z) λtk=>⟨.bl true,H,I.tok tk,rfl,hk _ M _ H hq (.refl H) hv (by simp only[Rep])⟩
   . exact hq.elim
 . exact hq.elim
end
abbrev TK:=List (Option Key)
noncomputable def nQ:RV->Option (Option Key)
 | .au=>some none
 | .int i=>some (some (.inl i))
 | .str x=>some (some (.inr x))
 |_=>none
def gI:LR->Option TK
 | []=>some []
 |r::rs=>match nQ r,gI rs with
  |some k,some ks=>some (k::ks)
  |_,_=>none
def fe:RV->Option TK
 | .tup rs=>gI rs
 |_=>none
def jM(kvs:List (TK×Str))(k:TK):RV:=match kvs.find? λp=>decide (p.1=k)with
 |some p=>.str p.2
 |none=>.au
noncomputable def vI:List (TK×Str)->List (TK×Addr×Value)->Prop
 | [],[]=>True
 |(k,y)::r,(k',_,v)::r'=>k=k'/\(∃t,v= .str y t)/\vI r r'
 |_,_=>False
theorem Iv:∀{b:List (TK×Str)} {xs:List (TK×Addr×Value)},vI b xs->
 (∃y t,jM b k= .str y/\((PySem.atKey xs k).map (·.2)).getD .none= .str y t)∨(jM b k= .au/\((PySem.atKey xs k).map (·.2)).getD .none= .none)
 | [],[],_=>.inr ⟨rfl,rfl⟩
 |(k1,y)::r,(k',a,v)::r',⟨e,⟨t,ev⟩,h⟩=>by
  subst e;subst ev
  by_cases q:k1=k
  . subst q
    exact .inl ⟨y,t,by simp[jM],by simp[PySem.atKey]⟩
  . have e1:jM ((k1,y)::r) k=jM r k:=by simp[jM,q]
    have c:PySem.atKey ((k1,a,Value.str y t)::r') k=PySem.atKey r' k:=by simp[PySem.atKey,q]
    rw[e1,c];exact Iv h
structure qd(P:Program)(w:World)(K:ag)(mg:bo)(x:Str)(kvs:List (TK×Str)):Prop where
 ex:∃a xs,mg x=some (.ref a)/\(a==sysModules)=false/\(∀h:Heap,K.In h->h.DictOfH (tupleKind (optKind P w)) a xs)/\vI kvs xs
theorem Vi{P:Program}{K:ag}{x:Str}{a:Addr}{sl:Array (cN)}{xs:List (TK×Addr×Value)}
 (j:mg x=some (.ref a)) (l:K.lookup a=some ⟨.type "dict",none,.dict es ep,sl⟩) (h:(a==sysModules)=false) (c:Obj.ExactDict ⟨.type "dict",none,.dict es ep,sl⟩)
 (i:es.toList=xs.map (entryOfKey (tupleKind (optKind P w)))) (hi:∀y∈xs,∃o b n,K.lookup y.2.1=some o/\o.cls= .type "tuple"/\o.data= .seq b n/\ItemsAre (optKind P w) y.1 b.toList)
 (k:(xs.map (·.1)).Nodup) (m:vI kvs xs):qd P w K mg x kvs:=
 ⟨a,xs,j,h,λh X=>⟨_,es,ep,X _ _ l,c,rfl,i,λy r=>by
  obtain⟨o,b,n,d,e,f,g⟩:=hi y r;exact⟨o,b,n,X _ _ d,e,f,g⟩,k⟩,m⟩
theorem AJ{P:Program}{K:ag}:∀{rs:LR} {ks:TK} {vs:LV} {ab:ak},gI rs=some ks->aa K H rs vs->Vals vs ab->ItemsAre (optKind P w) ks ab
 | [],ks,vs,ab,e,r,v=>by
  cases e;simp only[aa]at r;subst r;cases v;exact .nil
 |r::rs,ks,vs,ab,e,hr,v=>by
  obtain⟨x,f,rfl,a,d⟩:=(by simpa only[aa]using hr:∃v c,vs=v::c/\Rep K H r v/\aa K H rs c)
  cases v with
  |cons v1 v2=>
   rename_i u b;simp only[gI]at e;cases e1:nQ r with
   |none=>rw[e1]at e;cases e
   |some k=>
    cases e2:gI rs with
    |none=>rw[e1,e2]at e;cases e
    |some ks'=>
     rw[e1,e2]at e;cases e;refine .cons ?_ (AJ e2 d v2);cases r with
     |au=>
      cases e1;have:x= .au:=by simpa only[Rep]using a
      subst this;cases(show u=Value.none from v1)
      rfl
     |int i=>
      cases e1;have:x= .int i:=by simpa only[Rep]using a
      subst this;exact i5 (P:=P) (w:=w) (k:=.inl i) v1
     |str y=>
      cases e1;have:x= .str y:=by simpa only[Rep]using a
      subst this;exact i5 (P:=P) (w:=w) (k:=.inr y) v1
     |_=>cases e1
section
variable {X:Cx}
def yd(kvs:List (TK×Str))(Q:ao):ao:=λk M1=>match fe k with
 |some ks=>Q (jM kvs ks) M1
 |none=>False
def xW(kvs:List (TK×Str))(te:aq):aq:=λσ M Q=>te σ M (yd kvs Q)
theorem Wc{x:Str}{e:Expr}{p c d:Pos}(J:X.A.units+1<cLine)(T:qd X.prog X.w X.K X.mg x kvs)(Y:ah X e te)(m:M1 X (.Name x p) "get" c e d:=by exact⟨rfl,rfl,rfl,rfl⟩)
 (Z:Gl X x:=by rfl) (W:(x==("__debug__":Str))=false:=by decide):ah X (.Call (.Attribute (.Name x p) "get" c) [e] [] d) (xW kvs te):=by
 obtain⟨a,L,hm,E,D,hk⟩:=T.ex;intro i s A H Q0 I h;obtain⟨σ,M,Q,u,hv,ht,F⟩:=h;have C:=D _ I.dj;refine wpAny_Call_method m.base m.qR m.line PySem.F.plainAttrs_dict PySem.F.slot_dict_get PySem.F.type_dict_get (nr I Z hm ⟨C.typeIs,λb q=>?_,?_⟩ W)
 . cases q
   obtain⟨ob,_,_,j,l,_⟩:=C;exact⟨ob,j,l.2.1⟩
 rw[m.trees];refine Calls.callWith_builtin rfl (Calls.evalArgs_plain (Calls.spliced_cons (ay (Y i s A H (λv H1=>∃r M1,Rep X.K H1 r v/\Ext H H1/\View X.K H1 M1/\yd kvs Q r M1) I ⟨σ,M,_,u,hv,ht,λr M1 v H1 q e w r1=>⟨r,M1,r1,e,w,q⟩⟩)
  λiv s2 ⟨y,H2,I2,ry,r,M2,rr,e2,w2,q2⟩=>Calls.spliced_nil ?_)))
 unfold yd at q2;cases ek:fe r with
 |none=>rw[ek]at q2;exact q2.elim
 |some ks=>
  rw[ek]at q2;simp only at q2;cases r with
  |tup rs=>
   obtain⟨b,vs,rfl,R,O⟩:=(by simpa only[Rep]using rr:∃a vs,y= .ref a/\H2 a=some (.tup vs)/\aa X.K H2 rs vs)
   cases(show iv=Value.ref b from ry)
   obtain⟨ab,U,⟨o,j,l,n,N⟩,_⟩:=I2.tuple (bI.of R);have g:IsTupleKey (optKind X.prog X.w) s2.heap ks b:=⟨o,ab.toArray,n,j,l,N,by simpa using AJ ek O U⟩
   have dd:=D _ I2.dj;rcases Iv (k:=ks) hk with⟨z,t,e1,f⟩|⟨e1,f⟩
   . refine call_meetsIn PySem.F.slot_dict_get dd.typeIs PySem.F.entry_dict_get (PySem.F.args_dict_get_2 _ _) (meetsH_dict_get (tupleKind (optKind X.prog X.w)) a b E) ⟨tupleKind_room_in1 J,ks,L,g,dd,.str z,H2,I2.tok _,by rw[f];exact⟨t,rfl⟩,?_⟩
     exact F _ M2 _ H2 q2 e2 w2 (by rw[e1];simp only[Rep])
   . refine call_meetsIn PySem.F.slot_dict_get dd.typeIs PySem.F.entry_dict_get (PySem.F.args_dict_get_2 _ _) (meetsH_dict_get (tupleKind (optKind X.prog X.w)) a b E) ⟨tupleKind_room_in1 J,ks,L,g,dd,.au,H2,I2.tok _,by rw[f];rfl,?_⟩
     exact F _ M2 _ H2 q2 e2 w2 (by rw[e1];simp only[Rep])
  |_=>cases ek
end
section
variable {κ:Type}[DecidableEq κ]{K:ag}{H:Hp}{k:κ}{v:RV}{u:V}
def lk(kvs:List (κ×α))(k:κ):Option α:=(kvs.find? λp=>decide (p.1=k)).map (·.2)
theorem fG{x:α}:lk ((j,x)::r) k=if j=k then some x else lk r k:=by
 unfold lk;rw[jy]
 by_cases h:j=k
 . rw[ai h,fg (show(j,x).1=k from h)];rfl
 . rw[ae h,gL (show ¬(j,x).1=k from h)]
noncomputable def pt(kvs:List (κ×α))(k:κ)(v:α):List (κ×α):=
 if(kvs.any λkv=>decide (kv.1=k))=true then kvs.map (λkv=>if kv.1=k then(kv.1,v)else kv)else kvs++ [(k,v)]
def dl(kvs:List (κ×α))(k:κ):List (κ×α):=kvs.filter λkv=>decide (kv.1≠k)
theorem jj:∀{a:List (κ×RV)} {ws:List (κ×V)},aE K H a ws->(∀r,lk a k=some r->∃v,fb ws k=some v/\Rep K H r v)/\(lk a k=none->fb ws k=none)
 | [],ws,h=>by
  have h:ws= []:=h;subst h;exact⟨λr e=>(by cases e),λ_=>rfl⟩
 |(j,x)::t,ws,h=>by
  obtain⟨v,u,rfl,d,f⟩:=h;have c:=jj f;rw[fG]
  by_cases b:j=k
  . rw[ai b]
    refine⟨λr e=>⟨v,uC (p:=(j,v)) b,?_⟩,λe=>(by cases e)⟩
    cases e;exact d
  . rw[ae b]
    exact⟨λr e=>by rw[pH (p:=(j,v)) b];exact c.1 r e,λe=>by rw[pH (p:=(j,v)) b];exact c.2 e⟩
theorem IP:∀{kvs:List (κ×RV)} {ws:List (κ×V)},aE K H kvs ws->(kvs.any λkv=>decide (kv.1=k))=ws.any λkv=>decide (kv.1=k)
 | [],ws,h=>by have h':ws= []:=h;subst h';rfl
 |(j,x)::r,ws,h=>by
  obtain⟨w,t,rfl,h1,h2⟩:=h;rw[jW,jW,IP h2]
theorem Ay(hv:Rep K H v u):∀{kvs:List (κ×RV)} {ws:List (κ×V)},aE K H kvs ws->aE K H (kvs.map λkv=>if kv.1=k then(kv.1,v)else kv) (ws.map λkv=>if kv.1=k then(kv.1,u)else kv)
 | [],ws,h=>by have h':ws= []:=h;subst h';rfl
 |(j,x)::r,ws,h=>by
  obtain⟨w,t,rfl,h1,h2⟩:=h;rw[bQ,bQ]
  by_cases e:j=k
  . rw[ai (show(j,x).1=k from e),ai (show(j,w).1=k from e)];exact⟨u,_,rfl,hv,Ay hv h2⟩
  . rw[ae (show ¬(j,x).1=k from e),ae (show ¬(j,w).1=k from e)];exact⟨w,_,rfl,h1,Ay hv h2⟩
theorem JB(a:Rep K H v u)(h:aE K H kvs ws):aE K H (pt kvs k v) (putK ws k u):=by
 unfold pt putK;rw[IP h];split
 . exact Ay a h
 . exact Js h ⟨u,[],rfl,a,rfl⟩
end
theorem U4{K:ag}{x:V}(e:nQ r=some k)(h:Rep K H r x):x=oV k:=by
 cases r<;>first|(cases e;simp only[Rep]at h;exact h)|cases e
theorem Jw{K:ag}:∀{rs:LR} {vs:LV} {ks:TK},gI rs=some ks->aa K H rs vs->vs=ks.map oV
 | [],vs,ks,e,h=>by cases e;exact h
 |r::rs,vs,ks,e,h=>by
  simp only[aa]at h;obtain⟨v,t,rfl,d,f⟩:=h;unfold gI at e;split at e
  . rename_i a b e1 c
    cases e;rw[U4 e1 d,Jw c f];rfl
  . cases e
theorem xR{K:ag}{x:V}(e:fe r=some k)(h:Rep K H r x):∃b,x= .ref b/\H b=some (.tup (k.map oV)):=by
 cases r with
 |tup rs=>
  simp only[Rep]at h;obtain⟨a,vs,rfl,c,d⟩:=h;exact⟨a,rfl,by rw[c,Jw e d]⟩
 |_=>cases e
noncomputable def rY (o:RO)(y:RV):Option (Option RV):=match o with
 | .dk kvs=>(fq y).map (lk kvs)
 | .dt kvs=>(fe y).map (lk kvs)
 | .fk kvs=>(fq y).map (lk kvs)
 | .ft kvs=>(fe y).map (lk kvs)
 |_=>none
def qP(M:RM)(x y:RV):Option (Option RV):=match x with
 | .ref a=>(M a).bind (rY . y)
 |_=>none
def sV(M:RM)(x:RV):Prop:=match x with
 | .ref a=>match M a with
  |some (.dk _)=>True
  |some (.dt _)=>True
  |some (.fk _)=>True
  |some (.ft _)=>True
  |_=>False
 |_=>False
def sR(M:RM)(x y v:RV)(N:RM->Prop):Prop:=match x with
 | .ref a=>match M a with
  |some (.dk kvs)=>match fq y with
   |some k=>kvs.length<sizeLine/\N (put M a (.dk (pt kvs k v)))
   |none=>False
  |some (.dt kvs)=>match fe y with
   |some k=>kvs.length<sizeLine/\N (put M a (.dt (pt kvs k v)))
   |none=>False
  |_=>False
 |_=>False
section
variable {X:Cx}{M:RM}{H:Hp}{x y:RV}{vx vy:V}
theorem A4{K:ag}(hv:View K H M)(e:qP M x y=some r)(rx:Rep K H x vx)(ry:Rep K H y vy):
 ∃a r0,vx= .ref a/\bU H a vy r0/\(∀z,r=some z->∃v,r0=some v/\Rep K H z v)/\(r=none->r0=none):=by
 unfold qP at e;split at e
 . rename_i a
   simp only[Rep]at rx;cases q:M a with
   |none=>rw[q]at e;cases e
   |some o=>
    rw[q]at e
    replace e:rY o y=some r:=e
    obtain⟨ho,eo,ro⟩:=hv a o q;unfold rY at e;split at e
    . rename_i kvs
      obtain⟨ws,rfl,hg⟩:=ro;cases ek:fq y with
      |none=>rw[ek]at e;cases e
      |some k=>
       rw[ek]at e;have e:lk kvs k=r:=dH e;have:=pJ ek ry;subst this;exact⟨a,_,rx,bU.k eo,λz hz=>(jj (k:=k) hg).1 z (e.trans hz),λhz=>(jj (k:=k) hg).2 (e.trans hz)⟩
    . rename_i kvs
      obtain⟨ws,rfl,hg⟩:=ro;cases ek:fe y with
      |none=>rw[ek]at e;cases e
      |some k=>
       rw[ek]at e;have e:lk kvs k=r:=dH e;obtain⟨b,rfl,hb⟩:=xR ek ry;exact⟨a,_,rx,bU.t eo hb,λz hz=>(jj (k:=k) hg).1 z (e.trans hz),λhz=>(jj (k:=k) hg).2 (e.trans hz)⟩
    . rename_i kvs
      obtain⟨ob,ws,rfl,hg⟩:=ro;cases ek:fq y with
      |none=>rw[ek]at e;cases e
      |some k=>
       rw[ek]at e;have e:lk kvs k=r:=dH e;have:=pJ ek ry;subst this;exact⟨a,_,rx,.inl ⟨ws,k,.inr ⟨ob,eo⟩,rfl,rfl⟩,λz hz=>(jj (k:=k) hg).1 z (e.trans hz),λhz=>(jj (k:=k) hg).2 (e.trans hz)⟩
    . rename_i kvs
      obtain⟨ob,ws,rfl,hg⟩:=ro;cases ek:fe y with
      |none=>rw[ek]at e;cases e
      |some k=>
       rw[ek]at e;have e:lk kvs k=r:=dH e;obtain⟨b,rfl,hb⟩:=xR ek ry;exact⟨a,_,rx,.inr ⟨ws,k,b,.inr ⟨ob,eo⟩,rfl,hb,rfl⟩,λz hz=>(jj (k:=k) hg).1 z (e.trans hz),λhz=>(jj (k:=k) hg).2 (e.trans hz)⟩
    . cases e
 . cases e
theorem Wm{K:ag}(h:View K H M)(d:sV M x)(g:Rep K H x vx):∃a,vx= .ref a/\zE H a:=by
 unfold sV at d;split at d
 . rename_i a
   simp only[Rep]at g;split at d
   . rename_i c e;obtain⟨j,b,f,rfl,i⟩:=h a _ e;exact⟨a,g,.inl ⟨f,.inl b⟩⟩
   . rename_i c e;obtain⟨j,b,f,rfl,i⟩:=h a _ e;exact⟨a,g,.inr ⟨f,.inl b⟩⟩
   . rename_i c e;obtain⟨j,b,ob,f,rfl,i⟩:=h a _ e;exact⟨a,g,.inl ⟨f,.inr ⟨ob,b⟩⟩⟩
   . rename_i c e;obtain⟨j,b,ob,f,rfl,i⟩:=h a _ e;exact⟨a,g,.inr ⟨f,.inr ⟨ob,b⟩⟩⟩
   . exact d.elim
 . exact d.elim
theorem Wh{K:ag}{v:RV}(g:View K H M)(d:sR M x y v N)(l:Rep K H x vx)(o:Rep K H y vy)(rv:Rep K H v vv):
 ∃a h n,vx= .ref a/\fA H a vy vv h/\N n/\Ext H h/\View K h n:=by
 unfold sR at d;split at d
 . rename_i a
   simp only[Rep]at l;split at d
   . rename_i j c
     obtain⟨s,e,m,rfl,f⟩:=g a _ c;split at d
     . rename_i k i
       have:=pJ i o;subst this;have ex:Ext H (upd H a (.dK (putK m k vv))):=Ext.write e rfl;exact⟨a,_,_,l,fA.k e (by rw[<-iw f];exact d.1),d.2,ex,g.write c ⟨_,rfl,JB (Rep.ext ex _ _ rv) (f.ext ex)⟩⟩
     . exact d.elim
   . rename_i j c
     obtain⟨s,e,m,rfl,f⟩:=g a _ c;split at d
     . rename_i k i
       obtain⟨b,rfl,r⟩:=xR i o;have ex:Ext H (upd H a (.dT (putK m k vv))):=Ext.write e rfl;exact⟨a,_,_,l,fA.t e r (by rw[<-iw f];exact d.1),d.2,ex,g.write c ⟨_,rfl,JB (Rep.ext ex _ _ rv) (f.ext ex)⟩⟩
     . exact d.elim
   . exact d.elim
 . exact d.elim
end
section
variable {X:Cx}{o i value e f:Expr}{pos pos' apos cpos:Pos}{td ty tv tx:aq}
def vq(Q:ao)(x y:RV)(M:RM):Prop:=match qP M x y with
 |some (some v)=>Q v M
 |_=>False
def Lr(td ty:aq):aq:=λσ M Q=>td σ M λx M1=>ty σ M1 λy M2=>vq Q x y M2
theorem VX{x y:RV}(h:vq Q x y M):∃v,qP M x y=some (some v)/\Q v M:=by
 unfold vq at h;split at h
 . rename_i v e;exact⟨v,e,h⟩
 . exact h.elim
theorem Y6(t:X.A.units+1<cLine)(r:ah X o td)(hi:ah X i ty)(hs:sg i):ah X (.Subscript o i pos) (Lr td ty):=PE.imp (JL t r hi hs) λσ0 H C h=>by
 obtain⟨k,M,Q,hs,u,s,n⟩:=h;refine⟨k,M,_,hs,u,s,λrx M1 x H1 q e1 A r1=>⟨k,M1,_,hs.ext e1,A,q,λry M2 y l b d j z=>?_⟩⟩
 obtain⟨v,ev,b⟩:=VX b;obtain⟨a,r0,rfl,g,m,_⟩:=A4 j ev (Rep.ext d _ _ r1) z;obtain⟨w,rfl,c⟩:=m v rfl;exact⟨a,w,rfl,g,n _ M2 _ l b (e1.trans d) j c⟩
def zo(neg:Bool)(Q:ao)(x y:RV)(M:RM):Prop:=match qP M x y with
 |some r=>Q (.bl (if neg then !r.isSome else r.isSome)) M
 |none=>False
def rS(neg:Bool)(ty td:aq):aq:=λσ M Q=>ty σ M λy M1=>td σ M1 λx M2=>zo neg Q x y M2
theorem xx(h:up X.K (rS neg ty td) σ0 H Q0):up X.K ty σ0 H λy H1=>up X.K td σ0 H1 λx b=>∃a r,x= .ref a/\bU b a y r/\Q0 (.bl (if neg then !r.isSome else r.isSome)) b:=by
 obtain⟨k,M,Q,hs,u,t,s⟩:=h;refine⟨k,M,_,hs,u,t,λry M1 y H1 q e1 A r1=>⟨k,M1,_,hs.ext e1,A,q,λrx M2 x b c d j w=>?_⟩⟩
 unfold zo at c;split at c
 . rename_i r l
   obtain⟨a,r0,rfl,g,m,n⟩:=A4 j l w (Rep.ext d _ _ r1);refine⟨a,r0,rfl,g,s _ M2 _ b c (e1.trans d) j ?_⟩;have:r0.isSome=r.isSome:=by
    cases r with
    |none=>rw[n rfl];rfl
    |some z=>obtain⟨v,rfl,_⟩:=m z rfl;rfl
   rw[this];simp only[Rep]
 . exact c.elim
theorem OI(c:X.A.units+1<cLine)(hi:ah X i ty)(b:ah X o td)(a:behindInMarks .In o=false):ah X (.Compare i [.In] [o] pos) (rS false ty td):=PE.imp (Lc (Ld c hi b) a) λσ0 H d h=>xx h
theorem VY(c:X.A.units+1<cLine)(hi:ah X i ty)(b:ah X o td)(a:behindInMarks .NotIn o=false):ah X (.Compare i [.NotIn] [o] pos) (rS true ty td):=PE.imp (Lc (IU c hi b) a) λσ0 H d h=>xx h
theorem Y5(g:X.A.units+1<cLine)(hi:ah X i ty)(c:ah X o td)(a:behindInMarks .In o=false):dZ X (.Compare i [.In] [o] pos) (mE (rS false ty td)):=PT.imp (Bq (Ld g hi c) a) λσ0 H l h=>by
 obtain⟨k,M,Q,hs,j,d,b⟩:=h;exact xx (neg:=false) ⟨k,M,_,hs,j,d,pN b⟩
theorem Uw(g:X.A.units+1<cLine)(hi:ah X i ty)(c:ah X o td)(a:behindInMarks .NotIn o=false):dZ X (.Compare i [.NotIn] [o] pos) (mE (rS true ty td)):=PT.imp (Bq (IU g hi c) a) λσ0 H l h=>by
 obtain⟨k,M,Q,hs,j,d,b⟩:=h;exact xx (neg:=true) ⟨k,M,_,hs,j,d,pN b⟩
def uW(Q:ao)(x y z:RV)(M:RM):Prop:=match qP M x y with
 |some r=>Q (r.getD z) M
 |none=>False
def KU(td ty:aq):aq:=λσ M Q=>td σ M λx M1=>sV M1 x/\ty σ M1 λy M2=>uW Q x y .au M2
theorem Ux{K:ag}{x y z:RV}{a:Addr}(h:uW Q x y z M)(l:View K H M)(m:Rep K H x (.ref a))(n:Rep K H y vy)(s:Rep K H z vz):
 ∃r r0,Q r M/\bU H a vy r0/\Rep K H r (r0.getD vz):=by
 unfold uW at h;split at h
 . rename_i r d
   obtain⟨t,r0,c,g,j,k⟩:=A4 l d m n;cases c;refine⟨_,r0,h,g,?_⟩;cases r with
   |none=>rw[k rfl];exact s
   |some q=>obtain⟨v,rfl,b⟩:=j q rfl;exact b
 . exact h.elim
theorem WN(v:X.A.units+1<cLine)(t:ah X o td)(n:ah X e ty)(m:M1 X o "get" apos e cpos):ah X (.Call (.Attribute o "get" apos) [e] [] cpos) (KU td ty):=PE.imp (T4 v t n m) λσ0 H E h=>by
 obtain⟨l,M,Q,hs,w,u,s⟩:=h;refine⟨l,M,_,hs,w,u,λrx M1 x H1 q e1 j r1=>?_⟩
 obtain⟨a,rfl,d⟩:=Wm j q.1 r1;refine⟨a,rfl,d,l,M1,_,hs.ext e1,j,q.2,λry M2 y b z c k C=>?_⟩
 obtain⟨r,r0,A,g,D⟩:=Ux z k (Rep.ext c _ _ r1) C (show Rep X.K b .au .au by simp only[Rep])
 exact⟨r0,g,s _ M2 _ b A (e1.trans c) k D⟩
def KR(td ty tv:aq):cU:=λD a M=>tv a M λv M1=>td a M1 λx M2=>ty a M2 λy b=>sR b x y v (D.nx a)
theorem WL(z:X.A.units+1<cLine)(t:ah X o td)(hi:ah X i ty)(k:ah X value tv)(hs:swapsWith value (some (.Subscript o i pos')) pos.line X.env=pure false):eJ X (.Assign [.Subscript o i pos'] value pos) (KR td ty tv):=PS.imp (VR z t hi k hs) λD0 l H h=>by
 obtain⟨c,M,D,hs,k,u,s⟩:=h;refine⟨c,M,_,hs,k,u,λrv M1 v H1 q e1 I r1=>⟨c,M1,_,hs.ext e1,I,q,λrx M2 x N A d J E=>⟨c,M2,_,hs.ext (e1.trans d),J,A,λry Q y O C j L F=>?_⟩⟩⟩
 obtain⟨a,m,r,rfl,g,n,ex,w⟩:=Wh L C (Rep.ext j _ _ E) F (Rep.ext (d.trans j) _ _ r1);have b:=((e1.trans d).trans j).trans ex;exact⟨a,m,rfl,g,s.nx c r l m n b w (hs.ext b)⟩
def K6:aq:=λ_ M Q=>∀p,M p=none->Q (.ref p) (put M p (.dt []))
theorem XC:ah X (.Dict [] [] pos) K6:=PE.imp T2 λσ0 H g h=>by
 obtain⟨j,M,Q,hs,b,d,c⟩:=h;exactλp a=>c _ _ _ _ (d p (b.free a)) (Ext.new a) (b.cq a ⟨[],rfl,rfl⟩) (by simp only[Rep])
end
section
variable {prog:Program}{w:World}{K:Type}[DecidableEq K]{knd:HeapKind prog w K}{A:Around}{E:aP}{s:Shared}{d a:Addr}{k:K}{xs:List (K×Addr×Value)}
theorem Tw{xs:List (K×Addr×Value)}(b:(xs.map (·.1)).Nodup):∀{j:Nat} {p:Addr×Value},xs[j]? =some (k,p)->xs.eraseIdx j=xs.filter λx=>decide (x.1≠k):=by
 induction xs with
 |nil=>intro j p h;simp at h
 |cons x r ih=>
  intro j p h;rw[bQ,i8]at b;cases j with
  |zero=>
   simp at h;subst h;rw[List.eraseIdx_cons_zero,iK];simp only[ne_eq,not_true_eq_false,decide_false,jA,if_false];exact(zt.mpr λy e=>by
    have:y.1≠k:=λz=>b.1 (aV.mpr ⟨y,e,z⟩)
    simpa using this).symm
  |succ j=>
   rw[List.eraseIdx_cons_succ,iK];have c:r[j]? =some (k,p):=by simpa using h
   have:x.1≠k:=λz=>b.1 (z ▸ aV.mpr ⟨_,i9 c,rfl⟩)
   rw[ai (fg this),ih b.2 c]
theorem Ri{Q:Option DictEntry->Shared->Prop}(hu:knd.room A)(hkey:knd.is s.heap k a)(hm:s.heap.DictOfH knd d xs)(ht:(PySem.atKey xs k).isSome=true)
 (hQ:∀e h',h'.DictOfH knd d (xs.filter λx=>decide (x.1≠k))->Heap.SameBut d s.heap h'->Q (some e) { s with heap:=h',toks:=s.toks+knd.draws k }) (hsz:xs.length<=sizeLine):wpAny (model prog w) A (Builtin.Dict.takeOut d (.ref a)) Q E s:=by
 obtain⟨o,es,ep,ho,hc,hd,he,his,hn⟩:=hm;unfold Builtin.Dict.takeOut
 try with_reducible refine jD ?_
 refine aj (knd.pyHash hu hkey ?_);refine aj (wpAny_dictFind_heap (s:={ s with toks:=s.toks+knd.draws k }) hu hkey ho hd he his hn (λhno=>?_) λj p hj=>?_)
 . rw[atKey_none_of_get hno]at ht;cases ht
 . refine aj (vU (s:={ s with toks:=s.toks+knd.draws k }) ho hd ?_)
   rw[entry_at he j,hj];refine aj (wpAny_updateDictKeys (hz:=by have e:=size_of_entries he;omega) (s:={ s with toks:=s.toks+knd.draws k }) ho hd (aH (hQ _ _ ⟨_,_,ep+1,Heap.get?_update_self _ ho (Obj.isFreed_of_dict (Obj.data_mapDictKeys hd _)),hc.mapDictKeys _,Obj.data_mapDictKeys hd _,?_,λx hx=>?_,?_⟩ (Heap.SameBut.update ..))))
   . rw[<-Tw hn hj]
     have:(xs.eraseIdx j).map (entryOfKey knd)=es.toList.eraseIdx j:=by rw[he,List.eraseIdx_eq_take_drop_succ,List.eraseIdx_eq_take_drop_succ,eW,List.map_take,List.map_drop]
     rw[this];obtain⟨l⟩:=es;simp
   . exact knd.keeps (his x ((dR.mp hx).1)) ho hd (Heap.SameBut.update ..)
   . exact hn.sublist (List.filter_sublist.map _)
end
theorem WE(r:KT H kvs xs)(k:List bC):KT H (jl kvs k) (xs.filter λx=>decide (x.1≠k)):=by
 unfold jl
 induction r with
 |nil=>exact .nil
 | @cons p q ps qs h t ih=>
  rw[iK,iK,h.1];split
  . exact .cons h ih
  . exact ih
section
variable {X:Cx}{pins:aF}{σ:L2.St}{H:Hp}{s:Shared}{a b:Addr}{kvs:List (List bC×V)}{k:List bC}{A:Around}{E:aP}
theorem YK(v:A.units+1<cLine)(I:Inv X pins σ H s)(e:H a=some (.dT kvs))(i:H b=some (.tup (k.map oV)))(l:(fb kvs k).isSome=true)(h:∀g,Inv X pins σ (upd H a (.dT (jl kvs k))) g->Q () g):
 wpAny (model X.prog X.w) A (delItem (.ref a) (.ref b)) Q E s:=by
 obtain⟨z,u,x,c,dd⟩:=BI I.av e;have w:x.length<=sizeLine:=by rw[<-Paired.length c];exact z
 refine wpAny_delItem_slot dd.typeIs ⋯ PySem.F.slot_dict_delitem (jx PySem.F.slot_dict_delitem dd.typeIs PySem.F.entry_dict_delitem ?_ (PySem.F.args_dict_delitem_2 _ _))
 unfold Builtin.«dict.__delitem__»;refine aj ?_;unfold Builtin.Dict.dictSlotArgs;refine aj (wpAny_notOrdered_dict dd.typeIs ?_);show wpAny _ _ (pure (Value.ref a,Value.ref b)) _ _ s;refine aH ?_;show wpAny _ _ (Builtin.Dict.takeOut a (.ref b) >>= _) _ _ s;refine aj (Ri (tupleKind_room_in1 v) (pT I.av i) dd (by rw[<-qI,<-(c.val k).bc];exact l) (λen y d hs=>?_) w)
 refine aj (wpAny_letGo (aH ⟨.none,rfl,h _ ?_⟩));obtain⟨q,m,j,f,n,o,r,_,t⟩:=d;refine uN I (by rw[e];exact True.intro) hs ⟨q,f⟩ ⟨bR (jz _ _) z,u,_,(WE c k).keeps λc C ec=>?_,q,m,j,f,n,o,r,t⟩
 rw[aD (jm ec e (λz=>nomatch z))]
 exact ec
end
noncomputable def dr[DecidableEq κ](kvs:List (κ×β))(k:κ):List (κ×β):=kvs.filter λp=>decide (p.1≠k)
theorem AZ[DecidableEq κ]{K:ag}:∀{b:List (κ×RV)} {ws:List (κ×V)},aE K H b ws->aE K H (dr b k) (jl ws k)
 | [],_,h=>by cases h;exact rfl
 |(j,x)::r,_,h=>by
  obtain⟨v,t,rfl,c,d⟩:=h;have a:=AZ (k:=k) d;unfold dr jl at a ⊢;rw[iK,iK];split
  . exact⟨v,_,rfl,c,a⟩
  . exact a
def qQ(M:RM)(x y:RV)(N:RM->Prop):Prop:=match x with
 | .ref a=>match M a with
  |some (.dk kvs)=>match fq y with
   |some k=>(lk kvs k).isSome=true/\N (put M a (.dk (dr kvs k)))
   |none=>False
  |some (.dt kvs)=>match fe y with
   |some k=>(lk kvs k).isSome=true/\N (put M a (.dt (dr kvs k)))
   |none=>False
  |_=>False
 |_=>False
section
variable {X:Cx}{o i:Expr}{td ty:aq}{pos tpos:Pos}
def KS(td ty:aq):cU:=λD a M=>td a M λx M1=>ty a M1 λy M2=>qQ M2 x y (D.nx a)
theorem WM(hu:X.A.units+1<cLine)(ho:ah X o td)(hi:ah X i ty):eJ X (.Delete [.Subscript o i tpos] pos) (KS td ty):=by
 intro pins s σ0 H D0 I h;obtain⟨σ,M,D,hs,hv,ht,hd⟩:=h;refine wpAny_Delete (wpAny_deleteEach_cons (wpAny_delete_Subscript (ay (ho pins s σ0 H (λx H1=>∃rx M1,(ty σ M1 λy M2=>qQ M2 rx y (D.nx σ))/\Ext H H1/\View X.K H1 M1/\Rep X.K H1 rx x) I ⟨σ,M,_,hs,hv,ht,λrx M1 x H1 q e1 v1 r1=>⟨rx,M1,q,e1,v1,r1⟩⟩) λu s1 ⟨x,H1,I1,ru,rx,M1,q1,e1,v1,r1⟩=>
  ay (hi pins s1 σ0 H1 (λy H2=>∃ry M2,qQ M2 rx ry (D.nx σ)/\Ext H1 H2/\View X.K H2 M2/\Rep X.K H2 ry y) I1 ⟨σ,M1,_,hs.ext e1,v1,q1,λry M2 y H2 q e2 v2 r2=>⟨ry,M2,q,e2,v2,r2⟩⟩) λiv s2 ⟨y,H2,I2,riv,ry,M2,q2,e2,v2,r2⟩=>?_)))
 have r1:=Rep.ext e2 _ _ r1;have e12:=e1.trans e2;unfold qQ at q2;split at q2
 . rename_i a _ _
   simp only[Rep]at r1;subst r1;obtain rfl:u=Value.ref a:=ru;split at q2
   . rename_i kvs em
     obtain⟨ho',eo,ws,rfl,hg⟩:=v2 a _ em;split at q2
     . rename_i k ek
       have:=pJ ek r2;subst this;have ex:Ext H2 (upd H2 a (.dK (jl ws k))):=Ext.write eo rfl;obtain⟨z,hz⟩:=zB.mp q2.1;obtain⟨z',hz',_⟩:=(jj (k:=k) hg).1 z hz;exact TH I2 eo riv (by rw[hz'];rfl) λs3 I3=>wpAny_deleteEach_nil ⟨σ0,_,I3,hd.nx σ _ _ _ q2.2 (e12.trans ex) (v2.write em ⟨_,rfl,AZ (hg.ext ex)⟩) (hs.ext (e12.trans ex))⟩
     . exact q2.elim
   . rename_i kvs em
     obtain⟨ho',eo,ws,rfl,hg⟩:=v2 a _ em;split at q2
     . rename_i k ek
       obtain⟨b,rfl,hb⟩:=xR ek r2;obtain rfl:iv=Value.ref b:=riv;have ex:Ext H2 (upd H2 a (.dT (jl ws k))):=Ext.write eo rfl;obtain⟨z,hz⟩:=zB.mp q2.1;obtain⟨z',hz',_⟩:=(jj (k:=k) hg).1 z hz;exact YK hu I2 eo hb (by rw[hz'];rfl) λs3 I3=>wpAny_deleteEach_nil ⟨σ0,_,I3,hd.nx σ _ _ _ q2.2 (e12.trans ex) (v2.write em ⟨_,rfl,AZ (hg.ext ex)⟩) (hs.ext (e12.trans ex))⟩
     . exact q2.elim
   . exact q2.elim
 . exact q2.elim
end
section
variable {X:Cx}{pins:aF}{σ:L2.St}{H:Hp}{s:Shared}{a:Addr}{A:Around}{E:aP}
theorem YI(I:Inv X pins σ H s)(e:H a=some (.dT kvs))(h:∀t d,Inv X pins σ H d->Q (.int kvs.length t) d):wpAny (model X.prog X.w) A (call (.builtin "len") [.ref a]) Q E s:=by
 obtain⟨z,g,r,c,dd⟩:=BI I.av e;have ty:=dd.typeIs;obtain⟨o,f,l,k,n,b,i,_,_⟩:=dd;have j:f.size=kvs.length:=by rw[size_of_entries i,Paired.length c]
 refine Calls.call_function_entry kind_len plain_len entry_len (args_len1 _) ?_;unfold Builtin.«len»;refine aj (m:=oneArg "len" _) (aH ?_);refine aj (m:=callSpecial? (.ref a) (Str.ofString "__len__")) (wpAny_callSpecial?_slot (name:=Str.ofString "__len__") ty F.slot_dict_len (jx F.slot_dict_len ty F.entry_dict_len ?_ (F.args_dict_len_1 _)));show wpAny _ _ (dictSize a >>= _) _ _ s;unfold dictSize;refine aj (aj (vU k b (aH ?_)));show wpAny _ _ (Builtin.Dict.pendingCount a >>= _) _ _ s;refine aj (wpAny_pendingCount_other g ?_);refine wpAny_ret_mkInt ?_;rw[j];show wpAny _ _ _ _ _ { s with toks:=s.toks+1 }
 refine aj (jD (aH ?_));refine aj (wpAny_letGo ?_);rw[sizeLine_eq]at z;show wpAny _ _ (if((kvs.length:Nat):Int)<0 then _ else _) _ _ _
 rw[ae ∅]
 show wpAny _ _ (if((kvs.length:Nat):Int) ≥ 2 ^ 63 then _ else _) _ _ _
 rw[ae ∅]
 exact aj (wpAny_mkInt (aH ⟨_,rfl,h _ _ (I.tok _)⟩))
theorem qyQ:cQ X (.builtin "len") (eO X.K λrs M Q=>∃a b,rs= [.ref a]/\M a=some (.dt b)/\Q (.int b.length) M):=by
 intro pins s σ H w us n I k h;obtain⟨rs,M,Q,l,c,⟨a,b,rfl,i,j⟩,g⟩:=h;obtain⟨v,rfl,r1⟩:=l.one;simp only[Rep]at r1;subst r1;obtain⟨o,e,m,rfl,f⟩:=c a _ i;obtain⟨u,rfl,ru⟩:=vals1 k;cases ru;exact YI I e λt r d=>⟨.int m.length,H,d,⟨t,rfl⟩,g _ M _ H j (.refl H) c (by simp only[Rep];rw[iw f])⟩
end
section
variable {X:Cx}
noncomputable def Bm (c:c7)(tb:cU):cU:=λD σ M=>∃W:Nat->bb->RM->Prop,(∃m,W m σ M)/\∀m σ M,W m σ M->
 c σ M λb M1=>if b=true then tb { D with nx:=λσ' M'=>∃m',m'<m/\W m' σ' M',ct:=λσ' M'=>∃m',m'<m/\W m' σ' M',bk:=D.nx } σ M1 else D.nx σ M1
theorem WJ{body:List Stmt}{tb:cU}(hp:PassesOwn (model X.prog X.w) X.A X.env X.xe)(hc:dZ X c tc)(hb:ju X body tb):eJ X (.While c body [] pos) (Bm tc tb):=PS.imp (Ut hp hc hb) λD0 σ0 H h=>by
 obtain⟨σ,M,D,hs,hv,⟨W,⟨m,w⟩,turn⟩,hd⟩:=h;refine⟨λm σ0' H'=>∃σ' M',aN X.K H' σ' σ0'/\View X.K H' M'/\W m σ' M'/\Ext H H',⟨m,σ,M,hs,hv,w,.refl _⟩,?_⟩
 rintro m σ1 H1 ⟨σ',M',hs1,hv1,w1,e1⟩;refine⟨σ',M',_,hs1,hv1,turn m σ' M' w1,λb M2 H2 q e2 v2=>?_⟩
 cases b with
 |false=>
  rw[ae ⋯]at q
  rw[ae ⋯]
  exact hd.nx σ' M2 σ1 H2 q (e1.trans e2) v2 (hs1.ext e2)
 |true=>
  rw[ai rfl]at q;rw[ai rfl];refine⟨λσ3 H3=>∃σ4 M4 m',aN X.K H3 σ4 σ3/\View X.K H3 M4/\(m'<m/\W m' σ4 M4)/\Ext H H3,λσ3 H3 ⟨σ4,M4,m',a,b,c,d⟩=>⟨m',c.1,σ4,M4,a,b,c.2,d⟩,?_⟩
  have e12:=e1.trans e2;refine⟨σ',M2,_,hs1.ext e2,v2,q,⟨λσ4 M4 σ04 H4 q4 e4 v4 r4=>?_,(hd.ext e12).rt,(hd.ext e12).nx,λσ4 M4 σ04 H4 q4 e4 v4 r4=>?_⟩⟩
  . obtain⟨m',a,b⟩:=q4
    exact⟨σ4,M4,m',r4,v4,⟨a,b⟩,e12.trans e4⟩
  . obtain⟨m',a,b⟩:=q4
    exact⟨σ4,M4,m',r4,v4,⟨a,b⟩,e12.trans e4⟩
def EL(i j:Nat)(b:bD):cU:=λD a M=>b a M λrs M1=>match rs with
 | [v,w]=>D.nx ((a.set i (some v)).set j (some w)) M1
 |_=>False
theorem Pr{i j:Nat}{x y:Str}{a b:Expr}{e f pt:Pos}{kt d:Nat}(n:X.calm=true)(l:X.N.Nodup)(hi:X.N[i]? =some x)(r:X.N[j]? =some y)(c:i≠j)
 (hx:X.env.scope.names.lookup x=some .local) (z:X.env.scope.names.lookup y=some .local) (m:eI X [a,b] ta)
 (u:swappedStores [.Tuple [.Name x e,.Name y f] kt pt] (.Tuple [a,b] d pt2) X.env=pure (some [x,y])):
 eJ X (.Assign [.Tuple [.Name x e,.Name y f] kt pt] (.Tuple [a,b] d pt2) pos) (EL i j ta):=PS.imp (Xk n l hi r c hx z m u) λD0 I H h=>by
 obtain⟨F,M,D,hs,t,s,o⟩:=h;refine⟨F,M,_,hs,t,s,λrs M1 vs H1 q e1 C r1=>?_⟩
 split at q
 . rename_i v w
   obtain⟨A,E,rfl,g,k⟩:=r1.two;exact⟨A,E,rfl,o.nx _ M1 _ H1 q e1 C (((hs.ext e1).set g i).set k j)⟩
 . exact q.elim
noncomputable def sW (C:Addr)(f:Str)(b:aq)(σ:bb)(N:RM->Prop):ao:=λx M=>match x with
 | .ref a=>match M a with
  |some (.ins C' fs)=>C'=C/\match fs.lookup f with
   |some (.int i)=>b σ M λy M2=>match y with
    | .int j=>match M2 a with
     |some (.ins C2 fs2)=>C2=C/\fs2.length<1000/\N (put M2 a (.ins C (jL f (.int (i+j)) fs2)))
     |_=>False
    |_=>False
   |_=>False
  |_=>False
 |_=>False
def NA(C:Addr)(f:Str)(b c:aq):cU:=λD a M=>b a M (sW C f c a (D.nx a))
theorem saf(W:cK X.K C)(hn:aW X.K C f)(U:ah X o ta)(m:ah X value tv):eJ X (.AugAssign (.Attribute o f tpos) .Add value pos) (NA C f ta tv):=PS.imp (Te U m XR) λD0 s H h=>by
 obtain⟨r,M,D,hs,m,ht,Y⟩:=h;refine⟨r,M,_,hs,m,ht,λrx M1 x H1 q e1 w r1=>?_⟩
 cases rx with
 |ref a=>
  simp only[Rep]at r1;subst r1;unfold sW at q;simp only at q;split at q
  . rename_i A fs L
    obtain⟨rfl,q⟩:=q;split at q
    . rename_i i J
      obtain⟨ho,N,F,R,rfl,Z⟩:=w a _ L;obtain⟨u,O,ru⟩:=xb Z J;refine⟨a,A,F,R,u,rfl,N,W,hn,O,r,M1,_,hs.ext e1,w,q,λry M2 y t l I z v=>?_⟩
      cases ry with
      |int j=>
       simp only[Rep]at v ru;subst v ru;simp only at l;split at l
       . rename_i E Q d
         obtain⟨rfl,hl,n⟩:=l;obtain⟨ho2,e,b,g,rfl,k⟩:=z a _ d;have ex:Ext t (upd t a (.ins E b (fm f (.int (i+j)) g))):=Ext.write e rfl;have c:=(e1.trans I).trans ex;exact⟨i,j,rfl,rfl,b,g,e,by rw[<-iw k];exact hl,Y.nx r _ s _ n c (z.write d ⟨b,_,rfl,Aw (by simp only[Rep]) (k.ext ex)⟩) (hs.ext c)⟩
       . exact l.elim
      |_=>exact(show False from l).elim
    . exact q.elim
  . exact q.elim
 |_=>exact(show False from q).elim
end
def cg(h:Heap)(d:Addr)(es:Array DictEntry)(ep:Nat):Prop:=∃o,h.get? d=some o/\o.ExactDict/\o.data= .dict es ep
section
variable {prog:Program}{w:World}{A:Around}{E:aP}{s:Shared}{d it:Addr}{es:Array DictEntry}{ep i:Nat}
theorem cg.ty(x:cg s.heap d es ep):s.TypeIs (.ref d) "dict":=by
 obtain⟨o,a,b,c⟩:=x;exact⟨o,a,b.1⟩
theorem Hy(b:s.heap.IsValIter it d i es.size ep)(n:cg s.heap d es ep)(hi:i<es.size)
 (k:∀j,j.IsValIter it d (i+1) es.size ep->Heap.SameBut it s.heap j->Q (some es[i].val) { s with heap:=j }):wpAny (model prog w) A (pyNext (.ref it)) Q E s:=by
 obtain⟨o,h,l,e⟩:=id b;obtain⟨t,g,m,f⟩:=id n;have r:Builtin.Dict_items.ownsTuple "dict_valueiterator" =false:=by decide
 unfold pyNext;refine aj (wpAny_attempt (wpAny_callSpecial?_slot (name:=Str.ofString "__next__") b.typeIs F.slot_dict_valueiterator_next (jx F.slot_dict_valueiterator_next b.typeIs F.entry_dict_valueiterator_next ?_ (F.args_dict_valueiterator_next_1 _))));refine aj (aH (aj (aj ?_)))
 first|refine aj (wpAny_typeNameOfWhole_valiter b.typeIs (aH (aj (wpAny_fieldsOf h e ?_))))|refine aj (wpAny_typeNameOf_valiter b.typeIs (aH (aj (wpAny_fieldsOf h e ?_))))
 simp only[r,jA,if_false];refine(?_:wpAny _ _ (if(Value.ref d==Value.none)=true then _ else _) _ _ s)
 rw[ae (show ¬(Value.ref d==Value.none)=true fromλz=>hZ z)]
 refine aj (aH (aj (vU g f ?_)));rw[ae (by simp)];refine aj (aH (aj (wpAny_dictEpoch g f ?_)))
 rw[ae (by simp)];refine aH ?_
 simp only[show ¬((i:Int)<0) by omega,if_false,Int.toNat_natCast,Array.getElem?_eq_getElem hi]
 first|refine aj (aj (wpAny_typeNameOfWhole_valiter b.typeIs (aH (aj (wpAny_isOneOf_valiter b.typeIs ?_)))))|refine aj (aj (wpAny_typeNameOf_valiter b.typeIs (aH (aj (wpAny_isOneOf_valiter b.typeIs ?_)))))
 refine(?_:wpAny _ _ (setField (.ref it) 1 (rawInt ((i:Int)+1)) >>= _) _ _ s);refine aj (wpAny_setField h e (by simp) ?_)
 have c:(s.heap.update it (Obj.mapFields λa=>a.setIfInBounds 1 (rawInt ((i:Int)+1)))).IsValIter it d (i+1) es.size ep:=⟨_,Heap.get?_update_self _ h (Obj.isFreed_of_fields (Obj.data_mapFields e _)),(Obj.cls_mapFields ..).trans l,by rw[Obj.data_mapFields e];simp[rawInt]⟩
 refine aj (jD (aj (wpAny_isOneOf_valiter (s:={ s with heap:=s.heap.update it (Obj.mapFields λa=>a.setIfInBounds 1 (rawInt ((i:Int)+1))) }) c.typeIs ?_)))
 refine aj (wpAny_isOneOf_valiter (s:={ s with heap:=s.heap.update it (Obj.mapFields (·.setIfInBounds 1 (rawInt ((i:Int)+1)))) }) c.typeIs (?_:_))
 refine(?_:wpAny _ _ (pure es[i].val) _ _ _);exact aH (aH ⟨_,rfl,aH (k _ c (Heap.SameBut.update ..))⟩)
theorem Hv(n:A.handled=none)(c:s.heap.IsValIter it d i es.size ep)(r:cg s.heap d es ep)(hi:es.size<=i)(k:∀j,Heap.ExtBut it s.heap j->Q none { s with heap:=j }):
 wpAny (model prog w) A (pyNext (.ref it)) Q E s:=by
 obtain⟨o,h,u,g⟩:=id c;obtain⟨v,f,l,e⟩:=id r;have t:Builtin.Dict_items.ownsTuple "dict_valueiterator" =false:=by decide
 unfold pyNext;refine aj (wpAny_attempt (wpAny_callSpecial?_slot (name:=Str.ofString "__next__") c.typeIs F.slot_dict_valueiterator_next (jx F.slot_dict_valueiterator_next c.typeIs F.entry_dict_valueiterator_next ?_ (F.args_dict_valueiterator_next_1 _))));refine aj (aH (aj (aj ?_)))
 first|refine aj (wpAny_typeNameOfWhole_valiter c.typeIs (aH (aj (wpAny_fieldsOf h g ?_))))|refine aj (wpAny_typeNameOf_valiter c.typeIs (aH (aj (wpAny_fieldsOf h g ?_))))
 simp only[t,jA,if_false];refine(?_:wpAny _ _ (if(Value.ref d==Value.none)=true then _ else _) _ _ s)
 rw[ae (show ¬(Value.ref d==Value.none)=true fromλz=>hZ z)]
 refine aj (aH (aj (vU f e ?_)));rw[ae (by simp)];refine aj (aH (aj (wpAny_dictEpoch f e ?_)))
 rw[ae (by simp)];refine aH ?_
 simp only[show ¬((i:Int)<0) by omega,if_false,Int.toNat_natCast,Array.getElem?_eq_none hi]
 first|refine aj (aj (wpAny_typeNameOfWhole_valiter c.typeIs (aH ?_)))|refine aj (aj (wpAny_typeNameOf_valiter c.typeIs (aH ?_)))
 refine(?_:wpAny _ _ (setField (.ref it) 0 .none >>= _) _ _ s);refine aj (wpAny_setField h g (by simp) ?_)
 refine(?_:wpAny _ _ (newExc (.type "StopIteration") [] >>= _) _ _ _);simp only[newExc,newTuple];refine aj (aj (jS ?_ (by size_fits)))
 refine aj (m:=firstArgMember _ _) (wpAny_of_eq (a:=Value.none) (by first|rfl|(simp only[firstArgMember];rfl)) (jS ?_ (by size_fits)))
 simp only[raiseNew];refine aj (wpAny_handled ?_);rw[show A.in1.handled=none from n];refine aj (aH (wpAny_throw ?_));refine aj (wpAny_isInstance (T:="StopIteration") (b:=true) ⟨_,dE _ rfl,rfl⟩ isSubtype_stop ?_)
 exact aH (k _ (((Heap.SameBut.update ..).extBut.push _).push _))
theorem HU{v:Addr}(e:s.heap.IsValuesView v d)(j:cg s.heap d es ep)
 (g:Q (.ref s.heap.objs.size) { s with heap:=s.heap.push { cls:=.type "dict_valueiterator",data:=.fields #[.ref d,.int 0 0,.int es.size 0,.int ep 0] } }):wpAny (model prog w) A (pyIter (.ref v)) Q E s:=by
 obtain⟨m,c,h,b⟩:=id e;obtain⟨o,f,l,a⟩:=id j;have k:Builtin.Dict_items.ownsTuple "dict_valueiterator" =false:=by decide
 refine wpAny_pyIter_slot e.typeIs F.slot_dict_values_iter (jx F.slot_dict_values_iter e.typeIs F.entry_dict_values_iter ?_ (F.args_dict_values_iter_1 _));unfold Builtin.«dict_values.__iter__» Builtin.Dict_items.dictOf Builtin.Dict_items.newIterator;refine aj (aH (aj (aj (wpAny_field c b (x:=.ref d) rfl (aH (aj (aj (vU f a (aj (wpAny_dictEpoch f a ?_))))))))));simp only[k,jA,if_false];refine jS (aH ⟨_,rfl,"dict_valueiterator",_,⟨_,dE _ rfl,rfl⟩,F.slot_dict_valueiterator_next.lookup,?_⟩);simpa[rawInt]using g
theorem HQ(a:(d==sysModules)=false):MeetsIn prog w (Builtin.«dict.values» ⟨[.ref d],[]⟩) (λ_ R s=>(∃es ep,cg s.heap d es ep)/\R (.ok (.ret (.ref s.heap.objs.size))) { s with heap:=s.heap.push { cls:=.type "dict_values",data:=.fields #[.ref d] } }):=
 .of_wp λA R s ⟨⟨es,ep,hm⟩,h⟩=>by
  have e0:Builtin.Dict.showsAll d=pure ():=by unfold Builtin.Dict.showsAll;rw[ae (by rw[a];exact hZ)]
  refine aj ?_;unfold Builtin.Dict.noArgs;refine aj (wpAny_notOrdered_dict hm.ty ?_);refine(aH ?_:wpAny _ _ (pure d) _ _ s);refine(?_:wpAny _ _ (Builtin.Dict.showsAll d >>= _) _ _ s);rw[e0];exact aj (aH (aj (jS (aH ⟨_,rfl,h⟩))))
end
def mN:HO->Nat
 | .dK kvs=>kvs.length
 | .dT kvs=>kvs.length
 |_=>0
def LU(u:HO)(i:Nat)(H:Hp)(x:V):Prop:=match u with
 | .dK kvs=>∃a,kvs[i]? =some a/\x=kV a.1
 | .dT kvs=>∃a b,kvs[i]? =some a/\x= .ref b/\H b=some (.tup (a.1.map oV))
 |_=>False
def valAt(u:HO)(i:Nat)(x:V):Prop:=match u with
 | .dK kvs=>∃a,kvs[i]? =some a/\x=a.2
 | .dT kvs=>∃a,kvs[i]? =some a/\x=a.2
 |_=>False
theorem xy:∀{l:List α} {m:List β} {i:Nat} {b:β},Paired F l m->m[i]? =some b->∃a,l[i]? =some a/\F a b
 |_,_,_,_,.nil,e=>by simp at e
 |_,_,0,_,.cons r _,e=>by simp at e;subst e;exact⟨_,rfl,r⟩
 |_,_,i+1,b,.cons _ t,e=>by
  obtain⟨a,c,d⟩:=xy (i:=i) t (by simpa using e)
  exact⟨a,by simpa using c,d⟩
theorem IC(h:jN k u=true):RelV (kV k) u:=by
 rcases iX h with⟨i,t,rfl,rfl⟩|⟨x,t,rfl,rfl⟩
 . exact⟨t,rfl⟩
 . exact⟨t,rfl⟩
section
variable {X:Cx}{pins:aF}{σ:L2.St}{H:Hp}{s:Shared}{a:Addr}{o:Obj}{u:HO}
theorem uj(I:Inv X pins σ H s)(h:H a=some (.aZ o u))(J:js u=true):∃b j,o.data= .dict b j/\cg s.heap a b j/\(a==sysModules)=false/\b.size=mN u/\mN u<=sizeLine/\
 ∀i (hi:i<b.size),(∃x,LU u i H x/\RelV x b[i].key)/\∃x,valAt u i x/\RelV x b[i].val:=by
 obtain⟨g,E⟩:=I.av a _ h;cases u<;>first|(cases J;done)|skip
 . rename_i f
   obtain⟨z,y,vs,r,O,b,j,e,c,dd,ks,C,N⟩:=E;rw[g]at e;cases e;have w:b.size=f.length:=by have:=C.length;have L:=Paired.length r;simp at this;omega
   refine⟨b,j,dd,⟨o,g,c,dd⟩,y,w,z,λi hi=>?_⟩
   have D:i<vs.length:=by have:=C.length;simp at this;omega
   obtain⟨p1,Q⟩:=C.get? (e:=b[i]) (i:=i) (k:=vs[i].1) (v:=vs[i].2) (by simp[hi]) (by simp[D])
   obtain⟨d,m,F,A⟩:=xy (i:=i) r (by simp[D]:vs[i]? =some vs[i])
   refine⟨⟨kV d.1,⟨d,m,rfl⟩,?_⟩,d.2,⟨d,m,rfl⟩,by rw[Q];exact A⟩
   rw[F];exact IC p1
 . rename_i f
   obtain⟨z,y,l,r,O,b,j,e,c,dd,n,N⟩:=E;rw[g]at e;cases e;have w:b.size=f.length:=by have L:=Paired.length r;have:=congrArg List.length n;simp at this;omega
   refine⟨b,j,dd,⟨o,g,c,dd⟩,y,w,z,λi hi=>?_⟩
   have hx:i<l.length:=by have:=congrArg List.length n;simp at this;omega
   have t:b[i]=entryOfKey (tupleKind (optKind X.prog X.w)) l[i]:=by
    have:=entry_at (knd:=tupleKind (optKind X.prog X.w)) n i;simpa[hi,hx]using this
   obtain⟨d,m,F,A,M⟩:=xy (i:=i) r (by simp[hx]:l[i]? =some l[i])
   rw[t];exact⟨⟨.ref l[i].2.1,⟨d,l[i].2.1,m,rfl,A⟩,rfl⟩,d.2,⟨d,m,rfl⟩,M⟩
end
noncomputable def wj (o:Obj)(a:Addr)(k:Bool):It:=
 ⟨λi H=>∃u,H a=some (.aZ o u)/\js u=true/\i<mN u,λi H x b=>b=H/\∃u,H a=some (.aZ o u)/\(if k=true then LU u i H x else valAt u i x),λi H=>∃u,H a=some (.aZ o u)/\js u=true/\mN u<=i⟩
section
variable {P:Program}{w:World}{K:ag}{tg:Expr}{o:Obj}{a it:Addr}{es:Array DictEntry}{ep:Nat}
theorem Sq(hd:o.data= .dict es ep):Turn P w K tg (wj o a false) [it] it (λi h=>h.IsValIter it a i es.size ep) where
 mem:=by simp
 obj:=λi h st b hb=>by
  have e:b=it:=by simpa using hb
  subst e;obtain⟨o,e,c,d⟩:=st;exact⟨o,e,λv z=>by rw[d]at z;cases z⟩
 keep:=λi h h' st k=>by obtain⟨o,e,c,d⟩:=st;exact⟨o,k it (by simp) o e,c,d⟩
 item:=by
  intro X hP hw hK hc i pins s σ H E I hf st ⟨u,hg,du,hi⟩;subst hP hw hK;obtain⟨es',ep',d',rd,hS,hl,_,hall⟩:=uj I hg du;rw[hd]at d';cases d';have hi':i<es.size:=by rw[hl];exact hi
  obtain⟨f0,f1,f2,f3,f4,f5⟩:=hf it (by simp)
  refine Hy st rd hi' λh' st' sb=>?_
  have I1:Inv X pins σ H { s with heap:=h' }:=I.turned (t':=s.toks) (λb o hb e=>(sb.2 b hb).trans e) f0 f1 f3 f4 f5
  obtain⟨_,x,k1,k2⟩:=hall i hi';obtain⟨oi,e,c,d⟩:=id st';exact⟨_,rfl,vj (s:={ s with heap:=h' }) e c d ⋯ ⟨x,H,I1,k2,⟨rfl,u,hg,by rw[ae ⋯];exact k1⟩,st',λb hb=>(hf b hb).1⟩⟩
 done:=by
  intro X hP hw hK hc i pins s σ H E I hf st ⟨u,hg,du,hi⟩;subst hP hw hK;obtain⟨es',ep',d',rd,hS,hl,_,hall⟩:=uj I hg du;rw[hd]at d';cases d';obtain⟨f0,f1,f2,f3,f4,f5⟩:=hf it (by simp)
  exact Hv (I.ok.hd hc) st rd (by rw[hl];exact hi) λh' eb=>⟨rfl,I.turned (t':=s.toks) (λb o hb e=>eb b o hb e) f0 f1 f3 f4 f5⟩
 self:=λ_ _ _ _ _ st h=>wpAny_pyIter_valiter st h
end
def kR:Key->RV
 | .inl i=>.int i
 | .inr x=>.str x
def oR:bC->RV
 |none=>.au
 |some k=>kR k
def mH(k:Bool)(kvs:bV):LR:=if k=true then kvs.map (λkv=>kR kv.1)else kvs.map (·.2)
def jo(k:Bool)(kvs:List (TK×RV)):LR:=if k=true then kvs.map (λkv=>.tup (kv.1.map oR))else kvs.map (·.2)
theorem Ba{K:ag}(k):Rep K H (kR k) (kV k):=by cases k<;>simp only[kR,kV,Rep]
theorem XB{K:ag}(k):Rep K H (oR k) (oV k):=by
 cases k with
 |none=>simp only[oR,oV,Rep]
 |some k=>exact Ba k
theorem JA{K:ag}:∀ks:TK,aa K H (ks.map oR) (ks.map oV)
 | []=>aa.nil
 |k::ks=>aa.cons (XB k) (JA ks)
theorem rh{K:ag}:∀{c:List (κ×RV)} {ws:List (κ×V)} {i:Nat} {w:κ×V},aE K H c ws->ws[i]? =some w->∃r,c[i]? =some (w.1,r)/\Rep K H r w.2
 | [],ws,i,w,h,e=>by have h:ws= []:=h;subst h;simp at e
 |(k,x)::r,ws,i,w,h,e=>by
  obtain⟨v,t,rfl,d,f⟩:=h;cases i with
  |zero=>simp at e;subst e;exact⟨x,by simp,d⟩
  |succ i=>
   obtain⟨q,a,b⟩:=rh (i:=i) f (by simpa using e)
   exact⟨q,by simpa using a,b⟩
section
variable {H0 Hs:Hp}{K:ag}{H1:Hp}{a:Addr}{o:Obj}{k:Bool}
theorem KA{un:RM->RM}(h:H1 a=some (.aZ o (.dK ws)))(r:aE K H1 kvs ws)
 (th:∀H M,Ext H1 H->View K H M->M a=some (.fk kvs)->∃b,eR H0 H b/\bj H b/\Ext Hs b/\View K b (un M)):iC H0 Hs K (wj o a k) (mH k kvs) (λM=>M a=some (.fk kvs)) un H1 where
 turn:=λi H M e m l x hx=>by
  have f:=e.aJ _ _ _ h;have d:(mH k kvs).length=ws.length:=by rw[<-iw r];unfold mH;split<;>simp
  have hi:i<ws.length:=by rw[<-d];exact(jT.mp hx).1
  refine⟨⟨_,f,rfl,hi⟩,λv b y=>?_⟩
  obtain⟨rfl,u,g,y⟩:=y;rw[f]at g;cases g;refine⟨.refl _,λ_ w=>w,?_⟩
  cases k with
  |true=>
   rw[ai rfl]at y;obtain⟨j,e1,rfl⟩:=y;obtain⟨q,c,_⟩:=rh r e1;have:x=kR j.1:=by simpa[mH,c]using hx.symm
   rw[this];exact Ba _
  |false=>
   rw[ae ⋯]at y
   obtain⟨j,e1,rfl⟩:=y;obtain⟨q,c,n⟩:=rh r e1;have:x=q:=by simpa[mH,c]using hx.symm
   rw[this];exact Rep.ext e _ _ n
 stop:=λi H M e m l hi=>by
  have d:(mH k kvs).length=ws.length:=by rw[<-iw r];unfold mH;split<;>simp
  exact⟨_,e.aJ _ _ _ h,rfl,by rw[d]at hi;exact hi⟩
 cu:=th
theorem Kz{un:RM->RM}(h:H1 a=some (.aZ o (.dT ws)))(r:aE K H1 kvs ws)
 (th:∀H M,Ext H1 H->View K H M->M a=some (.ft kvs)->∃c,eR H0 H c/\bj H c/\Ext Hs c/\View K c (un M)):iC H0 Hs K (wj o a k) (jo k kvs) (λM=>M a=some (.ft kvs)) un H1 where
 turn:=λi H M e s n x hx=>by
  have g:=e.aJ _ _ _ h;have f:(jo k kvs).length=ws.length:=by rw[<-iw r];unfold jo;split<;>simp
  have hi:i<ws.length:=by rw[<-f];exact(jT.mp hx).1
  refine⟨⟨_,g,rfl,hi⟩,λv c y=>?_⟩
  obtain⟨rfl,u,j,y⟩:=y;rw[g]at j;cases j;refine⟨.refl _,λ_ w=>w,?_⟩
  cases k with
  |true=>
   rw[ai rfl]at y;obtain⟨l,b,e1,rfl,m⟩:=y;obtain⟨q,d,_⟩:=rh r e1;have:x= .tup (l.1.map oR):=by simpa[jo,d]using hx.symm
   rw[this];simp only[Rep];exact⟨b,_,rfl,m,JA _⟩
  |false=>
   rw[ae ⋯]at y
   obtain⟨l,e1,rfl⟩:=y;obtain⟨q,d,t⟩:=rh r e1;have:x=q:=by simpa[jo,d]using hx.symm
   rw[this];exact Rep.ext e _ _ t
 stop:=λi H M e s n hi=>by
  have f:(jo k kvs).length=ws.length:=by rw[<-iw r];unfold jo;split<;>simp
  exact⟨_,e.aJ _ _ _ h,rfl,by rw[f]at hi;exact hi⟩
 cu:=th
end
noncomputable def rV (k:Bool)(Q:LR->(RM->Prop)->(RM->RM)->RM->Prop):ao:=λv M1=>match v with
 | .ref a=>match M1 a with
  |some (.dk kvs)=>Q (mH k kvs) (λM=>M a=some (.fk kvs)) (λM=>put M a (.dk kvs)) (put M1 a (.fk kvs))
  |some (.dt kvs)=>Q (jo k kvs) (λM=>M a=some (.ft kvs)) (λM=>put M a (.dt kvs)) (put M1 a (.ft kvs))
  |some (.fk kvs)=>Q (mH k kvs) (λM=>M a=some (.fk kvs)) id M1
  |some (.ft kvs)=>Q (jo k kvs) (λM=>M a=some (.ft kvs)) id M1
  |_=>False
 |_=>False
def E1(k:Bool)(te:aq):gy:=λσ M Q=>te σ M (rV k Q)
section
variable {X:Cx}{tg:Expr}
theorem hold{H H1:Hp}{s:Shared}{rv:RV}{v:V}{M1:RM}(I:Inv X pins σ0 H1 s)(e1:Ext H H1)(v1:View X.K H1 M1)(r1:Rep X.K H1 rv v)(q:rV k Q rv M1):
 ∃a o u H2 xs ok un M2,v= .ref a/\Inv X pins σ0 H2 s/\H2 a=some (.aZ o u)/\js u=true/\iC X.H₀ H X.K (wj o a k) xs ok un H2/\Q xs ok un M2/\Ext H H2/\View X.K H2 M2:=by
 cases rv<;>first|(exact(show False from q).elim)|skip
 rename_i a;simp only[Rep]at r1;unfold rV at q;simp only at q;split at q
 . rename_i kvs em
   obtain⟨ho,eh,ws,rfl,r⟩:=v1 a _ em;obtain⟨ob,g,I2,n0⟩:=uP I eh rfl;have ex:Ext H1 (upd H1 a (.aZ ob (.dK ws))):=Ext.write eh rfl;refine⟨a,ob,.dK ws,_,_,_,_,_,r1,I2,c6,rfl,KA c6 (r.ext ex) λH2 M e hv hm=>?_,q,e1.trans ex,v1.write em ⟨ob,ws,rfl,r.ext ex⟩⟩
   have hH:=e.aJ _ _ _ (c6 (H:=H1) (a:=a) (o:=.aZ ob (.dK ws)));have xw:bj H2 (upd H2 a (.dK ws)):=bj.cu hH rfl;refine⟨upd H2 a (.dK ws),.inr ⟨a,ob,_,hH,rfl,n0,rfl⟩,xw,⟨λb xs z=>?_,λb o' u' z=>?_⟩,hv.write hm ⟨ws,rfl,aE.aX xw (r.ext (ex.trans e))⟩⟩
   . have z1:=e.bh _ _ (ex.bh _ _ (e1.bh _ _ z))
     rw[aD (by rintro rfl;rw[hH]at z1;cases z1)];exact z1
   . have z0:=e1.aJ _ _ _ z
     rw[aD (by rintro rfl;rw[eh]at z0;cases z0)];exact e.aJ _ _ _ (ex.aJ _ _ _ z0)
 . rename_i kvs em
   obtain⟨ho,eh,ws,rfl,r⟩:=v1 a _ em;obtain⟨ob,g,I2,n0⟩:=uP I eh rfl;have ex:Ext H1 (upd H1 a (.aZ ob (.dT ws))):=Ext.write eh rfl;refine⟨a,ob,.dT ws,_,_,_,_,_,r1,I2,c6,rfl,Kz c6 (r.ext ex) λH2 M e hv hm=>?_,q,e1.trans ex,v1.write em ⟨ob,ws,rfl,r.ext ex⟩⟩
   have hH:=e.aJ _ _ _ (c6 (H:=H1) (a:=a) (o:=.aZ ob (.dT ws)));have xw:bj H2 (upd H2 a (.dT ws)):=bj.cu hH rfl;refine⟨upd H2 a (.dT ws),.inr ⟨a,ob,_,hH,rfl,n0,rfl⟩,xw,⟨λb xs z=>?_,λb o' u' z=>?_⟩,hv.write hm ⟨ws,rfl,aE.aX xw (r.ext (ex.trans e))⟩⟩
   . have z1:=e.bh _ _ (ex.bh _ _ (e1.bh _ _ z))
     rw[aD (by rintro rfl;rw[hH]at z1;cases z1)];exact z1
   . have z0:=e1.aJ _ _ _ z
     rw[aD (by rintro rfl;rw[eh]at z0;cases z0)];exact e.aJ _ _ _ (ex.aJ _ _ _ z0)
 . rename_i kvs em
   obtain⟨ho,eh,ob,ws,rfl,r⟩:=v1 a _ em;exact⟨a,ob,.dK ws,H1,_,_,_,_,r1,I,eh,rfl,KA eh r (nj e1),q,e1,v1⟩
 . rename_i kvs em
   obtain⟨ho,eh,ob,ws,rfl,r⟩:=v1 a _ em;exact⟨a,ob,.dT ws,H1,_,_,_,_,r1,I,eh,rfl,Kz eh r (nj e1),q,e1,v1⟩
 . exact q.elim
theorem J3{s:Shared}{a:Addr}(I:Inv X pins σ0 H s)(h:H a=some (.aZ o u))(c:js u=true):s.TypeIs (.ref a) "dict"/\∀b,Value.ref a= .ref b->∃ob,s.heap.get? b=some ob/\ob.dict=none:=by
 obtain⟨i,g,k,rd,_⟩:=uj I h c;refine⟨rd.ty,λb e=>?_⟩
 cases e;obtain⟨o1,d,f,j⟩:=rd;exact⟨o1,d,f.2.1⟩
theorem qyp{l:Expr}{ap p:Pos}(U:ah X l te)(c:attributeBase l "values" X.env (eval l X.env)=eval l X.env)(d:(ap.endLine==p.line)=true):iM X tg (.Call (.Attribute l "values" ap) [] [] p) (E1 false te):=by
 intro b s g H R I h;obtain⟨σ,M,Q,hs,Y,W,O⟩:=h;refine wpAny_Call_method (T:="dict") (id:="dict.values") c rfl d F.plainAttrs_dict F.slot_dict_values F.type_dict_values (ay (U b s g H (λx H1=>∃rv M1,Rep X.K H1 rv x/\rV false Q rv M1/\Ext H H1/\View X.K H1 M1) I ⟨σ,M,_,hs,Y,W,λrv M1 v H1 q e1 n r1=>⟨rv,M1,r1,q,e1,n⟩⟩) λuv f zz=>?_);obtain⟨v,H1,A,rl,rv,M1,r1,q,e1,n⟩:=zz
 obtain⟨a,o,u,i,xs,ok,un,M2,rfl,j,y,r,Z,q,C,v2⟩:=hold A e1 n r1 q;cases(show uv=Value.ref a from rl)
 obtain⟨w,t,N,rd,J,_⟩:=uj j y r;obtain⟨z,t2⟩:=J3 j y r;refine⟨z,t2,method_meetsIn F.slot_dict_values F.entry_dict_values rfl (PySem.evalArgs_none ⟨rfl,z,F.args_dict_values_1 _,_,HQ J,⟨w,t,rd⟩,?_⟩)⟩;have k:Inv X b g i { f with heap:=f.heap.push { cls:=.type "dict_values",data:=.fields #[.ref a] } }:=j.kept (t':=f.toks) λb o e=>bw _ e
 have m:cg (f.heap.push { cls:=.type "dict_values",data:=.fields #[.ref a] }) a w t:=by obtain⟨o1,D,E⟩:=rd;exact⟨o1,bw _ D,E⟩
 refine HU (s:={ f with heap:=f.heap.push { cls:=.type "dict_values",data:=.fields #[.ref a] } }) ⟨_,dE _ rfl,rfl,rfl⟩ m ?_
 refine⟨_,[_],_,_,i,rfl,k.kept (t':=f.toks) λb o e=>bw _ e,Sq N,⟨_,dE _ rfl,rfl,rfl⟩,λb L=>?_,O xs ok un M2 _ i q C v2 Z⟩
 have e:=ib.mp L;subst e;exact k.fU (aK _) (k.av.fresh (aK _))
end
noncomputable def Itm (o:Obj)(a:Addr):It:=
 ⟨λi H=>∃b:List (Key×V),H a=some (.aZ o (.dK b))/\i<b.length,λi H x c=>∃(b:List (Key×V)) (kv:Key×V) (p:Addr),H a=some (.aZ o (.dK b))/\b[i]? =some kv/\x= .ref p/\H p=none/\c=upd H p (.tup [kV kv.1,kv.2]),λi H=>∃b:List (Key×V),H a=some (.aZ o (.dK b))/\b.length<=i⟩
section
variable {X:Cx}
theorem AM{s:Shared}{a:Addr}(I:Inv X pins σ H s)(h:H a=some (.aZ o (.dK ws))):∃vs b d,o.data= .dict b d/\KV ws vs/\s.heap.DictAt (cX X.prog X.w) a vs d/\(a==sysModules)=false/\vs.length=b.size:=by
 obtain⟨g,z,y,vs,r,j,b,d,e,c,dd,ks,f,i⟩:=I.av a _ h;rw[g]at e;cases e;exact⟨vs,b,d,dd,r,⟨o,b,g,c,dd,ks,f,i⟩,y,by have:=f.length;simp at this;omega⟩
theorem QZ:entryFor table "dict_itemiterator.__iter__" =some Builtin.«dict_keyiterator.__iter__»:=entryFor_alias (id':="dict_keyiterator.__iter__") (by kernel_rfl) rfl (by decide+kernel) (by kernel_rfl)
theorem Sd{P:Program}{K:ag}{o:Obj}{a it:Addr}(hd:o.data= .dict es ep):Turn P w K (.Tuple ts tk tp) (Itm o a) [it] it (λi h=>∃ok ov,IsItemIter h it a i es.size ep ok ov) where
 mem:=by simp
 obj:=λi h st b hb=>by
  have e:b=it:=by simpa using hb
  subst e;obtain⟨_,_,st⟩:=st;exact⟨_,st,λv z=>by cases z⟩
 keep:=λi h h' st k=>by obtain⟨x,y,st⟩:=st;exact⟨x,y,k it (by simp) _ st⟩
 item:=by
  intro X hP hw hK hc i pins s σ H E I hf ⟨x0,y0,st⟩ ⟨ws,hg,hi⟩;subst hP hw hK;obtain⟨vs,es',ep',d',r,da,hS,hl⟩:=AM I hg;rw[hd]at d';cases d';have hv:i<vs.length:=by have:=Paired.length r;omega
  obtain⟨kv,k1,k2,k3⟩:=xy (i:=i) r (by simp[hv]:vs[i]? =some vs[i])
  obtain⟨f0,f1,f2,f3,f4,f5⟩:=hf it (by simp)
  refine wpAny_pyNext_items_item (knd:=cX X.prog X.w) (k:=vs[i].1) (v:=vs[i].2) (by rw[hl];exact st) da (by simp[hv]) λkey h' hk st' tp' sz kp=>⟨_,rfl,?_⟩
  refine wpAny_letOwnedTupleGo_items (s:={ s with heap:=h' }) st' λh2 st2 sb=>?_
  have eL:=I.av.fresh (aK s.heap.objs.size);have hpi:s.heap.objs.size≠it:=Nat.ne_of_gt (bx st);have t2:h2.get? s.heap.objs.size=some { cls:=.type "tuple",data:=.seq #[key,vs[i].2] }:=sb.extBut _ _ hpi tp';have rk:Vals [kV kv.1,kv.2] [key,vs[i].2]:=.cons (by rw[k2];exact IC hk) (.cons k3 .nil)
  have I1:Inv X pins σ (upd H s.heap.objs.size (.tup [kV kv.1,kv.2])) { s with heap:=s.heap.push { cls:=.type "tuple",data:=.seq #[key,vs[i].2] },toks:=s.toks }:=
   I.laid (λb o e=>bw _ e) (aK _) ⟨by show 2<=sizeLine;decide,[key,vs[i].2],rk,IsTup.new s.heap _⟩
  have I2:Inv X pins σ (upd H s.heap.objs.size (.tup [kV kv.1,kv.2])) { s with heap:=h2 }:=Inv.turned (s:={ s with heap:=s.heap.push { cls:=.type "tuple",data:=.seq #[key,vs[i].2] },toks:=s.toks }) (h':=h2) (t':=s.toks) (it:=it) I1 (λb o hb e=>?_) (by rw[aD hpi.symm];exact f0) f1 f3 f4 f5
  . exact⟨.ref s.heap.objs.size,_,I2,rfl,⟨ws,kv,_,hg,k1,rfl,eL,rfl⟩,⟨_,_,by rw[<-hl];exact st2⟩,λb hb=>by
     have e:b=it:=by simpa using hb
     subst e;rw[aD hpi.symm];exact f0⟩
  . rcases Heap.get?_push_cases e with⟨rfl,rfl⟩|e'
    . exact t2
    . exact sb.extBut b o hb (kp b o hb e')
 done:=by
  intro X hP hw hK hc i pins s σ H E I hf ⟨x0,y0,st⟩ ⟨ws,hg,hi⟩;subst hP hw hK;obtain⟨vs,es',ep',d',r,da,hS,hl⟩:=AM I hg;rw[hd]at d';cases d';have hv:vs.length<=i:=by have:=Paired.length r;omega
  obtain⟨f0,f1,f2,f3,f4,f5⟩:=hf it (by simp)
  exact wpAny_pyNext_items_end (knd:=cX X.prog X.w) (I.ok.hd hc) (by rw[hl];exact st) da (by simp[hv]) λh' eb=>⟨rfl,I.turned (t':=s.toks) (λb o hb e=>eb b o hb e) f0 f1 f3 f4 f5⟩
 self:=λA i s Q E st h=>by
  obtain⟨x,y,st⟩:=st;have hT:s.TypeIs (.ref it) "dict_itemiterator":=⟨_,st,rfl⟩;refine wpAny_pyIter_slot hT F.slot_dict_itemiterator_iter (jx F.slot_dict_itemiterator_iter hT QZ ?_ (F.args_dict_itemiterator_iter_1 _));refine(?_:wpAny _ _ (ret (.ref it)) _ _ s);exact aH ⟨_,rfl,"dict_itemiterator",_,hT,F.slot_dict_itemiterator_next.lookup,h⟩
def gF(kvs:bV):LR:=kvs.map λkv=>.tup [kR kv.1,kv.2]
theorem KC{K:ag}{H1:Hp}{a:Addr}{un:RM->RM}(h:H1 a=some (.aZ o (.dK ws)))(r:aE K H1 kvs ws)
 (th:∀H M,Ext H1 H->View K H M->M a=some (.fk kvs)->∃b,eR H0 H b/\bj H b/\Ext Hs b/\View K b (un M)):iC H0 Hs K (Itm o a) (gF kvs) (λM=>M a=some (.fk kvs)) un H1 where
 turn:=λi H M e l k x hx=>by
  have f:=e.aJ _ _ _ h;have c:(gF kvs).length=ws.length:=by rw[<-iw r];simp[gF]
  have hi:i<ws.length:=by rw[<-c];exact(jT.mp hx).1
  refine⟨⟨_,f,hi⟩,λv b y=>?_⟩
  obtain⟨s,m,p,g,e1,rfl,d,rfl⟩:=y;rw[f]at g;cases g;obtain⟨q,j,n⟩:=rh r e1;have:x= .tup [kR m.1,q]:=by simpa[gF,j]using hx.symm
  rw[this];exact⟨Ext.new d,λ_ w=>w.new d,rf d (aa.cons (Ba _) (aa.cons (Rep.ext e _ _ n) aa.nil))⟩
 stop:=λi H M e l k hi=>by
  have c:(gF kvs).length=ws.length:=by rw[<-iw r];simp[gF]
  exact⟨_,e.aJ _ _ _ h,by rw[c]at hi;exact hi⟩
 cu:=th
noncomputable def qj (Q:LR->(RM->Prop)->(RM->RM)->RM->Prop):ao:=λv M1=>match v with
 | .ref a=>match M1 a with
  |some (.dk kvs)=>Q (gF kvs) (λM=>M a=some (.fk kvs)) (λM=>put M a (.dk kvs)) (put M1 a (.fk kvs))
  |some (.fk kvs)=>Q (gF kvs) (λM=>M a=some (.fk kvs)) id M1
  |_=>False
 |_=>False
def EZ(te:aq):gy:=λσ M Q=>te σ M (qj Q)
theorem qyt{H H1:Hp}{s:Shared}{rv:RV}{v:V}{M1:RM}(I:Inv X pins σ0 H1 s)(e1:Ext H H1)(v1:View X.K H1 M1)(r1:Rep X.K H1 rv v)(q:qj Q rv M1):
 ∃a o ws H2 xs ok un M2,v= .ref a/\Inv X pins σ0 H2 s/\H2 a=some (.aZ o (.dK ws))/\iC X.H₀ H X.K (Itm o a) xs ok un H2/\Q xs ok un M2/\Ext H H2/\View X.K H2 M2:=by
 cases rv<;>first|(exact(show False from q).elim)|skip
 rename_i a;simp only[Rep]at r1;unfold qj at q;simp only at q;split at q
 . rename_i kvs em
   obtain⟨ho,eh,ws,rfl,r⟩:=v1 a _ em;obtain⟨ob,g,I2,n0⟩:=uP I eh rfl;have ex:Ext H1 (upd H1 a (.aZ ob (.dK ws))):=Ext.write eh rfl;refine⟨a,ob,ws,_,_,_,_,_,r1,I2,c6,KC c6 (r.ext ex) λH2 M e hv hm=>?_,q,e1.trans ex,v1.write em ⟨ob,ws,rfl,r.ext ex⟩⟩
   have hH:=e.aJ _ _ _ (c6 (H:=H1) (a:=a) (o:=.aZ ob (.dK ws)));have xw:bj H2 (upd H2 a (.dK ws)):=bj.cu hH rfl;refine⟨upd H2 a (.dK ws),.inr ⟨a,ob,_,hH,rfl,n0,rfl⟩,xw,⟨λb xs z=>?_,λb o' u' z=>?_⟩,hv.write hm ⟨ws,rfl,aE.aX xw (r.ext (ex.trans e))⟩⟩
   . have z1:=e.bh _ _ (ex.bh _ _ (e1.bh _ _ z))
     rw[aD (by rintro rfl;rw[hH]at z1;cases z1)];exact z1
   . have z0:=e1.aJ _ _ _ z
     rw[aD (by rintro rfl;rw[eh]at z0;cases z0)];exact e.aJ _ _ _ (ex.aJ _ _ _ z0)
 . rename_i kvs em
   obtain⟨ho,eh,ob,ws,rfl,r⟩:=v1 a _ em;exact⟨a,ob,ws,H1,_,_,_,_,r1,I,eh,KC eh r (nj e1),q,e1,v1⟩
 . exact q.elim
theorem XS{l:Expr}{ap p:Pos}(n:ah X l te)(c:attributeBase l "items" X.env (eval l X.env)=eval l X.env)(d:(ap.endLine==p.line)=true):iM X (.Tuple ts tk tp) (.Call (.Attribute l "items" ap) [] [] p) (EZ te):=by
 intro b s g H R I h;obtain⟨σ,M,Q,hs,N,L,E⟩:=h;refine wpAny_Call_method (T:="dict") (id:="dict.items") c rfl d F.plainAttrs_dict F.slot_dict_items F.type_dict_items (ay (n b s g H (λx H1=>∃rv M1,Rep X.K H1 rv x/\qj Q rv M1/\Ext H H1/\View X.K H1 M1) I ⟨σ,M,_,hs,N,L,λrv M1 v H1 q e1 t r1=>⟨rv,M1,r1,q,e1,t⟩⟩) λuv f zz=>?_);obtain⟨v,H1,y,W,rv,M1,r1,q,e1,t⟩:=zz
 obtain⟨a,o,ws,i,xs,U,un,M2,rfl,j,u,O,q,z,Z⟩:=qyt y e1 t r1 q;cases(show uv=Value.ref a from W)
 obtain⟨vs,es,ep,D,r,m,A,n⟩:=AM j u;obtain⟨w,Y⟩:=J3 j u rfl;refine⟨w,Y,method_meetsIn F.slot_dict_items F.entry_dict_items rfl (PySem.evalArgs_none ⟨rfl,w,F.args_dict_items_1 _,_,meets_dict_items (cX X.prog X.w) a A,⟨vs,m.dictOf⟩,?_⟩)⟩;have k:Inv X b g i { f with heap:=f.heap.push { cls:=.type "dict_items",data:=.fields #[.ref a] } }:=j.kept (t':=f.toks) λb o e=>bw _ e
 refine wpAny_pyIter_items (s:={ f with heap:=f.heap.push { cls:=.type "dict_items",data:=.fields #[.ref a] } }) ⟨_,dE _ rfl,rfl,rfl⟩ (m.push _) ?_
 have J:a<f.heap.objs.size:=m.lt_size;refine⟨_,[_],_,_,i,rfl,k.kept (t':=f.toks) λb o e=>bw _ e,Sd D,⟨_,_,by rw[<-n];exact dE _ rfl⟩,λb C=>?_,E xs U un M2 _ i q z Z O⟩
 have e:=ib.mp C;subst e;exact k.fU (aK _) (k.av.fresh (aK _))
end
section
variable {prog:Program}{w:World}{A:Around}{d r:Addr}{es:Array DictEntry}{ep:Nat}
theorem cg.keep{h h':Heap}(x:cg h d es ep)(k:∀o,h.get? d=some o->h'.get? d=some o):cg h' d es ep:=by obtain⟨o,a,b⟩:=x;exact⟨o,k o a,b⟩
theorem cg.lt(x:cg h d es ep):d<h.objs.size:=by obtain⟨o,a,b⟩:=x;exact bx a
theorem So(hh:A.handled=none)(I:Addr)(hne:d≠I):Walks prog w A I [I,d] [I] es.size (λi v=>∃hi:i<es.size,v=es[i].val) (λi h=>h.IsValIter I d i es.size ep/\cg h d es ep) where
 sub:=λb hb=>by simp at hb;simp[hb]
 frame:=λ_ _ _ st hk=>⟨st.1.at λo e=>hk I (by simp) o e,st.2.keep λo e=>hk d (by simp) o e⟩
 item:=λi s Q E hi st hQ=>Hy st.1 st.2 hi λh' hit' hs'=>hQ _ h' s.toks ⟨hi,rfl⟩ ⟨hit',st.2.keep λo e=>hs'.extBut d o hne e⟩ λb o hb e=>hs'.extBut b o (λh=>hb (by simp[h])) e
 done:=λs Q E st hQ=>Hv hh st.1 st.2 (aK _) λh' he'=>hQ h' s.toks λb o hb e=>he' b o (λh=>hb (by simp[h])) e
 self:=λ_ _ _ _ st hQ=>wpAny_pyIter_valiter st.1 hQ
theorem T6:PySem.W.KdlSrc prog w "dict_values" r d es.size (λi v=>∃hi:i<es.size,v=es[i].val) (λh=>h.IsValuesView r d/\cg h d es ep) where
 type:=λ_ a=>a.1.typeIs
 there:=λ_ a=>⟨let⟨_,ho,_⟩:=a.1;bx ho,a.2.lt⟩
 keep:=λ_ _ a c=>⟨let⟨o,ho,x⟩:=a.1;⟨o,c r (.inl rfl) o ho,x⟩,a.2.keep λo e=>c d (.inr rfl) o e⟩
 notList:=by decide
 notTuple:=by decide
 hint:=λ_ _ _ _ a b=>PySem.W.kdl_hint_values a.1.typeIs b
 iter:=λ_ _ f a=>⟨_,_,(λ_ _ b=>HU a.1 a.2 b),So f _ (cJ a.2.lt),⟨⟨_,dE _ rfl,rfl,rfl⟩,a.2.keep λo e=>bw _ e⟩⟩
end
noncomputable def vk:RO->Option (LR)
 | .dk kvs=>some (kvs.map (·.2))
 | .fk kvs=>some (kvs.map (·.2))
 | .dt kvs=>some (kvs.map (·.2))
 | .ft kvs=>some (kvs.map (·.2))
 |_=>none
def sY(md:Bool)(Q:ao):ao:=λv M=>match v with
 | .ref a=>match(M a).bind vk with
  |some xs=>jQ md xs M Q
  |none=>False
 |_=>False
def Np(md:Bool)(te:aq):aq:=λσ M Q=>te σ M (sY md Q)
section
variable {X:Cx}
theorem uf{K:ag}:∀{a:List (κ×RV)} {ws:List (κ×V)},aE K H a ws->aa K H (a.map (·.2)) (ws.map (·.2))
 | [],ws,h=>by have h:ws= []:=h;subst h;exact aa.nil
 |(k,x)::r,ws,h=>by obtain⟨v,t,rfl,b,c⟩:=h;exact aa.cons b (uf c)
theorem YH{s:Shared}{a:Addr}(I:Inv X pins σ0 H s)(L:View X.K H M)(F:M a=some o)(h:vk o=some xs):
 ∃vs c k,cg s.heap a c k/\(a==sysModules)=false/\c.size=vs.length/\vs.length<=sizeLine/\aa X.K H xs vs/\∀i (hi:i<c.size),∃x,vs[i]? =some x/\RelV x c[i].val:=by
 obtain⟨U,m,r⟩:=L a o F;have d:∀u n ob vs,Inv X pins σ0 n s->n a=some (.aZ ob u)->js u=true->(∀i x,valAt u i x->vs[i]? =some x)->mN u=vs.length->aa X.K H xs vs->∃vs c k,cg s.heap a c k/\(a==sysModules)=false/\c.size=vs.length/\vs.length<=sizeLine/\aa X.K H xs vs/\∀i (hi:i<c.size),∃x,vs[i]? =some x/\RelV x c[i].val:=λu n ob vs j D A t v J=>by
  obtain⟨c,k,h,rd,E,e1,C,l⟩:=uj j D A;exact⟨vs,c,k,rd,E,by rw[e1,v],by rw[<-v];exact C,J,λi hi=>by obtain⟨_,x,N,O⟩:=l i hi;exact⟨x,t i x N,O⟩⟩
 have w:∀(b:List (Key×V)) i x,valAt (.dK b) i x->(b.map (·.2))[i]? =some x:=λws i x ⟨Q,e,z⟩=>by rw[fK,e,z];rfl
 have y:∀(b:List (TK×V)) i x,valAt (.dT b) i x->(b.map (·.2))[i]? =some x:=λws i x ⟨Q,e,z⟩=>by rw[fK,e,z];rfl
 cases o<;>first|(cases h;done)|skip
 . obtain⟨b,rfl,f⟩:=r
   cases h;obtain⟨ob,g,j,R⟩:=uP I m rfl;exact d _ _ ob (b.map (·.2)) j c6 rfl (w b) (by simp[mN]) (uf f)
 . obtain⟨b,rfl,f⟩:=r
   cases h;obtain⟨ob,g,j,R⟩:=uP I m rfl;exact d _ _ ob (b.map (·.2)) j c6 rfl (y b) (by simp[mN]) (uf f)
 . obtain⟨ob,b,rfl,f⟩:=r
   cases h;exact d _ _ ob (b.map (·.2)) I m rfl (w b) (by simp[mN]) (uf f)
 . obtain⟨ob,b,rfl,f⟩:=r
   cases h;exact d _ _ ob (b.map (·.2)) I m rfl (y b) (by simp[mN]) (uf f)
theorem Ie:∀{vs:LV} {us:ak},us.length=vs.length->(∀(i:Nat) u,us[i]? =some u->∃x,vs[i]? =some x/\RelV x u)->Vals vs us
 | [],[],_,_=>.nil
 | [],_::_,h,_=>by cases h
 |_::_,[],h,_=>by cases h
 |v::vs,u::us,h,f=>by
  obtain⟨x,e,r⟩:=f 0 u rfl;cases e;exact .cons r (Ie (by simpa using h) λi u e=>f (i+1) u (by simpa using e))
theorem rlv{l:Expr}{p1 ap r pos:Pos}(A:X.mg "list" =none)(hc:X.calm=true)(hl:ah X l te)(z:Gl X "list")(c:attributeBase l "values" X.env (eval l X.env)=eval l X.env)(d:(ap.endLine==r.line)=true):
 ah X (.Call (.Name "list" p1) [.Call (.Attribute l "values" ap) [] [] r] [] pos) (Np md te):=by
 intro b s w H Q0 I h;obtain⟨σ,M,Q,hs,hv,ht,N⟩:=h;have k:starEach [Expr.Call (.Attribute l "values" ap) [] [] r] X.env=(false,eval (Expr.Call (.Attribute l "values" ap) [] [] r) X.env)::starEach [] X.env:=rfl;refine Call_ (nG I z A boot_list (vQ ?_ k rfl));rw[k];show wpAny _ _ (spliced ((false,eval (Expr.Call (.Attribute l "values" ap) [] [] r) X.env)::backTo pos (starEach [] X.env))) _ _ s;refine Calls.spliced_cons (wpAny_Call_method (T:="dict") (id:="dict.values") c rfl d F.plainAttrs_dict F.slot_dict_values F.type_dict_values (ay (hl b s w H (λx H1=>∃rv M1,Rep X.K H1 rv x/\sY md Q rv M1/\Ext H H1/\View X.K H1 M1) I ⟨σ,M,_,hs,hv,ht,λrv M1 v H1 q e1 f r1=>⟨rv,M1,r1,q,e1,f⟩⟩) λuv t zz=>?_));obtain⟨v,H1,D,rl,rv,M1,r1,q,e1,f⟩:=zz
 cases rv<;>first|(exact(show False from q).elim)|skip
 rename_i a;simp only[Rep]at r1;subst r1;cases(show uv=Value.ref a from rl)
 unfold sY at q;simp only at q;split at q
 . rename_i xs ex
   obtain⟨o,hm,hd⟩:=Option.bind_eq_some_iff.mp ex;obtain⟨vs,W,U,rd,hS,J,L,O,j⟩:=YH D f hm hd;refine⟨rd.ty,λb e=>by cases e;obtain⟨o1,Y,Z,h3⟩:=rd;exact⟨o1,Y,Z.2.1⟩,method_meetsIn F.slot_dict_values F.entry_dict_values rfl (PySem.evalArgs_none ⟨rfl,rd.ty,F.args_dict_values_1 _,_,HQ hS,⟨W,U,rd⟩,Calls.spliced_nil ?_⟩)⟩
   have y:Inv X b w H1 { t with heap:=t.heap.push { cls:=.type "dict_values",data:=.fields #[.ref a] } }:=D.kept (t':=t.toks) λb o e=>bw _ e
   refine PySem.W.kdl_call (s:={ t with heap:=t.heap.push { cls:=.type "dict_values",data:=.fields #[.ref a] } }) T6 (y.ok.hd hc) ⟨⟨_,dE _ rfl,rfl,rfl⟩,rd.keep λo e=>bw _ e⟩ (by rw[J];exact L) λh' tk g R kp m n=>?_
   have C:Vals vs g.toList:=Ie (by simp[n.1,J]) λi u e=>by
    obtain⟨hi,rfl⟩:=n.2 i u (by rw[<-Array.getElem?_toList];exact e)
    exact j i hi
   have eL:=y.av.fresh (aK _);have E:=y.laid (t':=tk) (o:=.lst vs) (h':=h') kp (aK _) ⟨L,g.toList,R,C,by simpa using m⟩
   cases md with
   |true=>exact⟨.ref _,_,E,rfl,N (.ref _) _ _ _ (q _ (f.free eL)) (e1.trans (Ext.new eL)) (f.cq eL ⟨vs,rfl,aa.ext (Ext.new eL) _ _ O⟩) (by simp only[Rep])⟩
   |false=>exact frozen ⟨.ref _,_,E,rfl,H1,_,vs,rfl,eL,rfl,λo=>N _ M1 _ _ q (e1.trans (Ext.new eL)) (f.new eL) (ji eL O)⟩
 . exact q.elim
end
noncomputable def jq:Key->Key->Bool
 | .inl i,.inl j=>decide (i<j)
 | .inl _,.inr _=>true
 | .inr _,.inl _=>false
 | .inr x,.inr y=>decide (x.cps.toList<y.cps.toList)
def jR:bC->bC->Bool
 |none,none=>false
 |none,some _=>true
 |some _,none=>false
 |some k,some l=>jq k l
noncomputable def eE:TK->TK->Bool
 | [],[]=>false
 | [],_::_=>true
 |_::_,[]=>false
 |x::xs,y::ys=>if x=y then eE xs ys else jR x y
theorem WT{x y:Str}(h:x.cps.toList=y.cps.toList):x=y:=by
 cases x;cases y;simp_all
theorem UC(a):jq a a=false:=by
 cases a with
 |inl i=>simp[jq]
 |inr x=>simpa[jq]using List.lt_irrefl x.cps.toList
theorem WZ{a b c:Key}(d:jq a b=true)(e:jq b c=true):jq a c=true:=by
 cases a<;>cases b<;>cases c<;>simp only[jq,gK,reduceCtorEq]at d e ⊢
 . omega
 . exact List.lt_trans d e
theorem UB{a b:Key}(c:jq a b=false)(d:jq b a=false):a=b:=by
 cases a<;>cases b<;>simp only[jq,decide_eq_false_iff_not,reduceCtorEq]at c d
 . congr 1;omega
 . congr 1;exact WT (List.le_antisymm (List.not_lt.mp d) (List.not_lt.mp c))
theorem UA(a):jR a a=false:=by cases a<;>simp[jR,UC]
theorem WY{a b c:bC}(d:jR a b=true)(e:jR b c=true):jR a c=true:=by
 cases a<;>cases b<;>cases c<;>simp only[jR,reduceCtorEq]at d e ⊢
 exact WZ d e
theorem Uz{a b:bC}(c:jR a b=false)(d:jR b a=false):a=b:=by
 cases a<;>cases b<;>simp only[jR,reduceCtorEq]at c d ⊢
 exact congrArg some (UB c d)
theorem Jj:∀a:TK,eE a a=false
 | []=>rfl
 |x::xs=>by unfold eE;rw[ai rfl];exact Jj xs
theorem A5:∀{a b c:TK},eE a b=true->eE b c=true->eE a c=true
 | [],b,[],h1,h2=>by cases b<;>simp[eE]at h1 h2
 | [],b,z::zs,_,_=>rfl
 |x::xs,[],c,h1,_=>by simp[eE]at h1
 |x::xs,y::ys,[],_,h2=>by simp[eE]at h2
 |x::xs,y::ys,z::zs,h1,h2=>by
  unfold eE at h1 h2 ⊢
  by_cases e1:x=y
  . subst e1
    rw[ai rfl]at h1
    by_cases d:x=z
    . subst d;rw[ai rfl]at h2 ⊢;exact A5 h1 h2
    . rw[ae d]at h2 ⊢;exact h2
  . rw[ae e1]at h1
    by_cases d:y=z
    . subst d;rw[ae e1];exact h1
    . rw[ae d]at h2
      have t:=WY h1 h2;rw[ae (by rintro rfl;rw[UA]at t;cases t)]
      exact t
theorem xU:∀{a b:TK},eE a b=false->eE b a=false->a=b
 | [],[],_,_=>rfl
 | [],_::_,h,_=>by simp[eE]at h
 |_::_,[],_,h=>by simp[eE]at h
 |x::xs,y::ys,h1,h2=>by
  unfold eE at h1 h2
  by_cases e:x=y
  . subst e
    rw[ai rfl]at h1 h2;rw[xU h1 h2]
  . rw[ae e]at h1
    rw[ae (bZ e)]at h2;exact ba (Uz h1 h2) e
@[reducible] def gJ:KeyOrd where
 α:=TK
 blt:=eE
 irrefl:=Jj
 trans:=λ_ _ _=>A5
 negTrans:=λa b c h=>by
  cases h1:eE a b with
  |true=>exact .inl rfl
  |false=>
   cases h2:eE b a with
   |true=>exact .inr (A5 h2 h)
   |false=>rw[xU h1 h2]at h;exact .inr h
 total:=λ_ _=>xU
def ir(a b:TK):Bool:=!eE b a
def mF(a:List TK):List TK:=a.mergeSort ir
theorem XZ{a b c:TK}(d:ir a b=true)(e:ir b c=true):ir a c=true:=by
 unfold ir at*;rw[jb]at*;exact KeyOrd.kle_trans (O:=gJ) d e
theorem S4(a b):(ir a b||ir b a)=true:=by
 unfold ir;cases h:eE b a with
 |false=>rfl
 |true=>rw[show eE a b=false from KeyOrd.klt_asymm (O:=gJ) h];rfl
theorem Ak(a:List TK):(mF a).Perm a:=List.mergeSort_perm ..
theorem T7(c:List TK):(mF c).Pairwise λa b=>ir a b=true:=List.pairwise_mergeSort (le:=ir) (λ_ _ _=>XZ) S4 c
theorem T8{l c:List TK}(f:l.Perm c)(hs:l.Pairwise λa b=>ir a b=true):l=mF c:=
 (f.trans (Ak c).symm).eq_of_pairwise (λa b _ _ d e=>by
  unfold ir at d e;rw[jb]at d e;exact xU e d) hs (T7 c)
def iR:bC->bC->Bool
 |some (.inl _),some (.inl _)=>true
 |some (.inr _),some (.inr _)=>true
 |_,_=>false
def qw:TK->TK->Bool
 |x::xs,y::ys=>if x=y then qw xs ys else iR x y
 |_,_=>true
def zU:TK->Bool
 |some (.inl _)::_=>true
 |_=>false
def zV:TK->Bool
 |some (.inr _)::_=>true
 |_=>false
def pU(c:List TK):Bool:=(c.all zU||c.all zV)&&c.all λa=>c.all λb=>qw a b
noncomputable def rowsOf:LR->Option (List TK)
 | []=>some []
 |x::xs=>match fe x,rowsOf xs with
  |some k,some ks=>some (k::ks)
  |_,_=>none
def cE(r:TK):RV:=.tup (r.map oR)
theorem Jx:∀{rs:LR} {k:TK},gI rs=some k->rs=k.map oR
 | [],k,h=>by cases h;rfl
 |r::rs,k,h=>by
  unfold gI at h;split at h
  . rename_i a b e1 c
    cases h;rw[bQ,<-Jx c];congr 1;cases r<;>simp only[nQ,reduceCtorEq]at e1<;>cases e1<;>rfl
  . cases h
theorem Vl{x:RV}(h:fe x=some k):x=cE k:=by
 cases x<;>first|(cases h;done)|skip
 unfold cE;rw[<-Jx h]
theorem Ii:∀{xs:LR} {rows:List TK},rowsOf xs=some rows->xs=rows.map cE
 | [],rows,h=>by cases h;rfl
 |x::xs,rows,h=>by
  unfold rowsOf at h;split at h
  . rename_i a b e1 c
    cases h;rw[bQ,<-Ii c,<-Vl e1]
  . cases h
section
variable {P:Program}{w:World}
noncomputable def bY (P:Program)(w:World)(h:Heap):List TK->ak->Prop
 | [],[]=>True
 |r::rs,v::vs=>(∃a ab,v= .ref a/\IsTup h a ab/\ItemsAre (optKind P w) r ab.toList)/\bY P w h rs vs
 |_,_=>False
theorem bY.keep{h g:Heap}(k:∀b o,h.get? b=some o->g.get? b=some o):∀{c:List TK} {vs:ak},bY P w h c vs->bY P w g c vs
 | [],[],_=>trivial
 |_::_,_::_,⟨⟨a,ab,e,⟨o,h1,h2⟩,h3⟩,r⟩=>⟨⟨a,ab,e,⟨o,k a o h1,h2⟩,h3⟩,bY.keep k r⟩
 | [],_::_,h=>h.elim
 |_::_,[],h=>h.elim
theorem bY.len:∀{a:List TK} {vs:ak},bY P w h a vs->a.length=vs.length
 | [],[],_=>rfl
 |_::_,_::_,⟨_,r⟩=>by rw[bG,bG,r.len]
 | [],_::_,h=>h.elim
 |_::_,[],h=>h.elim
theorem bY.at:∀{b:List TK} {vs:ak} {i:Nat},bY P w h b vs->i<b.length->∃a ab,vs.getD i Value.none= .ref a/\IsTup h a ab/\ItemsAre (optKind P w) (b.getD i []) ab.toList
 |_::_,_::_,0,⟨⟨a,ab,e,h1,h2⟩,_⟩,_=>⟨a,ab,by simpa using e,h1,by simpa using h2⟩
 |_::_,_::_,i+1,⟨_,r⟩,hi=>by
  obtain⟨a,ab,e1,c,d⟩:=r.at (i:=i) (by simpa using hi)
  exact⟨a,ab,by simpa using e1,c,by simpa using d⟩
 | [],_,_,_,hi=>ba hi (sF _)
 |_::_,[],_,h,_=>h.elim
theorem A2{i:Int}{v:Value}(h:(optKind P w).is (some (.inl i)) v=true):∃t,v= .int i t:=Value.isInt_shape (show Value.isInt i v=true from h)
theorem A1{x:Str}{v:Value}(h:(optKind P w).is (some (.inr x)) v=true):∃t,v= .str x t:=Value.isStrOf_shape (show Value.isStrOf x v=true from h)
theorem Ex{fin b:Bool}{s:Shared}(a:b=true):∀{ks ls:TK} {xs ys:ak} {i:Nat},ItemsAre (optKind P w) ks xs->ItemsAre (optKind P w) ls ys->qw ks ls=true->fin=decide (ks.length<ls.length)->Q (eE ks ls) s->KatLex P w A b fin Q (xs.zip ys) i s
 | [],[],_,_,i,.nil,.nil,_,hf,q=>by subst hf;exact q
 | [],_::_,_,_,i,.nil,.cons _ _,_,hf,q=>by rw[hf];exact(show Q _ s from by simpa[eE]using q)
 |_::_,[],_,_,i,.cons _ _,.nil,_,hf,q=>by rw[hf];exact(show Q _ s from by simpa[eE]using q)
 |k::ks,l::ls,_,_,i,.cons hk r1,.cons hl r2,ha,hf,q=>by
  refine(optKind P w).eqBool hk hl ?_;unfold qw at ha;unfold eE at q
  by_cases e:k=l
  . rw[ai e]at ha q
    rw[ai (by simpa using e)]
    exact Ex a r1 r2 ha (by rw[hf];simp) q
  . rw[ae e]at ha q
    rw[ae (by simpa using e)]
    subst a;unfold iR at ha;split at ha
    . rename_i m n
      obtain⟨t,rfl⟩:=A2 hk;obtain⟨u,rfl⟩:=A2 hl;have q:Q (decide (m<n)) s:=q
      by_cases z:i=0
      . rw[show(true&&i==0)=true by rw[z];rfl];exact oneLt_int q
      . rw[show(true&&i==0)=false by simpa using z];exact kat_one _ _ (PySem.P.lt_int q)
    . rename_i m n
      obtain⟨t,rfl⟩:=A1 hk;obtain⟨u,rfl⟩:=A1 hl;have q:Q (decide (m.cps.toList<n.cps.toList)) s:=q
      by_cases z:i=0
      . rw[show(true&&i==0)=true by rw[z];rfl];exact oneLt_str q
      . rw[show(true&&i==0)=false by simpa using z];exact kat_one _ _ (PySem.P.lt_str q)
    . cases ha
theorem heads{T:Value}{p:TK->Bool}(g:∀r,p r=true->∀ab,ItemsAre (optKind P w) r ab->∃f,ab[0]? =some f/\Looks (model P w) h (typeOf f) T):∀{b:List TK} {vs:ak},bY P w h b vs->b.all p=true->
 ∃c,KatTups h vs c/\c.length=vs.length/\∀v∈c,Looks (model P w) h (typeOf v) T
 | [],[],_,_=>⟨[],trivial,rfl,λ_ z=>by cases z⟩
 |r::b,v::vs,⟨⟨a,ab,e,⟨o,h1,h2,n,h3⟩,h4⟩,rr⟩,ha=>by
  rw[d9,aU]at ha;obtain⟨f,i,j⟩:=g r ha.1 ab.toList h4;obtain⟨c,k,l,m⟩:=heads g rr ha.2;subst e;refine⟨f::c,KatTups.cons h1 h2 h3 (by simpa using i) k,by rw[bG,bG,l],λv d=>?_⟩
  rcases dh.mp d with rfl|d
  . exact j
  . exact m v d
 | [],_::_,h,_=>h.elim
 |_::_,[],h,_=>h.elim
theorem Tt(r:TK)(c:zU r=true)(ab)(hi:ItemsAre (optKind P w) r ab):∃f,ab[0]? =some f/\Looks (model P w) h (typeOf f) (.type "int"):=by
 unfold zU at c;split at c
 . cases hi with
   |cons a b=>obtain⟨t,rfl⟩:=A2 a;exact⟨_,rfl,Looks.of_pure rfl⟩
 . cases c
theorem Ts(r:TK)(c:zV r=true)(ab)(hi:ItemsAre (optKind P w) r ab):∃f,ab[0]? =some f/\Looks (model P w) h (typeOf f) (.type "str"):=by
 unfold zV at c;split at c
 . cases hi with
   |cons a b=>obtain⟨t,rfl⟩:=A1 a;exact⟨_,rfl,Looks.of_pure rfl⟩
 . cases c
def yI(a:List TK)(i:Nat):gJ.α:=a.getD i []
theorem Uu{s:Shared}{h0:Heap}{a:Addr}{vs:ak}(F:h0.get? a=none)(L:∀b o,h0.get? b=some o->s.heap.get? b=some o)(r:bY P w h0 rows vs)(h:pU rows=true)(R:2<=vs.length):CC P w A s a vs (yI rows):=by
 intro g I;have J:∀b o,h0.get? b=some o->g.get? b=some o:=λb o e=>I b o (λz=>by rw[z,F]at e;cases e) (L b o e)
 have f:=r.keep J;unfold pU at h;rw[aU,sC]at h;obtain⟨d,c⟩:=h;refine⟨tuples' true,λQ O q=>?_,λi j C hi U q=>?_⟩
 . rcases d with d|d
   . obtain⟨E,m,H,n⟩:=heads (T:=.type "int") Tt f d
     exact kat_kind (s:={ s with heap:=g }) m ∅ n ⋯ q
   . obtain⟨E,m,H,n⟩:=heads (T:=.type "str") Ts f d
     exact kat_kind (s:={ s with heap:=g }) m ∅ n ⋯ q
 . have W:=f.len
   obtain⟨x,ix,e1,⟨o1,u,Q,Y,v⟩,t⟩:=f.at (i:=i) ∅
   obtain⟨y,X,D,⟨o2,b1,b2,Z,b3⟩,b4⟩:=f.at (i:=j) ∅
   unfold kas_ask;rw[e1,D];have M:rows.getD i []∈rows:=by rw[List.getD_eq_getElem?_getD,List.getElem?_eq_getElem ∅];exact List.getElem_mem _
   have N:rows.getD j []∈rows:=by rw[List.getD_eq_getElem?_getD,List.getElem?_eq_getElem ∅];exact List.getElem_mem _
   have len:∀{k:TK} {l:ak},ItemsAre (optKind P w) k l->k.length=l.length:=λz=>by induction z<;>simp_all
   refine kat_lt (s:={ s with heap:=g }) u v b1 b3 (Ex rfl t b4 (ff.mp (ff.mp c _ M) _ N) (by rw[len t,len b4,Array.length_toList,Array.length_toList]) q)
end
section
variable {K:ag}{H:Hp}
theorem Im{e:V}:∀{xs:LR} {ws:LV} {i:Nat},aa K H xs ws->i<xs.length->Rep K H (xs.getD i d) (ws.getD i e)
 |x::xs,ws,i,h,hi=>by
  obtain⟨v,r,rfl,a,b⟩:=(by simpa only[aa]using h:∃v r,ws=v::r/\Rep K H x v/\aa K H xs r)
  cases i with
  |zero=>simpa using a
  |succ i=>simpa using Im (d:=d) (e:=e) (i:=i) b (by simpa using hi)
 | [],_,_,_,hi=>ba hi (sF _)
theorem Ir{e:Value}:∀{ws:LV} {vs:ak} {i:Nat},Vals ws vs->i<ws.length->RelV (ws.getD i d) (vs.getD i e)
 |_,_,0,.cons a _,_=>by simpa using a
 |_,_,i+1,.cons _ r,hi=>by simpa using Ir (d:=d) (e:=e) (i:=i) r (by simpa using hi)
theorem Il{e:V}(h:aa K H xs ws):∀{q:List Nat},(∀i∈q,i<xs.length)->aa K H (q.map λi=>xs.getD i d) (q.map λi=>ws.getD i e)
 | [],_=>aa.nil
 |i::q,hq=>aa.cons (Im h (hq i (.head _))) (Il h λj a=>hq j (.tail _ a))
theorem Iq{e:Value}{vs:ak}(h:Vals ws vs):∀{q:List Nat},(∀i∈q,i<ws.length)->Vals (q.map λi=>ws.getD i d) (q.map λi=>vs.getD i e)
 | [],_=>.nil
 |i::q,hq=>.cons (Ir h (hq i (.head _))) (Iq h λj a=>hq j (.tail _ a))
theorem Tg{xs:List α}{p:Array Nat}(a:Ar xs.length p):(p.toList.map λi=>xs.getD i d).Perm xs:=by
 have e:(List.range xs.length).map (λi=>xs.getD i d)=xs:=by
  apply List.ext_getElem
  . simp
  . intro i c b;simp[b]
 exact(a.pm.map _).trans (List.Perm.of_eq e)
theorem R4{b:List TK}{p:Array Nat}(a:Ar b.length p)(s:SU (yI b) p b.length):(p.toList.map λi=>b.getD i [])=mF b:=by
 refine T8 (Tg a) (List.pairwise_iff_getElem.mpr λi j hi f d=>?_)
 have c:j<p.size:=by simpa using f
 have:=s i j (jX d) (by rw[<-a.sz];exact c)
 unfold ky yI at this;unfold ir;rw[jb];simp only[List.getElem_map,Array.getElem_toList];have e1:p.getD i 0=p[i]'∅:=by simp[Array.getD,show i<p.size by omega]
 have e:p.getD j 0=p[j]:=by simp[Array.getD,c]
 rw[e1,e]at this;exact this
theorem Jq{s:Shared}(I:Inv X pins σ H s):∀{xs:LR} {rows:List TK} {ws:LV} {vs:ak},rowsOf xs=some rows->aa X.K H xs ws->Vals ws vs->bY X.prog X.w s.heap rows vs
 | [],rows,ws,vs,e,r,v=>by
  cases e;simp only[aa]at r;subst r;cases v;exact trivial
 |x::xs,rows,ws,vs,e,r,v=>by
  unfold rowsOf at e;split at e
  . rename_i k ks e1 d
    cases e;obtain⟨y,t,rfl,c,f⟩:=(by simpa only[aa]using r:∃v r,ws=v::r/\Rep X.K H x v/\aa X.K H xs r)
    cases v with
    |cons a b=>
    refine⟨?_,Jq I d f b⟩;cases x<;>first|(cases e1;done)|skip
    rename_i rs;simp only[Rep]at c;obtain⟨p,us,rfl,g,h⟩:=c;obtain⟨ab,j,i,l⟩:=I.tuple (bI.of g);exact⟨p,ab.toArray,a,i,by simpa using AJ e1 h j⟩
  . cases e
end
def qr(xs:LR)(M:RM)(Q:ao):Prop:=match rowsOf xs with
 |some rows=>rows.length<64/\pU rows=true/\Q (.ls ((mF rows).map cE)) M
 |none=>False
noncomputable def Bo:LR->RM->ao->Prop:=λrs M Q=>match rs with
 | [.ref a]=>match M a with
  |some (.lst xs)=>qr xs M Q
  |_=>K3 rs M Q
 | [.ls xs]=>qr xs M Q
 |_=>False
section
variable {X:Cx}
theorem JG{s:Shared}{l:Addr}{vs:ak}(I:Inv X pins σ H s)(hv:View X.K H M)(hl:s.heap.IsList l vs.toArray)(hw:Vals ws vs)(hr:aa X.K H xs ws)(hq:qr xs M Q)(hk:iP X.K H Q Q0):
 wpAny (model X.prog X.w) X.A (call (.builtin "sorted") [.ref l]) (EP X pins σ Q0) X.xe s:=by
 unfold qr at hq;split at hq
 . rename_i rows er
   obtain⟨h64,av,hq⟩:=hq;have rr:=Jq I er hr hw;have ln:=rr.len;have ex:=Ii er;have l1:xs.length=rows.length:=by rw[ex,bu]
   have l2:ws.length=vs.length:=hw.length;refine R1 (f:=yI rows) hl (by rw[<-ln];exact h64) (λh2 a g ha kp=>Uu (s:={ s with heap:=g }) ha kp rr av h2) λB h' e p kp hB hget ar su=>?_
   rw[<-ln]at ar su;have hn:=none_of I hB;have inr:∀i∈p.toList,i<rows.length:=λi hi=>og.mp (ar.pm.mem_iff.mp hi)
   have zz:rows.length<=sizeLine:=bR (jX h64) ⋯
   have fin:(p.toList.map λi=>xs.getD i (cE []))=(mF rows).map cE:=by
    rw[<-R4 ar su,bT,ex];refine mS λi hi=>?_
    have:=inr i hi;simp[this]
   refine frozen ⟨.ref B,upd H B (.lst (p.toList.map λi=>ws.getD i V.au)),LS (t':=s.toks) I kp hB ⟨by rw[bu,Array.length_toList,ar.sz];exact zz,nU vs p,e,Iq hw λi hi=>?_,hget⟩,rfl,H,B,_,rfl,hn,rfl,λo=>?_⟩
   . rw[l2,<-ln];exact inr i hi
   . rw[<-fin]at hq
     exact hk _ M _ _ hq (Ext.new hn) (hv.new hn) (ji hn (Il hr λi hi=>by rw[l1];exact inr i hi))
 . exact hq.elim
theorem YM(z:X.calm=true):cQ X (.builtin "sorted") (eO X.K Bo):=by
 intro c s J H E us t I m h;obtain⟨rs,M,Q,d,e,b,k⟩:=h;unfold Bo at b;split at b
 . rename_i a
   split at b
   . rename_i F w
     simp only[aa,Rep]at d;obtain⟨v,r,rfl,rfl,rfl⟩:=d;obtain⟨u,rfl,ru⟩:=vals1 m;cases ru;obtain⟨L,x,D,rfl,j⟩:=e a _ w;obtain⟨ab,l,⟨o,n,f,g,y,i⟩,C⟩:=I.list (.inl (.inl x));exact JG I e ⟨o,f,g,n,i⟩ l j b k
   . exact UR z c s J H E us t I m ⟨_,M,Q,d,e,b,k⟩
 . rename_i F
   simp only[aa,Rep]at d;obtain⟨v,r,rfl,⟨a,D,rfl,A,j⟩,rfl⟩:=d;obtain⟨u,rfl,ru⟩:=vals1 m;cases ru;obtain⟨ab,l,⟨o,n,f,g,y,i⟩,C⟩:=I.list A.sq;exact JG I e ⟨o,f,g,n,i⟩ l j b k
 . exact b.elim
end
section
variable {X:Cx}
def Et:LR->RM->ao->Prop:=λrs M Q=>∃a:List Bool,rs= [.ls (a.map RV.bl)]/\Q (.bl (a.any id)) M
theorem range_any(bs:List Bool):(List.range bs.length).any (λi=>bs.getD i true)=bs.any id:=by
 induction bs with
 |nil=>rfl
 |cons b bs ih=>
  rw[bG,List.range_succ_eq_map,jW,List.any_map,jW];have:((λi=>(b::bs).getD i true) ∘ Nat.succ)=λi=>bs.getD i true:=by funext i;rfl
  rw[this,ih];rfl
theorem UX(O:X.calm=true):cQ X (.builtin "any") (eO X.K Et):=by
 intro d s t H xs us Q0 I Y h;obtain⟨rs,M,Q,Z,W,⟨f,rfl,U⟩,R⟩:=h;obtain⟨v,rfl,r1⟩:=Z.one;simp only[Rep]at r1;obtain⟨a,vs,rfl,J,L⟩:=r1;have:=AY L;subst this;obtain⟨u,rfl,ru⟩:=Y.one;cases ru;obtain⟨ab,rv,p,hz⟩:=I.list J.sq;have:=AU rv;subst this;have m:a<s.heap.objs.size:=by obtain⟨o,n,e,_⟩:=p;exact bx e
 refine call_any_walk (wpAny_pyIter_list p.isList ?_);have hd:X.A.in1.handled=none:=I.ok.hd O;refine⟨s.heap.objs.size,_,_,_,_,_,λi=>f.getD i true,rfl,Walks.list hd s.heap.objs.size a (cJ m) (f.map Value.bool).toArray,⟨⟨_,dE _ rfl,rfl,rfl⟩,p.isList.push _⟩,?_,?_⟩
 . intro i v s' y E' N j
   have c:(f.map Value.bool)[i]? =some v:=by simpa using N
   rw[fK]at c;cases e:f[i]? with
   |none=>rw[e]at c;cases c
   |some b=>
    rw[e]at c;have k:f.getD i true=b:=by rw[List.getD_eq_getElem?_getD,e];rfl
    cases c;have g:y (f.getD i true) s':=j;rw[k]at g;exact jB g
 . intro h' r l
   have w:Inv X d t H { s with heap:=s.heap.push { cls:=.type "list_iterator",data:=.fields #[.ref a,.int 0 0] } }:=I.kept (t':=s.toks) λb o e=>bw _ e
   obtain⟨A,C,f2,D,E,F⟩:=I.fU (aK _) (I.av.fresh (aK _));have x:Inv X d t H { s with heap:=h',toks:=r }:=by
    have z:=w.turned (h':=h') (t':=r) (it:=s.heap.objs.size) (λb o k e=>l b o (by simpa using k) e) A C D E F
    exact z
   refine⟨.bl (f.any id),H,x,?_,R _ M _ H U (.refl H) W (by simp only[Rep])⟩
   show _=_;rw[<-range_any];simp
theorem YT:bootBuiltins "any" =some (.builtin "any"):=by decide+kernel
def B4:LR->RM->ao->Prop:=λrs M Q=>match rs with
 | [.bl b]=>Q (.int (if b then 1 else 0)) M
 |_=>False
theorem QN:cQ X (.type "int") (eO X.K B4):=by
 intro c s l H k us j I g h;obtain⟨rs,M,Q,i,f,a,d⟩:=h;unfold B4 at a;split at a
 . rename_i b
   obtain⟨v,rfl,r1⟩:=i.one;simp only[Rep]at r1;subst r1;obtain⟨u,rfl,ru⟩:=g.one;cases ru;exact call_int_bool ⟨.int _,H,I.kept λb o e=>e,⟨_,rfl⟩,d _ M _ H a (.refl H) f (by simp only[Rep])⟩
 . exact a.elim
variable {tg:Expr}{pos:Pos}
end
section
variable {prog:Program}{w:World}{A:Around}{s:Shared}{E:aP}
structure yy(v:Str)(params:Arguments)(scope:Scope):Prop where
 bd:∀name qual body pm cd ct u,bindArgs (kla_fn name qual params body scope [] pm cd ct) ⟨[u],[]⟩=pure [(v,u)]
 loc:scope.names.lookup v=some .local
 cell:∀y∈scope.names,y.2≠.cell
 co:scope.isCoroutine=false
 gen:scope.isGenerator=false
 kind:scope.kind= .function
 iQ:(v==("__debug__":Str))=false
theorem dJ.kp{h h':Heap}{x a C:Addr}(O:dJ h x a C mA)(k:∀b o,h.get? b=some o->h'.get? b=some o):dJ h' x a C mA:=
 let⟨o,es,ep,ho,r⟩:=O.ns;⟨k _ _ O.obj,⟨o,es,ep,k _ _ ho,r⟩,O.ne⟩
theorem WD{K:Frag}{f c' x C dx:Addr}{name qual v fld:Str}{p1 p2:Pos}{Q:aP}
 (hroom:A.depth<recursionLimit) (iR:K.In s.heap) (lim:s.heap.NoLimit) (L:yy v params scope)
 (ho:s.heap.get? f=some (kla_obj name qual params (.Attribute (.Name v p1) fld p2) scope [] pm c' ctv)) (hcd:s.heap.CodeRec (.ref c') qual)
 (O:dJ s.heap x dx C mA) (c:cK K C) (n:aW K C fld) (hu:mA fld=some u) (hh:handedIn u=true)
 (h:∀h' tk,(∀b o,s.heap.get? b=some o->h'.get? b=some o)->Q u { s with heap:=h',toks:=tk }):
 wpAny (model prog w) A (call (.ref f) [.ref x]) Q E s:=by
 refine wpAny_call (kla_callFunE hroom ho rfl L.co L.gen rfl hcd ?_);rw[L.bd];refine aH (wpAny_newFunctionEnv L.cell (λy hy=>by cases ib.mp hy;exact L.loc) (λh₁ hns hsb=>⟨lim.fresh _ hsb,kla_codeExpr ?_⟩) L.kind)
 have kp:∀b o,s.heap.get? b=some o->h₁.get? b=some o:=λb o e=>hsb.extBut b o (cJ (bx e)) (bw _ e)
 refine Kf rfl (wpAny_Name (wpAny_loadName_local (v:=Value.ref x) L.kind (show _=_ from L.loc) hns (by simp) ?_) L.iQ)
 refine get_map (K:=K) (iR.keeps kp) (dJ.kp O kp) (c.get fld) c.hd n hu hh ?_;exact h _ _ kp
end
section
variable {X:Cx}{pins:aF}{σ:L2.St}{H:Hp}{s:Shared}{h':Heap}
theorem Y1{l f c' C:Addr}{name M v w:Str}{p1 p2:Pos}{as:List Addr}{ks:List Int}(I:Inv X pins σ H s)
 (hl:s.heap.IsList l (as.map Value.ref).toArray) (Z:ks.length=as.length) (h64:as.length<64) (hi:∀(i:Nat) a k,as[i]? =some a->ks[i]? =some k->∃dx fs,H a=some (.ins C dx fs)/\fs.lookup w=some (.int k))
 (R:X.A.depth<recursionLimit) (L:yy v params scope) (ho:s.heap.get? f=some (kla_obj name M params (.Attribute (.Name v p1) w p2) scope [] pm c' ctv)) (hcd:s.heap.CodeRec (.ref c') M)
 (c:cK X.K C) (n:aW X.K C w)
 (h:∀D h' tk y j,(∀m,s.heap.Ns X.env.locals m->h'.Ns X.env.locals m)->(∀b o,b≠X.env.locals->s.heap.get? b=some o->h'.get? b=some o)->s.heap.get? D=none->D≠X.env.locals->h'.get? D=some (seqObj "list" y j)->KskOut false ks (as.map Value.ref) y.toList->Q (.ref D) { s with heap:=h',toks:=tk }):
 wpAny (model X.prog X.w) X.A (call (.builtin "sorted") [.ref l] [(Str.ofString "key",.ref f)]) Q E s:=by
 obtain⟨m,F⟩:=I.fr;have nL:∀b,(∃m',s.heap.Ns X.env.locals m')->b=X.env.locals->∀o,s.heap.get? b=some o->∃N j,o.data= .dict N j:=λb ⟨m',o',N,j,q,d,_⟩ e o z=>by
  rw[e,q]at z;cases z;exact⟨N,j,d⟩
 have fL:f≠X.env.locals:=λe=>by obtain⟨_,_,d⟩:=nL f ⟨m,F.ns⟩ e _ ho;cases d
 have ho':=ho;obtain⟨c1,oc,vc,tc,ec,gc,dc,qc⟩:=hcd;cases ec;have cL:c'≠X.env.locals:=λe=>by obtain⟨_,_,d⟩:=nL c' ⟨m,F.ns⟩ e _ gc;rw[dc]at d;cases d
 have aL:∀b u,H b=some u->b≠X.env.locals:=λb u e z=>by rw[z,I.free]at e;cases e
 refine ksk_sorted (h₀:=X.base) (news:=rest X.base s.heap X.env.locals s.heap.objs.size) (kz:=ks) (f:=.ref f) F (λp A=>U6 p (dR.mp A).1) hl (by rw[bu];exact Z) (by rw[bu];exact h64) (ksk_s1 _ _) (λx=>ksk_l1 _ _) (λx=>ksk_t1 f x) ?turn ?fin
 case turn=>
  intro i v' k hv hk W tk own J U;rw[fK]at hv;cases ea:as[i]? with
  |none=>rw[ea]at hv;cases hv
  |some a=>
   rw[ea]at hv;cases hv;obtain⟨dx,fs,e1,e2⟩:=hi i a k ea hk;have Y:∀b o,b≠X.env.locals->s.heap.get? b=some o->W.get? b=some o:=λb o hb e=>HE (d:=s.heap.objs.size) I.bk J (λp A=>U p (zr _ A)) b o hb (cJ (bx e)) e
   obtain⟨mA,O,r,_,_,hdx⟩:=ye I.av e1;obtain⟨u,hu,ru⟩:=bN.some_of (v:=V.int k) (o:=mA w) (by rw[<-e2];exact r w)
   obtain⟨t,rfl⟩:=(show ∃t,u=Value.int k t from ru)
   obtain⟨od,N,j,g1,g2⟩:=O.ns;have O1:dJ W a dx C mA:=⟨Y _ _ (aL a _ e1) O.obj,⟨od,N,j,Y _ _ (aL dx _ hdx) g1,g2⟩,O.ne⟩;refine WD (K:=X.K) (s:={ s with heap:=W,toks:=tk }) R (I.ok.mod.iR.keeps J.keep) (I.ok.mod.nolimit.keeps J.keep) L (Y _ _ fL ho') ⟨c',oc,vc,tc,rfl,Y _ _ cL gc,dc,qc⟩ O1 c n hu rfl λh2 tk2 k2=>?_
   exact KskEnd.intro ⟨(by obtain⟨o,N,j,g,r⟩:=J.ns;exact⟨o,N,j,k2 _ _ g,r⟩),λb o e=>k2 b o (J.keep b o e),J.above⟩ (λp A=>⟨k2 _ _ (U p A).1,(U p A).2⟩) λp A=>A
 case fin=>
  intro D W tk y j J U lt ko;have Y:∀b o,b≠X.env.locals->s.heap.get? b=some o->W.get? b=some o:=λb o hb e=>HE (d:=s.heap.objs.size) I.bk J (λp A=>U p (gw _ A)) b o hb (cJ (bx e)) e
  have hD:=U (D,seqObj "list" y j) ia;refine h D W tk y j (λm' hm'=>by rw[hm'.eq_nsMap,<-F.ns.eq_nsMap];exact J.ns) Y ?_ hD.2.1 hD.1 ko
  cases q:s.heap.get? D with
  |none=>rfl
  |some o=>exact ba (lt _ (I0 hD.2.1 hD.2.2 q (cJ (bx q)))) (jV _)
end
theorem Bc{P:Program}{a:Addr}{x:Option Addr}(e:fS a pos x h):aC P w H h a (.ext (fS a pos x)):=⟨e,⟨_,e⟩,λ_ _ e k=>k _ e⟩
section
variable {X:Cx}{pins:aF}{σ:L2.St}{H:Hp}{s:Shared}{P c c':Addr}{pos:Pos}{h':Heap}{u:HO}{oc:Obj}
theorem Inv.qB(I:Inv X pins σ H s)(h:H P=some (.ext (fS P pos none)))(k:∀b o,b≠P->s.heap.get? b=some o->h'.get? b=some o)(j:s.heap.objs.size<=c')(f:h'.get? c'=some oc)(m:fS P pos (some c') h'):
 Inv X pins σ (upd (upd H P (.ext (fS P pos (some c')))) c' (.aZ oc (.own c'))) { s with heap:=h',toks:=t' }:=by
 have l:H c'=none:=I.av.fresh j;have cP:c'≠P:=bZ (eC h l);have i:∀b,H b=none->b≠P:=λb n z=>by rw[z,h]at n;cases n
 have t:∀b o,s.heap.get? b=some o->b≠c':=λb o e=>cJ (fu (bx e) j)
 have g:∀b u,H b=some u->b≠P->upd (upd H P (.ext (fS P pos (some c')))) c' (.aZ oc (.own c')) b=some u:=λb u e z=>by rw[aD (eC e l),aD z];exact e
 have a:∀b u,H b=some u->u≠.ext (fS P pos none)->b≠P:=λb u e z y=>by subst y;rw[h]at e;exact z (dH e).symm
 refine I.un ⟨λb o e n _ _=>k b o (i b n) e,λb o e n _ _=>⟨o.slots,k b o (i b n) e⟩,λb o e n _=>(aD (t b o e)).trans ((aD (i b n)).trans n),λb o e _=>?_,λb w e=>g b _ e (a b _ e nofun),λb o u e=>g b _ e (a b _ e nofun),λb x e=>⟨#[],(g b _ e (a b _ e nofun)).trans (by simp)⟩⟩ λb u e=>?_
 . by_cases z:b=P
   . exact⟨_,z ▸ m⟩
   . exact⟨o,k b o z e⟩
 . by_cases z:b=c'
   . subst z;rw[c6]at e;cases e;exact⟨f,_,f⟩
   . rw[aD z]at e
     by_cases y:b=P
     . subst y;rw[c6]at e;cases e;exact Bc m
     . rw[aD y]at e
       refine(I.av b u e).eF (λd v r q=>k d v ?_ q) (λd q=>g d _ q (a d _ q nofun)) λd w q=>g d _ q (a d _ q nofun)
       rcases r with rfl|q
       . exact y
       . exact a d _ q nofun
theorem Vg{q:Str}{body:Expr}{Q:aP}(I:Inv X pins σ H s)(hP:H P=some ho)(r:cV X.K H (.tb P pos q) ho)
 (hcode:X.env.code= .ref c) (C:CodeHd X.base c P) (hb:X.base.BuiltinsAt X.mg P) (hgP:mainGlobals≠P) (hdef:defaultsOf params X.env=([],[])) (hcl:closureFor scope X.env=pure []) (hq:X.env.qual++("<lambda>":Str)=q)
 (h:∀f c' ctv h' tk H',Inv X pins σ H' { s with heap:=h',toks:=tk }->Ext H H'->(∀b u,H b=some u->b≠P->H' b=some u)->(∃ho',H' P=some ho'/\cV X.K H' (.tb P pos q) ho')->
  h'.get? f=some (kla_obj "<lambda>" q params body scope [] ((X.mg "__name__").getD .none) c' ctv)->h'.CodeRec (.ref c') q->Q (.ref f) { s with heap:=h',toks:=tk }):
 wpAny M A (eval (.Lambda params body scope pos) X.env) Q E s:=by
 subst hq;have hg:s.heap.Ns mainGlobals X.mg:=by obtain⟨o,es,ep,e,z⟩:=I.ok.mod.glob;exact⟨o,es,ep,I.bk _ _ e,z⟩
 have hb':s.heap.BuiltinsAt X.mg P:=by obtain⟨bm,o,b1,b2,b3,b4,b5,b6⟩:=hb;exact⟨bm,o,b1,b2,b3,b4,I.bk _ _ b5,b6⟩
 refine kla_eval hdef ?_;rcases r with rfl|⟨c',oc,vs,t,rfl,hc',hd,hv⟩
 . have ht:fS P pos none s.heap:=(I.av P _ hP).1
   refine kla_makeFunction (mg:=X.mg) (clos:=[]) (ps:=#[]) hcl I.ok.glob hg hcode (C.keeps I.bk) ht (by first|trivial|decide|simp[TriplesOk]) rfl hgP hb' λc' ctv h1 tk hx hge hlt hrec htb=>?_
   obtain⟨c2,oc,vs,t,e2,hoc,hd,hv⟩:=hrec;cases e2;have I':=R.Inv.qB (t':=tk) (h':=h1.push (kla_obj "<lambda>" (X.env.qual++("<lambda>":Str)) params body scope [] ((X.mg "__name__").getD .none) c' ctv)) (c':=c') (oc:=oc) I hP (λb o hb e=>bw _ (hx b o hb e)) hge (bw _ hoc) (bw _ htb)
   have hn:H c'=none:=I.av.fresh hge;have cP:c'≠P:=bZ (eC hP hn);have kp:∀b u,H b=some u->b≠P->upd (upd H P (.ext (fS P pos (some c')))) c' (.aZ oc (.own c')) b=some u:=λb u e z=>by rw[aD (eC e hn),aD z];exact e
   have np:∀b u,H b=some u->u≠.ext (fS P pos none)->b≠P:=λb u e z y=>by subst y;rw[hP]at e;exact z (dH e).symm
   refine h _ c' ctv _ tk _ I' ⟨λb xs e=>kp b _ e (np b _ e nofun),λb o u e=>kp b _ e (np b _ e nofun)⟩ kp ⟨_,by rw[aD (bZ cP)];exact c6,.inr ⟨c',oc,vs,t,rfl,c6,hd,hv⟩⟩ (dE _ rfl) ⟨c',oc,vs,t,rfl,bw _ hoc,hd,hv⟩
 . have ht:fS P pos (some c') s.heap:=(I.av P _ hP).1
   have hoc:s.heap.get? c'=some oc:=(I.av c' _ hc').1;refine kla_makeFunctionHit (mg:=X.mg) (clos:=[]) (ps:=#[rawInt pos.line,rawInt pos.col,.ref c']) (cv:=.ref c') hcl I.ok.glob hg hcode (C.keeps I.bk) ht (by first|trivial|decide|simp[TriplesOk]) (by simp[codeAmong,rawInt]) hb' λctv h1 tk hk hsz=>?_
   exact h _ c' ctv _ tk H (I.kept (t':=tk) λb o e=>bw _ (hk b o e)) (.refl H) (λb u e _=>e) ⟨_,hP,.inr ⟨c',oc,vs,t,rfl,hc',hd,hv⟩⟩ (dE _ rfl) ⟨c',oc,vs,t,rfl,bw _ (hk _ _ hoc),hd,hv⟩
end
theorem JU{K:Frag}:∀{as:List Addr} {vs:LV},aa K H (as.map RV.ref) vs->vs=as.map V.ref
 | [],_,h=>by simpa only[oh,aa]using h
 |a::as,vs,h=>by
  simp only[bQ,aa,Rep]at h;obtain⟨v,r,rfl,rfl,b⟩:=h;rw[JU b];rfl
theorem Jl:∀{as:List Addr} {us:ak},Vals (as.map V.ref) us->us=as.map Value.ref
 | [],_,h=>by rw[oh]at h;cases h;rfl
 |a::as,_,h=>by
  rw[bQ]at h;cases h with
  |cons r t=>rw[Jl t];cases(show _=Value.ref a from r);rfl
theorem Jt{K:Frag}:∀{as:List Addr},aa K H (as.map RV.ref) (as.map V.ref)
 | []=>aa.nil
 |a::as=>aa.cons (by simp only[Rep]) Jt
theorem IQ:∀{as:List Addr},Vals (as.map V.ref) (as.map Value.ref)
 | []=>.nil
 |a::as=>.cons rfl IQ
def adr:Value->Addr
 | .ref a=>a
 |_=>0
theorem Ye{c:List (Int×Addr)}(h:KskOut false (c.map Prod.fst) ((c.map Prod.snd).map Value.ref) out):∃g:List (Int×Addr),g.Perm c/\g.Pairwise (λa b=>a.1<=b.1)/\out=(g.map Prod.snd).map Value.ref:=by
 obtain⟨d,f,rfl,j⟩:=h;have e:(c.map Prod.fst).zip ((c.map Prod.snd).map Value.ref)=c.map λz=>(z.1,Value.ref z.2):=by rw[bT,List.zip_map'];rfl
 rw[e]at f;have i:∀p∈d,p=(p.1,Value.ref (adr p.2)):=λp h=>by
  obtain⟨z,_,rfl⟩:=aV.mp (f.mem_iff.mp h);rfl
 have k:d=(d.map λp=>(p.1,adr p.2)).map λz=>(z.1,Value.ref z.2):=by
  rw[bT];exact(List.map_id d).symm.trans (mS λp h=>i p h)
 refine⟨d.map λp=>(p.1,adr p.2),?_,?_,?_⟩
 . have:=f.map λp=>(p.1,adr p.2)
   rwa [bT,show((λp:Int×Value=>(p.1,adr p.2)) ∘ λz:Int×Addr=>(z.1,Value.ref z.2))=id from rfl,List.map_id]at this
 . rw[List.pairwise_map];exact j
 . conv=>lhs;rw[k]
   rw[bT,bT,bT,bT];rfl
section
variable {X:Cx}{pins:aF}{σ:L2.St}{H:Hp}{s:Shared}{h':Heap}{D:Addr}{o:HO}
theorem Inv.sZ(I:Inv X pins σ H s)(k:∀b o,b≠X.env.locals->s.heap.get? b=some o->h'.get? b=some o)(ns:∀m,s.heap.Ns X.env.locals m->h'.Ns X.env.locals m)(i:s.heap.get? D=none)(h:aC X.prog X.w (upd H D o) h' D o):Inv X pins σ (upd H D o) { s with heap:=h',toks:=t' }:=by
 have g:=none_of I i;have j:∀b u,H b=some u->b≠X.env.locals:=λb u e z=>by rw[z,I.free]at e;cases e
 have d:∀b u,H b=some u->upd H D o b=some u:=λb u e=>(aD (eC e g)).trans e
 refine I.step (g':=s.gens) (d':=s.drawn) (ch:=[]) (λ_ z=>nomatch z) (λb o f _ _ e _=>k b o f e) (λb o f _ _ e _=>⟨o.slots,k b o f e⟩) (λb q _ e n=>(aD λz=>by rw[z,i]at e;cases e).trans n) (λb o _ e=>?_) (λb _ e=>d b _ e) (λb _ _ e=>d b _ e) (λb t e=>⟨#[],(d b _ e).trans (by simp)⟩) ns (λb u e=>?_) I.bare
 . by_cases a:b=X.env.locals
   . obtain⟨m,g,_⟩:=I.loc
     obtain⟨r,_,_,q,_⟩:=ns m g;exact⟨r,a ▸ q⟩
   . exact⟨o,k b o a e⟩
 . by_cases a:b=D
   . subst a;rw[c6]at e;cases e;exact h
   . rw[aD a]at e
     refine(I.av b u e).eF (λc v l q=>k c v ?_ q) (λc q=>d c _ q) λc w q=>d c _ q
     rcases l with z|z
     . rw[z];exact j b u e
     . exact j c _ z
end
noncomputable def zZ (C:Addr)(d:Str)(P:Addr)(lp:Pos)(q:Str)(Q:ao):ao:=λx M=>∃c:List (Int×Addr),
 (x= .ls ((c.map Prod.snd).map RV.ref)∨∃a,x= .ref a/\M a=some (.lst ((c.map Prod.snd).map RV.ref)))/\(∀z∈c,∃f,M z.2=some (.ins C f)/\f.lookup d=some (.int z.1))/\c.length<64/\M P=some (.tb P lp q)/\
 ∀e:List (Int×Addr),e.Perm c->e.Pairwise (λa b=>a.1<=b.1)->Q (.ls ((e.map Prod.snd).map RV.ref)) M
def Nq(C:Addr)(fld:Str)(P:Addr)(lp:Pos)(q:Str)(te:aq):aq:=λσ M Q=>te σ M (zZ C fld P lp q Q)
section
variable {X:Cx}{e:Expr}{te:aq}{p p1 p2 kp lp pos:Pos}{v fld q:Str}{params:Arguments}{scope:Scope}{C P cc:Addr}
theorem Xu(he:ah X e te)(hm:X.mg "sorted" =none)(hg:Gl X "sorted")(c:cK X.K C)(n:aW X.K C fld)(L:yy v params scope)(m:X.A.depth<recursionLimit)
 (g:X.env.code= .ref cc) (CH:CodeHd X.base cc P) (hb:X.base.BuiltinsAt X.mg P) (hgP:mainGlobals≠P) (E:defaultsOf params X.env=([],[])) (hcl:closureFor scope X.env=pure []) (hq:X.env.qual++("<lambda>":Str)=q)
 (s1:starEach [e] X.env=(false,eval e X.env)::starEach [] X.env):ah X (.Call (.Name "sorted" p) [e] [⟨some "key",.Lambda params (.Attribute (.Name v p1) fld p2) scope lp,kp⟩] pos) (Nq C fld P lp q te):=by
 intro N s σ0 H Q0 I h;obtain⟨σ,M,Q,hs,hv,ht,hk⟩:=h;have bt:bootBuiltins "sorted" =some (.builtin "sorted"):=by decide+kernel
 refine wpAny_Call_Name_kw (nG I hg hm bt ?_);have Y:backTo pos (starEach [e] X.env)=(false,eval e X.env)::backTo pos (starEach [] X.env):=by rw[s1];rfl
 refine PyProof.Rows.callWith_kw ?_ Y (by rw[Y];rfl)
 rw[Y];refine Calls.spliced_cons (ay (he N s σ0 H (λv H1=>∃x M1,zZ C fld P lp q Q x M1/\Ext H H1/\View X.K H1 M1/\Rep X.K H1 x v) I ⟨σ,M,_,hs,hv,ht,λrv M' v H' q e w r=>⟨rv,M',q,e,w,r⟩⟩) λu s1 ⟨v1,H1,I1,r1,x,M1,⟨kx,hx,hi,h64,hP,hQ⟩,ex1,w1,rep⟩=>Calls.spliced_nil ?_)
 show wpAny _ _ (evalAll [do let v<-eval (.Lambda params (.Attribute (.Name v p1) fld p2) scope lp) X.env;standAt pos;pure v]) _ _ _
 obtain⟨ho,eP,rP⟩:=w1 P _ hP;refine wpAny_evalAll_cons (aj (Vg I1 eP rP g CH hb hgP E hcl hq λf c' ctv h2 tk A O d t ⟨ho2,eP2,rP2⟩ hof hcd=>aj (wpAny_standAt (aH (wpAny_evalAll_nil ?_)))))
 have nP:∀b u,H1 b=some u->(∀φ,u≠.ext φ)->b≠P:=λb u e z y=>by
  subst y;rw[eP]at e;cases e;rcases rP with rfl|⟨_,_,_,_,rfl,_⟩<;>exact z _ rfl
 have w2:View X.K A M1:=λa o e=>by
  by_cases ha:a=P
  . subst ha;rw[hP]at e;cases e;exact⟨ho2,eP2,rP2⟩
  . obtain⟨j,e1,r'⟩:=w1 a o e
    exact⟨j,t a _ e1 ha,r'.ext d⟩
 have lst:∃l,u= .ref l/\h2.IsList l ((kx.map Prod.snd).map Value.ref).toArray:=by
  have fin:∀l vs,cj X.K A l vs->aa X.K A ((kx.map Prod.snd).map RV.ref) vs->v1= .ref l->∃l,u= .ref l/\h2.IsList l ((kx.map Prod.snd).map Value.ref).toArray:=λl vs hs J ev=>by
   subst ev;cases r1;obtain⟨ab,W,⟨o,n,R,g2,g3,g4⟩,hz⟩:=O.list hs;rw[JU J]at W;rw[Jl W]at g4;exact⟨l,rfl,o,R,g2,n,g4⟩
  rcases hx with rfl|⟨a,rfl,ea⟩
  . simp only[Rep]at rep
    obtain⟨a,vs,ev,hf,J⟩:=rep;exact fin a vs (hf.ext d).sq (aa.ext d _ _ J) ev
  . simp only[Rep]at rep
    obtain⟨j,e1,vs,rfl,J⟩:=w1 a _ ea;exact fin a vs (.inl (.inl (t a _ e1 (nP a _ e1 nofun)))) (aa.ext d _ _ J) rep
 obtain⟨l,rfl,hl⟩:=lst;show wpAny _ _ (call (.builtin "sorted") [.ref l] [(Str.ofString "key",.ref f)]) _ _ _;refine Y1 (as:=kx.map Prod.snd) (ks:=kx.map Prod.fst) O hl (by rw[bu,bu]) (by rw[bu];exact h64) (λi a k e1 Z=>?_) m L hof hcd c n λD h3 tk3 out ep ns kp3 hD nD F ko=>?_
 . rw[fK]at e1 Z
   cases ez:kx[i]? with
   |none=>rw[ez]at e1;cases e1
   |some z=>
    rw[ez]at e1 Z;cases e1;cases Z;obtain⟨fs,m1,m2⟩:=hi z (i9 ez);obtain⟨j,R,dx,gs,rfl,g2⟩:=w1 _ _ m1;obtain⟨u',l1,l2⟩:=xb g2 m2;simp only[Rep]at l2;exact⟨dx,gs,t _ _ R (nP _ _ R nofun),l2 ▸ l1⟩
 . obtain⟨ys,hp,W,eo⟩:=Ye ko
   have U:=none_of O hD;have eo':out=((ys.map Prod.snd).map Value.ref).toArray:=by rw[<-eo]
   subst eo';refine frozen ⟨.ref D,upd A D (.lst ((ys.map Prod.snd).map V.ref)),Inv.sZ (t':=tk3) O kp3 ns hD ⟨?_,_,ep,IQ,F⟩,rfl,A,D,_,rfl,U,rfl,λo=>?_⟩
   . rw[bu,bu,hp.length_eq];exact bR (jX h64) ⋯
   . exact hk _ M1 _ _ (hQ ys hp W) (ex1.trans (d.trans (Ext.new U))) (w2.new U) (ji U Jt)
end
section
variable {X:Cx}
noncomputable def ZF:V->LV->Hp->VK->Prop:=λx vs H Q=>∃l a i y,x= .ref l/\vs= [.int i,y]/\H l=some (.lst a)/\0<=i/\i<=a.length/\a.length<sizeLine/\Q .au (upd H l (.lst (a.take i.toNat++y::a.drop i.toNat)))
theorem SX:zF X "list.insert" ZF:=by
 intro c s C H x vs v us Q I f rv h;obtain⟨l,A,i,y,rfl,rfl,b,g,j,o,q⟩:=h;cases f;obtain⟨u,w,rfl,ru,a⟩:=rv.two;obtain⟨t,rfl⟩:=ru;obtain⟨z,ab,n,r,m,e⟩:=I.lX b;have hs:sizeLine<2 ^ 63:=by decide
 refine call_meets F.slot_list_insert ⟨_,e,rfl⟩ F.entry_list_insert (F.args_list_insert_3 _ _ _)
  (AutoSeq1.list_insert_list_int_val_1 l ab.toArray n i t w (by rw[fitsIndex_both ∅ ∅];decide) (by rw[cZ];omega)) ⟨e,?_⟩
 refine⟨.au,_,I.pv (its':=ab.take i.toNat++w::ab.drop i.toNat) b e ?_ ((r.take _).append (.cons a (r.drop _))) ?_,rfl,q⟩
 . show(have k:=if i<0 then(i+(ab.toArray.size:Int)).toNat else min i.toNat ab.toArray.size;(ab.toArray.extract 0 k).push w++ab.toArray.extract k)=_
   have d:(if i<0 then(i+(ab.toArray.size:Int)).toNat else min i.toNat ab.toArray.size)=i.toNat:=by
    rw[ae ∅,cZ];omega
   simp only[d];apply Array.ext';simp;exact List.take_of_length_le (by rw[vX];omega)
 . rw[eQ,bG,vW,vX]
   omega
noncomputable def Lz (to:aq)(t:bD):aq:=λσ M Q=>to σ M λx M1=>match x with
 | .ref p=>(∃ys,M1 p=some (.lst ys))/\t σ M1 λrs M2=>∃y ys,rs= [.int 0]/\M2 p=some (.lst (y::ys))/\Q y (put M2 p (.lst ys))
 |_=>False
theorem Z8{o e:Expr}{t:bD}{c a:Pos}(O:ah X o to)(J:eI X [e] t)
 (d:attributeBase o "pop" X.env (eval o X.env)=eval o X.env:=by rfl)
 (g:((backTo a (starEach [e] X.env)).all (λx=>!x.1)&&(backToKw a (keywordEach [] X.env)).all (λx=>x.1.isSome)&&decide ([e].length+([]:List Keyword).length+(if([]:List Keyword).isEmpty then 0 else 1)<30))=true:=by rfl)
 (f:(c.endLine==a.line)=true:=by rfl) (hs:starEach [e] X.env=(false,eval e X.env)::starEach [] X.env:=by rfl) (b:(backTo a (starEach [] X.env)).any (·.1)=false:=by rfl):
 ah X (.Call (.Attribute o "pop" c) [e] [] a) (Lz to t):=PE.imp (BB PySem.F.plainAttrs_list PySem.F.slot_list_pop PySem.F.type_list_pop U8 O J d g f hs b) λσ0 H Q0 h=>by
 obtain⟨F,M,Q,hs,Y,W,L⟩:=h;refine⟨F,M,_,hs,Y,W,λrx M1 x H1 q e1 D r1=>?_⟩
 cases rx with
 |ref p=>
  obtain⟨⟨ys,N⟩,q⟩:=q;simp only[Rep]at r1;subst r1;obtain⟨R,e0,r0⟩:=D p _ N;obtain⟨vs0,rfl,rr0⟩:=r0;refine⟨.inl ⟨rfl,_,cj.of e0⟩,F,M1,_,hs.ext e1,D,q,λrs M2 vs j k I E Z=>?_⟩
  obtain⟨y,z,rfl,i,k⟩:=k;obtain⟨v,rfl,C⟩:=Z.one;simp only[Rep]at C;subst C;obtain⟨U,A,r4⟩:=E p _ i;obtain⟨s,rfl,l⟩:=r4;obtain⟨w,u,rfl,m,n⟩:=(by simpa only[aa]using l:∃v r,s=v::r/\Rep X.K j y v/\aa X.K j z r)
  have ex:Ext j (upd j p (.lst u)):=Ext.write A rfl;refine⟨p,w::u,0,0,w,rfl,rfl,A,⋯,⋯,?_,rfl,L _ _ _ _ k ((e1.trans I).trans ex) (E.write i ⟨_,rfl,?_⟩) (Rep.ext ex _ _ m)⟩
  . show seqIndex? 0 (u.length+1)=some 0
    unfold seqIndex?;simp
  . exact aa.ext ex _ _ n
 |_=>exact(show False from q).elim
noncomputable def E2 (to:aq)(t:bD):aq:=λσ M Q=>to σ M λx M1=>match x with
 | .ref p=>(∃ys,M1 p=some (.lst ys))/\t σ M1 λrs M2=>∃i ys y,rs= [.int i,y]/\M2 p=some (.lst ys)/\0<=i/\i<=ys.length/\ys.length<sizeLine/\Q .au (put M2 p (.lst (ys.take i.toNat++y::ys.drop i.toNat)))
 |_=>False
theorem VE{o e f:Expr}{t:bD}{c a:Pos}(J:ah X o to)(E:eI X [e,f] t)
 (d:attributeBase o "insert" X.env (eval o X.env)=eval o X.env:=by rfl)
 (l:((backTo a (starEach [e,f] X.env)).all (λx=>!x.1)&&(backToKw a (keywordEach [] X.env)).all (λx=>x.1.isSome)&&decide ([e,f].length+([]:List Keyword).length+(if([]:List Keyword).isEmpty then 0 else 1)<30))=true:=by rfl)
 (g:(c.endLine==a.line)=true:=by rfl) (hs:starEach [e,f] X.env=(false,eval e X.env)::starEach [f] X.env:=by rfl) (b:(backTo a (starEach [f] X.env)).any (·.1)=false:=by rfl):
 ah X (.Call (.Attribute o "insert" c) [e,f] [] a) (E2 to t):=PE.imp (BB PySem.F.plainAttrs_list PySem.F.slot_list_insert PySem.F.type_list_insert SX J E d l g hs b) λσ0 H Q0 h=>by
 obtain⟨C,M,Q,hs,R,O,F⟩:=h;refine⟨C,M,_,hs,R,O,λrx M1 x H1 q e1 z r1=>?_⟩
 cases rx with
 |ref p=>
  obtain⟨⟨ys,I⟩,q⟩:=q;simp only[Rep]at r1;subst r1;obtain⟨L,e0,r0⟩:=z p _ I;obtain⟨vs0,rfl,rr0⟩:=r0;refine⟨.inl ⟨rfl,_,cj.of e0⟩,C,M1,_,hs.ext e1,z,q,λrs M2 vs r n D A W=>?_⟩
  obtain⟨i,ys2,y,rfl,m,U,i2,hz,n⟩:=n;obtain⟨v,w,rfl,u,Z⟩:=W.two;simp only[Rep]at u;subst u;obtain⟨N,s,Y⟩:=A p _ m;obtain⟨k,rfl,j⟩:=Y;have ex:Ext r (upd r p (.lst (k.take i.toNat++w::k.drop i.toNat))):=Ext.write s rfl;have hl:=j.length;refine⟨p,k,i,w,rfl,rfl,s,U,∅,∅,F _ _ _ _ n ((e1.trans D).trans ex) (A.write m ⟨_,rfl,?_⟩) (by simp only[Rep])⟩
  exact aa.ext ex _ _ ((j.take _).append (.cons Z (j.drop _)))
 |_=>exact(show False from q).elim
def vC(i j k:Nat):iN:=λx a M Q=>match x with| .tup [u,.tup [v,w]]=>Q (rD a [i,j,k] [u,v,w]) M|_=>False
theorem qyv{p:Pos}{i j k k1 k2:Nat}{p1 p2:Pos}(hc:X.calm=true)(h1:PG X (.Name y p) (yz i))(h2:m6 X es (jP [j,k]))(hn:(assignEach es X.env).length=2)(hst:(assignEach es X.env).findIdx? (·.1)=none)
 (hn1:(assignEach [.Name y p,.Tuple es k2 p2] X.env).length=2) (hst1:(assignEach [.Name y p,.Tuple es k2 p2] X.env).findIdx? (·.1)=none):jZ X (.Tuple [.Name y p,.Tuple es k2 p2] k1 p1) (vC i j k):=PG.imp (yn hc (xP h1 (xP (yn hc h2 hn hst) A0)) hn1 hst1) λv σ0 H Q0 h=>by
 obtain⟨rv,σ,M,Q,hr,hs,hv,hg,hk⟩:=h;unfold vC at hg;split at hg
 . rename_i u v w
   simp only[Rep,aa]at hr;obtain⟨a,vs,rfl,h1,v1,r1,rfl,hu,v2,r2,rfl,hvw,rfl⟩:=hr;obtain⟨b,ws,rfl,h3,w1,s1,rfl,hv1,w2,s2,rfl,hw1,rfl⟩:=hvw;refine⟨a,_,rfl,bI.of h1,rfl,v1,_,rfl,?_⟩;refine⟨_,_,rfl,b,_,rfl,bI.of h3,rfl,?_⟩;refine AO (is:=[j,k]) (rs:=[v,w]) rfl (.cons hv1 (.cons hw1 .nil)) (hs.set hu i) λσ0' q=>?_
   exact⟨rfl,hk _ M σ0' H hg (.refl H) hv q⟩
 . exact hg.elim
end
inductive T where
 |v (i:Nat)|i (n:Int)|s (x:Str)|b (x:Bool)|n
 |g (x:Str)|ty (x:String)
 |op (o:Operator) (a b:T)|cm (o:CmpOp) (a b:T)|ch (o p:CmpOp) (a b c:T)
 |an (a b:T)|or (a b:T)|no (a:T)|ie (t a b:T)
 |tu (a:T)|ll (a:T)|lm (a:T)|e0|ec (a r:T)
 |ix (a b:T)|sl (a l h:T)|p0|p1 (a:T)
 |fl (c:Nat) (f:Str) (a:T)
 |ca (f:Nat) (a:T)|me (f:Nat) (o a:T)|mk (c:Nat) (a:T)
 |bf (f:Str) (a:T)|bt (f:Str) (a:T)
 |ap (o a:T)
 |dg (d k:T)|dn (neg:Bool) (k d:T)|d1 (d k:T)|dk|dt
 |ic (neg:Bool) (a:T) (x:Str)
 |tx (x:Str) (a:T)|tg (x:Str) (a:T)|tn (x:Str) (a:T)
 |cv (i:Nat) (a:T)
 |di (l:List (Str×Int)) (a:T)
 |cp (md tup:Bool) (nm:aA) (cap:List (Nat×Str)) (it t e:T)
 |sc (i:Nat) (md tup:Bool) (nm:aA) (cap:List (Nat×Str)) (it t e:T)
 |lr (a b:T)
 |iv (a:T)|im (a:T)|lv (md:Bool) (a:T)
 |pr (i j:Nat) (a:T)|wh (t b:T)|af (c:Nat) (f:Str) (o a:T)|dd (d k:T)
 |is (a:T)|r1 (a:T)|st (a:T)
 |set (i:Nat) (a:T)|un (is:List Nat) (a:T)|sf (c:Nat) (f:Str) (o a:T)|dp (d k a:T)|sp (l i a:T)
 |re (a:T)|r0|bp (t a b:T)|fo (tup:Bool) (is:List Nat) (it b:T)|ex (a:T)|ra
 |se (a b:T)|en
 |sk (c:Nat) (f:Str) (a:T)
 |po (o a:T)|li (o a:T)|u3 (i j k:Nat) (a:T)
structure FD where
 kind:Nat
 cls:Nat
 name:Str
 ps:aA
 N:aA
 body:T
structure SI where
 gi:List (Str×Int)
 gt:List (Str×aA)
 tb:aA
 tt:List (Str×List (TK×Str))
 cl:aA
 fs:List (Nat×Str)
 bl:aA
 fd:List FD
 ln:aA:=[""]
 lp:Pos:=⟨0,0,0,0⟩
 lq:Str:=""
structure G where
 S:SI
 tb:Str->bV
 C:Nat->Addr
 fn:Nat->bX
 lW:Nat->bX
 ik:List (Addr×bX)
 lP:Addr
def gg:Operator->cx
 | .Add=>yU| .Sub=>EH| .Mult=>ES| .Mod=>ET| .FloorDiv=>Es| .Pow=>EK
 |_=>λ_ _ _ _=>False
noncomputable def ee:CmpOp->cx
 | .Lt=>Nn| .LtE=>Nm| .Gt=>Nj| .GtE=>Ni| .Eq=>E3| .NotEq=>ER| .Is=>Nl| .IsNot=>K5| .In=>yP false| .NotIn=>yP true
noncomputable def C4:String->RV->Option Bool:=λx=>if x= "int" then KG else if x= "bool" then is_bool else if x= "str" then KD else if x= "tuple" then Jd else if x= "list" then J9 elseλ_=>none
noncomputable def B3:LR->RM->ao->Prop:=λrs M Q=>match rs with
 | [.ref a,.ty "list"]=>match M a with|some (.lst _)=>Q (.bl true) M|_=>False
 | [x,.ty t]=>match C4 t x with|some c=>Q (.bl c) M|none=>False
 |_=>False
noncomputable def BE:LR->RM->ao->Prop:=λrs M Q=>match rs with
 | [.ref a]=>match M a with
  |some (.lst xs)=>Q (.int xs.length) M
  |some (.dk kvs)=>Q (.int kvs.length) M
  |some (.dt kvs)=>Q (.int kvs.length) M
  |_=>False
 |rs=>yN rs M Q
noncomputable def fv (f:Str):LR->RM->ao->Prop:=
 if f= "len" then BE else if f= "isinstance" then B3 else if f= "all" then Eu else if f= "max" then LD else if f= "sorted" then Bo else if f= "ord" then EM else if f= "any" then Et elseλ_ _ _=>False
def wu(f:Str):LR->RM->ao->Prop:=
 if f= "tuple" then Bn else if f= "list" then BD else if f= "int" then B4 elseλ_ _ _=>False
noncomputable def qS (C:Addr)(f:Str)(Q:ao):ao:=λx M=>match x with
 | .ref a=>match M a with
  |some (.ins C' fs)=>C'=C/\match fs.lookup f with
   |some v=>Q v M
   |none=>False
  |_=>False
 |_=>False
def CF(C:Addr)(f:Str)(ta:aq):aq:=λσ M Q=>ta σ M (qS C f Q)
noncomputable def qT (C:Addr)(f:Str)(y:RV)(N:RM->Prop):ao:=λx M=>match x with
 | .ref a=>match M a with
  |some (.ins C' fs)=>C'=C/\fs.length<1000/\N (put M a (.ins C (jL f y fs)))
  |_=>False
 |_=>False
def CG(C:Addr)(f:Str)(b c:aq):cU:=λD a M=>c a M λy M1=>b a M1 (qT C f y (D.nx a))
noncomputable def pf (C:Addr)(m:Str)(sp:bX)(t:bD)(σ:bb)(Q:ao):ao:=λx M=>match x with
 | .ref a=>match M a with
  |some (.ins C' fs)=>C'=C/\fs.lookup m=none/\t σ M λrs M2=>sp (.ref a::rs) M2 Q
  |_=>False
 |_=>False
def qC(C:Addr)(m:Str)(sp:bX)(ta:aq)(t:bD):aq:=λσ M Q=>ta σ M (pf C m sp t σ Q)
def gB:aq:=λ_ _ _=>False
structure Sm where
 E:aq:=λ_ _ _=>False
 T:c7:=λ_ _ _=>False
 A:bD:=λ_ _ _=>False
 I:gy:=λ_ _ _=>False
 P:oq:=λ_ _ _=>False
 S:cU:=λ_ _ _=>False
 L:List aq:=[]
def ex(e:aq):Sm:={ E:=e,T:=mE e }
noncomputable def tr (g:G):T->Sm
 | .v i=>ex (qe i)
 | .i n=>ex (rC (.int n))
 | .s x=>ex (rC (.str x))
 | .b x=>ex (rC (.bl x))
 | .n=>ex (rC .au)
 | .g x=>ex (match g.S.gi.lookup x with|some i=>rC (.int i)|none=>gB)
 | .ty x=>ex (rC (.ty x))
 | .op o a b=>ex (nW (gg o) (tr g a).E (tr g b).E)
 | .cm o a b=>ex (nW (ee o) (tr g a).E (tr g b).E)
 | .ch o p a b c=>ex (rG (ee o) (ee p) (tr g a).E (tr g b).E (tr g c).E)
 | .an a b=>{ E:=yp (tr g a).E (tr g b).E,T:=yT (tr g a).T (tr g b).T }
 | .or a b=>{ E:=yK (tr g a).E (tr g b).E,T:=zj (tr g a).T (tr g b).T }
 | .no a=>{ E:=LB (tr g a).E,T:=EN (tr g a).T }
 | .ie t a b=>ex (zi (tr g t).T (tr g a).E (tr g b).E)
 | .tu a=>ex (EG (tr g a).A)
 | .ll a=>ex (EV (tr g a).A)
 | .lm a=>ex (EU (tr g a).A)
 | .e0=>{ A:=mK }
 | .ec a r=>{ A:=rO (tr g a).E (tr g r).A,L:=(tr g a).E::(tr g r).L }
 | .ix a b=>ex (nW bM (tr g a).E (tr g b).E)
 | .sl a l h=>ex (Nr (tr g a).E (tr g l).P (tr g h).P)
 | .p0=>{ P:=EO }
 | .p1 a=>{ P:=LA (tr g a).E }
 | .fl c f a=>ex (CF (g.C c) f (tr g a).E)
 | .ca f a=>ex (jK (g.fn f) (tr g a).A)
 | .me f o a=>ex (match g.S.fd[f]? with|some d=>qC (g.C d.cls) d.name (g.fn f) (tr g o).E (tr g a).A|none=>gB)
 | .mk f a=>ex (match g.S.fd[f]? with|some d=>rN (g.C d.cls) (g.lW f) (tr g a).A|none=>gB)
 | .bf f a=>ex (jK (fv f) (tr g a).A)
 | .bt f a=>ex (jK (wu f) (tr g a).A)
 | .ap o a=>ex (yS (tr g o).E (tr g a).A)
 | .po o a=>ex (Lz (tr g o).E (tr g a).A)
 | .li o a=>ex (E2 (tr g o).E (tr g a).A)
 | .dg d k=>ex (Lr (tr g d).E (tr g k).E)
 | .dn neg k d=>ex (rS neg (tr g k).E (tr g d).E)
 | .d1 d k=>ex (KU (tr g d).E (tr g k).E)
 | .dk=>ex LJ
 | .dt=>ex K6
 | .ic neg a x=>ex (match g.S.gt.lookup x with|some m=>rU neg m (tr g a).E|none=>gB)
 | .tx x a=>ex (yJ (g.tb x) (tr g a).E)
 | .tg x a=>ex (match g.S.tt.lookup x with|some l=>xW l (tr g a).E|none=>gB)
 | .tn x a=>ex (AB (g.tb x) (tr g a).E)
 | .cv i a=>ex (K7 g.ik (qe i) (tr g a).A)
 | .di l a=>ex (AE (gf l) (tr g a).E)
 | .cp md tup nm cap it t e=>ex (rF (gv tup nm.length) md (tr g it).I (cap.map Prod.fst) (tr g t).T (tr g e).E)
 | .sc i md tup nm cap it t e=>{ S:=vB i (rF (gv tup nm.length) md (tr g it).I (cap.map Prod.fst) (tr g t).T (tr g e).E) }
 | .lr a b=>ex (K4 (tr g a).E (tr g b).E)
 | .iv a=>{ I:=E1 false (tr g a).E }
 | .im a=>{ I:=EZ (tr g a).E }
 | .lv md a=>ex (Np md (tr g a).E)
 | .pr i j a=>{ S:=EL i j (tr g a).A }
 | .wh t b=>{ S:=Bm (tr g t).T (tr g b).S }
 | .af c f o a=>{ S:=NA (g.C c) f (tr g o).E (tr g a).E }
 | .dd d k=>{ S:=KS (tr g d).E (tr g k).E }
 | .is a=>{ I:=EX (tr g a).E }
 | .r1 a=>{ I:=EY (tr g a).E }
 | .st a=>{ I:=EW (tr g a).E }
 | .set i a=>{ S:=vB i (tr g a).E }
 | .un is a=>{ S:=yR (tr g a).E (vM is) }
 | .u3 i j k a=>{ S:=yR (tr g a).E (vC i j k) }
 | .sf c f o a=>{ S:=CG (g.C c) f (tr g o).E (tr g a).E }
 | .dp d k a=>{ S:=KR (tr g d).E (tr g k).E (tr g a).E }
 | .sp l i a=>{ S:=yR (tr g a).E (LM (tr g l).E (tr g i).E p7) }
 | .re a=>{ S:=EJ (tr g a).E }
 | .r0=>{ S:=Ly }
 | .bp t a b=>{ S:=yQ (tr g t).T (tr g a).S (tr g b).S }
 | .fo tup is it b=>{ S:=LH (tr g it).I (match tup,is with|true,is=>vM is|false,[i]=>i7 i|_,_=>λ_ _ _ _=>False) (tr g b).S }
 | .ex a=>{ S:=LI (tr g a).E }
 | .ra=>{ S:=λ_ _ _=>False }
 | .se a b=>{ S:=EI (tr g a).S (tr g b).S }
 | .en=>{ S:=LC }
 | .sk c f a=>ex (Nq (g.C c) f g.lP g.S.lp g.S.lq (tr g a).E)
inductive Nd where
 |e (x:Expr)|t (x:Expr)|a (xs:aS)|i (tg x:Expr)|p (x:Option Expr)|s (x:Stmt)|b (xs:List Stmt)|l (xs:aS)
def fW(sc:Scope)(x:Str):Bool:=sc.names.lookup x==some .globalImplicit&& !(x==("__debug__":Str))
def yq(tup:Bool)(tg:Expr)(nm:aA):Bool:=match tup,tg with
 |false,.Name x _=>nm==[x]
 |true,.Tuple es _ _=>nI es==some nm
 |_,_=>false
def gC(N:aA):List Nat->aS->Bool
 | [],[]=>true
 |i::is,.Name x _::es=>(N[i]? ==some x)&&gC N is es
 |_,_=>false
def loc(sc:Scope)(x:Str):Bool:=sc.names.lookup x==some .local||sc.names.lookup x==some .cell
def cf(sc:Scope)(x:Str):Bool:=sc.names.lookup x==some .cell||sc.names.lookup x==some .free
def iQ(x:Str):Bool:=!(x==("__debug__":Str))&& !(x==("__classdict__":Str))
noncomputable def rT (N:aA)(sc scope:Scope)(nm:aA)(a:List (Nat×Str)):Bool:=
 a.all (λp=>(N[p.1]? ==some p.2)&&(scope.names.lookup p.2==some .free)&&cf sc p.2)&&scope.names.all (λy=>y.2 != .free||cf sc y.1)&&scope.names.all (λy=>y.2 != .cell)&&scope.kind== .function&&
 scope.names.all (λy=>y.2 != .local||scope.names.lookup y.1==some .local)&&nm.all (λx=>scope.names.lookup x==some .local)&&decide (nm++a.map Prod.snd).Nodup&&(nm++a.map Prod.snd).all iQ
noncomputable def vE:List (Str×Int)->List (Option Expr)->aS->Bool
 | [],[],[]=>true
 |(x,n)::l,some (.Constant (.str y) _ _)::ks,.Constant (.int m) _ _::vs=>(x==y)&&(n==m)&&vE l ks vs
 |_,_,_=>false
noncomputable def zO:aA:=["len","isinstance","all","max","sorted","ord","any"]
def zQ:aA:=["tuple","list","int"]
def gU(ap p:Pos):Bool:=ap.endLine==p.line
def BM(t:T):Bool:=if h:t.ctorIdx=3 then T.b.elim t h id else false
@[elab_as_elim] theorem pW {α:Type} [BEq α] [LawfulBEq α] {z c:α} {b:Bool} {C:α->Prop} (h:((z==c)&&b)=true) (k:b=true->C c):C z:=by
 rw[aU,eX]at h;rw[h.1];exact k h.2
theorem i4{a b:Bool}(h:(a&&b)=true):a=true/\b=true:=by rwa [aU]at h
theorem di[Decidable c]{t:c->Bool}{C:Prop}(h:(if h:c then t h else false)=true)(k:c->(if h:c then t h else false)=true->C):C:=
 if i:c then k i h else by rw[dif_neg i]at h;cases h
def dN(e:Expr)(f:Str->Pos->Bool):Bool:=if h:e.ctorIdx=23 then Expr.Name.elim e h f else false
@[elab_as_elim] theorem gu {e f} {C:Expr->Prop} (h:dN e f=true) (k:∀a b,f a b=true->C (.Name a b)):C e:=di h λi=>Expr.Name.elim e i k
def dK(e:Expr)(f:Const->Nat->Pos->Bool):Bool:=if h:e.ctorIdx=19 then Expr.Constant.elim e h f else false
@[elab_as_elim] theorem yB {e f} {C:Expr->Prop} (h:dK e f=true) (k:∀a b c,f a b c=true->C (.Constant a b c)):C e:=di h λi=>Expr.Constant.elim e i k
def dB(e:Expr)(f:Expr->Operator->Expr->Pos->Bool):Bool:=if h:e.ctorIdx=2 then Expr.BinOp.elim e h f else false
@[elab_as_elim] theorem qyM {e f} {C:Expr->Prop} (h:dB e f=true) (k:∀a b c d,f a b c d=true->C (.BinOp a b c d)):C e:=di h λi=>Expr.BinOp.elim e i k
def dC(e:Expr)(f:Expr->List CmpOp->aS->Pos->Bool):Bool:=if h:e.ctorIdx=15 then Expr.Compare.elim e h f else false
@[elab_as_elim] theorem Mo {e f} {C:Expr->Prop} (h:dC e f=true) (k:∀a b c d,f a b c d=true->C (.Compare a b c d)):C e:=di h λi=>Expr.Compare.elim e i k
def dQ(e:Expr)(f:BoolOp->aS->Pos->Bool):Bool:=if h:e.ctorIdx=0 then Expr.BoolOp.elim e h f else false
@[elab_as_elim] theorem yA {e f} {C:Expr->Prop} (h:dQ e f=true) (k:∀a b c,f a b c=true->C (.BoolOp a b c)):C e:=di h λi=>Expr.BoolOp.elim e i k
def dU(e:Expr)(f:UnaryOp->Expr->Pos->Bool):Bool:=if h:e.ctorIdx=3 then Expr.UnaryOp.elim e h f else false
@[elab_as_elim] theorem Ml {e f} {C:Expr->Prop} (h:dU e f=true) (k:∀a b c,f a b c=true->C (.UnaryOp a b c)):C e:=di h λi=>Expr.UnaryOp.elim e i k
def dI(e:Expr)(f:Expr->Expr->Expr->Pos->Bool):Bool:=if h:e.ctorIdx=5 then Expr.IfExp.elim e h f else false
@[elab_as_elim] theorem qyL {e f} {C:Expr->Prop} (h:dI e f=true) (k:∀a b c d,f a b c d=true->C (.IfExp a b c d)):C e:=di h λi=>Expr.IfExp.elim e i k
def dT(e:Expr)(f:aS->Nat->Pos->Bool):Bool:=if h:e.ctorIdx=25 then Expr.Tuple.elim e h f else false
@[elab_as_elim] theorem qb {e f} {C:Expr->Prop} (h:dT e f=true) (k:∀a b c,f a b c=true->C (.Tuple a b c)):C e:=di h λi=>Expr.Tuple.elim e i k
def dL(e:Expr)(f:aS->Pos->Bool):Bool:=if h:e.ctorIdx=24 then Expr.List.elim e h f else false
@[elab_as_elim] theorem Mm {e f} {C:Expr->Prop} (h:dL e f=true) (k:∀a b,f a b=true->C (.List a b)):C e:=di h λi=>Expr.List.elim e i k
def dS(e:Expr)(f:Expr->Expr->Pos->Bool):Bool:=if h:e.ctorIdx=21 then Expr.Subscript.elim e h f else false
@[elab_as_elim] theorem nM {e f} {C:Expr->Prop} (h:dS e f=true) (k:∀a b c,f a b c=true->C (.Subscript a b c)):C e:=di h λi=>Expr.Subscript.elim e i k
def dX(e:Expr)(f:Option Expr->Option Expr->Option Expr->Pos->Bool):Bool:=if h:e.ctorIdx=26 then Expr.Slice.elim e h f else false
@[elab_as_elim] theorem qyJ {e f} {C:Expr->Prop} (h:dX e f=true) (k:∀a b c d,f a b c d=true->C (.Slice a b c d)):C e:=di h λi=>Expr.Slice.elim e i k
def dA(e:Expr)(f:Expr->Str->Pos->Bool):Bool:=if h:e.ctorIdx=20 then Expr.Attribute.elim e h f else false
@[elab_as_elim] theorem vm {e f} {C:Expr->Prop} (h:dA e f=true) (k:∀a b c,f a b c=true->C (.Attribute a b c)):C e:=di h λi=>Expr.Attribute.elim e i k
def dF(e:Expr)(f:Expr->aS->List Keyword->Pos->Bool):Bool:=if h:e.ctorIdx=16 then Expr.Call.elim e h f else false
@[elab_as_elim] theorem BL {e f} {C:Expr->Prop} (h:dF e f=true) (k:∀a b c d,f a b c d=true->C (.Call a b c d)):C e:=di h λi=>Expr.Call.elim e i k
def dD(e:Expr)(f:List (Option Expr)->aS->Pos->Bool):Bool:=if h:e.ctorIdx=6 then Expr.Dict.elim e h f else false
@[elab_as_elim] theorem BU {e f} {C:Expr->Prop} (h:dD e f=true) (k:∀a b c,f a b c=true->C (.Dict a b c)):C e:=di h λi=>Expr.Dict.elim e i k
def dG(e:Expr)(f:Expr->List Comprehension->Scope->Pos->Bool):Bool:=if h:e.ctorIdx=8 then Expr.ListComp.elim e h f else false
@[elab_as_elim] theorem Mn {e f} {C:Expr->Prop} (h:dG e f=true) (k:∀a b c d,f a b c d=true->C (.ListComp a b c d)):C e:=di h λi=>Expr.ListComp.elim e i k
def tA(e:Stmt)(f:aS->Expr->Pos->Bool):Bool:=if h:e.ctorIdx=5 then Stmt.Assign.elim e h f else false
@[elab_as_elim] theorem YV {e f} {C:Stmt->Prop} (h:tA e f=true) (k:∀a b c,f a b c=true->C (.Assign a b c)):C e:=di h λi=>Stmt.Assign.elim e i k
def tW(e:Stmt)(f:Expr->List Stmt->List Stmt->Pos->Bool):Bool:=if h:e.ctorIdx=11 then Stmt.While.elim e h f else false
@[elab_as_elim] theorem Za {e f} {C:Stmt->Prop} (h:tW e f=true) (k:∀a b c d,f a b c d=true->C (.While a b c d)):C e:=di h λi=>Stmt.While.elim e i k
def tU(e:Stmt)(f:Expr->Operator->Expr->Pos->Bool):Bool:=if h:e.ctorIdx=7 then Stmt.AugAssign.elim e h f else false
@[elab_as_elim] theorem Zb {e f} {C:Stmt->Prop} (h:tU e f=true) (k:∀a b c d,f a b c d=true->C (.AugAssign a b c d)):C e:=di h λi=>Stmt.AugAssign.elim e i k
def tD(e:Stmt)(f:aS->Pos->Bool):Bool:=if h:e.ctorIdx=4 then Stmt.Delete.elim e h f else false
@[elab_as_elim] theorem Zl {e f} {C:Stmt->Prop} (h:tD e f=true) (k:∀a b,f a b=true->C (.Delete a b)):C e:=di h λi=>Stmt.Delete.elim e i k
def tR(e:Stmt)(f:Option Expr->Pos->Bool):Bool:=if h:e.ctorIdx=3 then Stmt.Return.elim e h f else false
@[elab_as_elim] theorem Ll {e f} {C:Stmt->Prop} (h:tR e f=true) (k:∀a b,f a b=true->C (.Return a b)):C e:=di h λi=>Stmt.Return.elim e i k
def tI(e:Stmt)(f:Expr->List Stmt->List Stmt->Pos->Bool):Bool:=if h:e.ctorIdx=12 then Stmt.If.elim e h f else false
@[elab_as_elim] theorem Zg {e f} {C:Stmt->Prop} (h:tI e f=true) (k:∀a b c d,f a b c d=true->C (.If a b c d)):C e:=di h λi=>Stmt.If.elim e i k
def tF(e:Stmt)(f:Expr->Expr->List Stmt->List Stmt->Pos->Bool):Bool:=if h:e.ctorIdx=9 then Stmt.For.elim e h f else false
@[elab_as_elim] theorem Zh {e f} {C:Stmt->Prop} (h:tF e f=true) (k:∀a b c d g,f a b c d g=true->C (.For a b c d g)):C e:=di h λi=>Stmt.For.elim e i k
def tE(e:Stmt)(f:Expr->Pos->Bool):Bool:=if h:e.ctorIdx=24 then Stmt.Expr.elim e h f else false
@[elab_as_elim] theorem Zi {e f} {C:Stmt->Prop} (h:tE e f=true) (k:∀a b,f a b=true->C (.Expr a b)):C e:=di h λi=>Stmt.Expr.elim e i k
section
variable {α:Type}{xs:List α}{b:Bool}{x:Option α}{e:Expr}{s:Stmt}
def l0(xs:List α)(b:Bool):Bool:=match xs with| []=>b|_=>false
def lc(xs:List α)(f:α->List α->Bool):Bool:=match xs with|x::r=>f x r|_=>false
def l1(xs:List α)(f:α->Bool):Bool:=lc xs λx r=>l0 r (f x)
def l2(xs:List α)(f:α->α->Bool):Bool:=lc xs λx r=>l1 r (f x)
def o0(x:Option α)(b:Bool):Bool:=match x with|none=>b|_=>false
def o1(x:Option α)(f:α->Bool):Bool:=match x with|some y=>f y|_=>false
variable {C:List α->Prop}{D:Option α->Prop}{E:Expr->Prop}{F:Stmt->Prop}
@[elab_as_elim] theorem gH (h:l0 xs b=true) (k:b=true->C []):C xs:=by cases xs<;>first|exact k h|cases h
@[elab_as_elim] theorem iB {f} (h:lc xs f=true) (k:∀x r,f x r=true->C (x::r)):C xs:=by cases xs<;>first|exact k _ _ h|cases h
@[elab_as_elim] theorem fQ {f} (h:l1 xs f=true) (k:∀y,f y=true->C [y]):C xs:=iB h λy _ h=>gH h (k y)
@[elab_as_elim] theorem p5 {f} (h:l2 xs f=true) (k:∀y z,f y z=true->C [y,z]):C xs:=iB h λy _ h=>fQ h (k y)
@[elab_as_elim] theorem BQ (h:o0 x b=true) (k:b=true->D none):D x:=by cases x<;>first|exact k h|cases h
@[elab_as_elim] theorem LW {f} (h:o1 x f=true) (k:∀y,f y=true->D (some y)):D x:=by cases x<;>first|exact k _ h|cases h
def je(e:Expr)(f:Str->Pos->aS->Pos->Bool):Bool:=dF e λg a ks p=>dN g λx q=>l0 ks (f x q a p)
@[elab_as_elim] theorem mq {f} (h:je e f=true) (k:∀x q es p,f x q es p=true->E (.Call (.Name x q) es [] p)):E e:=BL h λ_ es _ p h=>gu h λx q h=>gH h (k x q es p)
def jF(e:Expr)(f:Expr->Str->Pos->aS->Pos->Bool):Bool:=dF e λg a ks p=>dA g λx m q=>l0 ks (f x m q a p)
@[elab_as_elim] theorem mw {f} (h:jF e f=true) (k:∀x m q es p,f x m q es p=true->E (.Call (.Attribute x m q) es [] p)):E e:=BL h λ_ es _ p h=>vm h λx m q h=>gH h (k x m q es p)
def sQ(e:Expr)(f:Expr->CmpOp->Expr->Pos->Bool):Bool:=dC e λx a c p=>l1 a λo=>l1 c λy=>f x o y p
@[elab_as_elim] theorem uU {f} (h:sQ e f=true) (k:∀x o y p,f x o y p=true->E (.Compare x [o] [y] p)):E e:=Mo h λx _ _ p h=>fQ h λo h=>fQ h λy=>k x o y p
def mQ(s:Stmt)(f:Expr->Expr->Pos->Bool):Bool:=tA s λz v p=>l1 z λt=>f t v p
@[elab_as_elim] theorem ny {f} (h:mQ s f=true) (k:∀t v p,f t v p=true->F (.Assign [t] v p)):F s:=YV h λ_ v p h=>fQ h λt=>k t v p
end
noncomputable def dm (e:Expr):Bool:=!([22,7,26,9,10].contains e.ctorIdx)
def jI(e:Expr):Bool:=e.ctorIdx==8
noncomputable def BN (e:Expr):Bool:=[0,5,15].contains e.ctorIdx||dU e λo _ _=>o== .Not
def gG(e:Expr):Bool:=je e λ_ _ a _=>a.isEmpty
def cb(a:Nd)(f:Expr->Bool):Bool:=match a with
 | .e x=>dm x&&f x
 | .t x=>!BN x&&f x
 |_=>false
def tq(a:Nd)(f:Expr->Bool):Bool:=match a with
 | .e x=>dm x&&f x
 | .t x=>f x
 |_=>false
def fX(a:Nd)(f:Stmt->Bool):Bool:=match a with
 | .s x=>f x
 |_=>false
def Ad(a:Nd)(f:(aS->Nd)->aS->Bool):Bool:=match a with
 | .a x=>f .a x
 | .l x=>f .l x
 |_=>false
def qV(a:Nd)(f:Expr->Expr->Bool):Bool:=match a with
 | .i tg x=>f tg x
 |_=>false
def Af(a:Nd)(f:Option Expr->Bool):Bool:=match a with
 | .p x=>f x
 |_=>false
def Ae(a:Nd)(f:List Stmt->Bool):Bool:=match a with
 | .b x=>f x
 |_=>false
def tw(a:Nd)(f g:Expr->Bool):Bool:=match a with
 | .e x=>dm x&&f x
 | .t x=>g x
 |_=>false
def dY(e:Expr)(f:Arguments->Expr->Scope->Pos->Bool):Bool:=if h:e.ctorIdx=4 then Expr.Lambda.elim e h f else false
@[elab_as_elim] theorem qyI {e f} {C:Expr->Prop} (h:dY e f=true) (k:∀a b c d,f a b c d=true->C (.Lambda a b c d)):C e:=di h λi=>Expr.Lambda.elim e i k
noncomputable def B8 (ps:Arguments)(v:Str):Bool:=ps.posonlyargs.isEmpty&&ps.vararg.isNone&&ps.kwonlyargs.isEmpty&&ps.kw_defaults.isEmpty&&ps.kwarg.isNone&&ps.defaults.isEmpty&&(l1 ps.args λa=>a.arg==v)
noncomputable def Ca (v:Str)(sc:Scope):Bool:=(sc.names.lookup v==some .local)&&sc.names.all (λy=>y.2 != .cell&&y.2 != .free)&& !sc.isCoroutine&& !sc.isGenerator&&sc.kind== .function&&iQ v
noncomputable def mt (S:SI)(fc:Bool)(N:aA)(sc:Scope):T->Nd->Bool
 | .v i,nd=>cb nd λy0=>dN y0 λx _=>N[i]? ==some x
 | .i n,nd=>cb nd λy0=>dK y0 λz _ _=>z== .int n
 | .s x,nd=>cb nd λy0=>dK y0 λz _ _=>z== .str x
 | .b x,nd=>cb nd λy0=>dK y0 λz _ _=>z== .bool x
 | .n,nd=>cb nd λy0=>dK y0 λz _ _=>z== .none
 | .g x,nd=>cb nd λy0=>dN y0 λy _=>(x==y)&&(S.gi.lookup x).isSome&&fW sc x
 | .ty x,nd=>cb nd λy0=>dN y0 λy _=>(Str.ofString x==y)&&["int","bool","str","tuple","list"].contains x&&S.bl.contains y&&fW sc y
 | .op o a b,nd=>cb nd λy0=>dB y0 λx o' y _=>(o==o')&&mt S fc N sc a (.e x)&&mt S fc N sc b (.e y)
 | .cm o a b,nd=>tq nd λy0=>sQ y0 λx o' y _=>(o==o')&&mt S fc N sc a (.e x)&&mt S fc N sc b (.e y)
 | .ch o p a b c,nd=>tq nd λy0=>dC y0 λx z1 z2 _=>l2 z1 λo' p'=>l2 z2 λy z=>(o==o')&&(p==p')&&mt S fc N sc a (.e x)&&mt S fc N sc b (.e y)&&mt S fc N sc c (.e z)
 | .dn neg k d,nd=>tq nd λy0=>sQ y0 λx o' y _=>(o'==if neg then .NotIn else .In)&&mt S fc N sc k (.e x)&&mt S fc N sc d (.e y)
 | .an a b,nd=>tw nd (λy0=>dQ y0 λz1 z2 p=>(z1== .And)&&(lc z2 λx z3=>lc z3 λy r=>mt S fc N sc a (.e x)&&mt S fc N sc b (.e (if r.isEmpty then y else .BoolOp .And (y::r) p)))) (λy0=>dQ y0 λz1 z2 p=>(z1== .And)&&(lc z2 λx z3=>lc z3 λy r=>mt S fc N sc a (.t x)&&mt S fc N sc b (.t (if r.isEmpty then y else .BoolOp .And (y::r) p))))
 | .or a b,nd=>tw nd (λy0=>dQ y0 λz1 z2 p=>(z1== .Or)&&(lc z2 λx z3=>lc z3 λy r=>mt S fc N sc a (.e x)&&mt S fc N sc b (.e (if r.isEmpty then y else .BoolOp .Or (y::r) p)))) (λy0=>dQ y0 λz1 z2 p=>(z1== .Or)&&(lc z2 λx z3=>lc z3 λy r=>mt S fc N sc a (.t x)&&mt S fc N sc b (.t (if r.isEmpty then y else .BoolOp .Or (y::r) p))))
 | .no a,nd=>tw nd (λy0=>dU y0 λz1 x _=>(z1== .Not)&&(mt S fc N sc a (.e x))) (λy0=>dU y0 λz1 x _=>(z1== .Not)&&(mt S fc N sc a (.t x)))
 | .ie t a b,nd=>cb nd λy0=>dI y0 λx y z _=>mt S fc N sc t (.t x)&&mt S fc N sc a (.e y)&&mt S fc N sc b (.e z)
 | .tu a,nd=>cb nd λy0=>dT y0 λes _ _=>mt S fc N sc a (.a es)
 | .ll a,nd=>cb nd λy0=>dL y0 λes _=>mt S fc N sc a (.a es)
 | .lm a,nd=>cb nd λy0=>dL y0 λes _=>mt S fc N sc a (.a es)
 | .e0,nd=>Ad nd λ_ y0=>l0 y0 <|true
 | .ec a r,nd=>Ad nd λmk y0=>lc y0 λx xs=>mt S fc N sc a (.e x)&&mt S fc N sc r (mk xs)
 | .ix a b,nd=>cb nd λy0=>dS y0 λx y _=>mt S fc N sc a (.e x)&&mt S fc N sc b (.e y)
 | .sl a l h,nd=>cb nd λy0=>dS y0 λx z1 _=>dX z1 λlo hi z2 _=>o0 z2 <|mt S fc N sc a (.e x)&&mt S fc N sc l (.p lo)&&mt S fc N sc h (.p hi)
 | .p0,nd=>Af nd λy0=>o0 y0 <|true
 | .p1 a,nd=>Af nd λy0=>o1 y0 λx=>mt S fc N sc a (.e x)
 | .fl c f a,nd=>cb nd λy0=>dA y0 λx f' _=>(f==f')&&S.fs.contains (c,f)&& !gG x&&mt S fc N sc a (.e x)
 | .ca f a,nd=>cb nd λy0=>je y0 λx _ es _=>(match S.fd[f]? with|some d=>d.kind==0&&d.name==x|none=>false)&&fW sc x&&mt S fc N sc a (.a es)
 | .me f o a,nd=>cb nd λy0=>jF y0 λx m ap es p=>(match S.fd[f]? with|some d=>d.kind==1&&d.name==m|none=>false)&& !gG x&&gU ap p&&decide (es.length<29)&&mt S fc N sc o (.e x)&&mt S fc N sc a (.a es)
 | .mk f a,nd=>cb nd λy0=>je y0 λx _ es _=>(match S.fd[f]? with|some d=>d.kind==2&&S.cl[d.cls]? ==some x|none=>false)&&fW sc x&&mt S fc N sc a (.a es)
 | .bf f a,nd=>cb nd λy0=>je y0 λx _ es _=>(f==x)&&zO.contains x&&S.bl.contains x&&fW sc x&& !es.isEmpty&&mt S fc N sc a (.a es)
 | .bt f a,nd=>cb nd λy0=>je y0 λx _ es _=>(f==x)&&zQ.contains x&&S.bl.contains x&&fW sc x&& !es.isEmpty&&mt S fc N sc a (.a es)
 | .ap o a,nd=>cb nd λy0=>jF y0 λx m ap z1 p=>l1 z1 λy=>(m==("append":Str))&& !gG x&&gU ap p&&mt S fc N sc o (.e x)&&mt S fc N sc a (.a [y])
 | .po o a,nd=>cb nd λy0=>jF y0 λx m ap z1 p=>l1 z1 λy=>(m==("pop":Str))&& !gG x&&gU ap p&&mt S fc N sc o (.e x)&&mt S fc N sc a (.a [y])
 | .li o a,nd=>cb nd λy0=>jF y0 λx m ap z1 p=>l2 z1 λy w=>(m==("insert":Str))&& !gG x&&gU ap p&&mt S fc N sc o (.e x)&&mt S fc N sc a (.a [y,w])
 | .dg d k,nd=>cb nd λy0=>dS y0 λx y _=>mt S fc N sc d (.e x)&&mt S fc N sc k (.e y)
 | .d1 d k,nd=>cb nd λy0=>jF y0 λx m ap z1 p=>l1 z1 λy=>(m==("get":Str))&& !gG x&&gU ap p&&mt S fc N sc d (.e x)&&mt S fc N sc k (.e y)
 | .dk,nd=>cb nd λy0=>dD y0 λz1 z2 _=>l0 z1 <|l0 z2 <|true
 | .dt,nd=>cb nd λy0=>dD y0 λz1 z2 _=>l0 z1 <|l0 z2 <|true
 | .ic neg a x,nd=>tq nd λy0=>sQ y0 λy o z1 _=>dN z1 λx' _=>(o==if neg then .NotIn else .In)&&(x==x')&&(S.gt.lookup x).isSome&&fW sc x&&mt S fc N sc a (.e y)
 | .tx x a,nd=>cb nd λy0=>dS y0 λz1 y _=>dN z1 λx' _=>(x==x')&&S.tb.contains x&&fW sc x&&mt S fc N sc a (.e y)
 | .tg x a,nd=>cb nd λy0=>jF y0 λz1 m ap z2 p=>dN z1 λx' _=>l1 z2 λy=>(m==("get":Str))&&(x==x')&&(S.tt.lookup x).isSome&&fW sc x&&gU ap p&&mt S fc N sc a (.e y)
 | .tn x a,nd=>tw nd (λ_=>false) λy0=>sQ y0 λy o z1 _=>dN z1 λx' _=>(o== .NotIn)&&(x==x')&&S.tb.contains x&&fW sc x&&mt S fc N sc a (.e y)
 | .cv i a,nd=>cb nd λy0=>je y0 λx _ es _=>(N[i]? ==some x)&& !es.isEmpty&&mt S fc N sc a (.a es)
 | .di l a,nd=>cb nd λy0=>dS y0 λz1 y _=>dD z1 λks vs _=>vE l ks vs&& !l.isEmpty&&decide (l.length<=15)&&decide (l.map Prod.fst).Nodup&&mt S fc N sc a (.e y)
 | .lr a b,nd=>cb nd λy0=>je y0 λx _ z1 _=>l1 z1 λz2=>je z2 λy _ z3 _=>l2 z3 λz w=>(x==("list":Str))&&(y==("range":Str))&&S.bl.contains x&&S.bl.contains y&&fW sc x&&fW sc y&&mt S fc N sc a (.e z)&&mt S fc N sc b (.e w)
 | .cp _ tup nm cap it t e,nd=>cb nd λy0=>dG y0 λel z1 scope _=>l1 z1 λz2=>match z2 with|⟨tg,ite,ifs,as⟩=>fc&&(as==0)&&yq tup tg nm&&rT N sc scope nm cap&&dm ite&&mt S fc N sc it (.i tg ite)&&mt S false (nm++cap.map Prod.snd) scope e (.e el)&&(match ifs with| []=>BM t| [c]=>mt S false (nm++cap.map Prod.snd) scope t (.t c)|_=>false)
 | .iv a,nd=>qV nd λ_=>λy0=>jF y0 λx m ap z1 p=>l0 z1 <|(m==("values":Str))&& !gG x&&gU ap p&&mt S fc N sc a (.e x)
 | .im a,nd=>qV nd λtg=>λy0=>jF y0 λx m ap z1 p=>l0 z1 <|(tg.ctorIdx==25)&&(m==("items":Str))&& !gG x&&gU ap p&&mt S fc N sc a (.e x)
 | .lv _ a,nd=>cb nd λy0=>je y0 λy _ z1 _=>l1 z1 λz2=>jF z2 λx m ap z3 p=>l0 z3 <|(y==("list":Str))&&(m==("values":Str))&&S.bl.contains y&&fW sc y&& !gG x&&gU ap p&&mt S fc N sc a (.e x)
 | .pr i j a,nd=>fX nd λy0=>mQ y0 λz1 z2 _=>dT z1 λz3 _ _=>l2 z3 λz4 z5=>dN z4 λx px=>dN z5 λy py=>dT z2 λz6 _ _=>l2 z6 λu v=>fc&&(N[i]? ==some x)&&(N[j]? ==some y)&&(i != j)&&(sc.names.lookup x==some .local)&&(sc.names.lookup y==some .local)&&(py.line==px.line)&& !(y==x)&& !([u,v].all (foldedForSure 8))&& !([u,v].all (constantsAlone 8))&&mt S fc N sc a (.a [u,v])
 | .wh t b,nd=>fX nd λy0=>tW y0 λx y z1 _=>l0 z1 <|fc&&mt S fc N sc t (.t x)&&mt S fc N sc b (.b y)
 | .af c f o a,nd=>fX nd λy0=>tU y0 λz1 z2 e _=>dA z1 λx f' _=>(z2== .Add)&&((f==f')&&S.fs.contains (c,f)&&mt S fc N sc o (.e x)&&mt S fc N sc a (.e e))
 | .dd d k,nd=>fX nd λy0=>tD y0 λz1 _=>l1 z1 λz2=>dS z2 λx y _=>mt S fc N sc d (.e x)&&mt S fc N sc k (.e y)
 | .is a,nd=>qV nd λ_ x=>dm x&&mt S fc N sc a (.e x)
 | .st a,nd=>qV nd λ_ x=>dm x&&mt S fc N sc a (.e x)
 | .r1 a,nd=>qV nd λ_=>λy0=>je y0 λx _ z1 _=>l1 z1 λy=>(x==("range":Str))&&S.bl.contains x&&fW sc x&&mt S fc N sc a (.e y)
 | .set i a,nd=>fX nd λy0=>mQ y0 λz1 e _=>dN z1 λx p=>fc&&(N[i]? ==some x)&&(!jI e||sc.names.lookup x==some .cell)&&mt S fc N sc a (.e e)
 | .sc i _ tup nm cap it t e,nd=>fX nd λy0=>mQ y0 λz1 z2 _=>dN z1 λx p=>dG z2 λel z3 scope p2=>l1 z3 λz4=>match z4 with|⟨tg,ite,ifs,as⟩=>fc&&(N[i]? ==some x)&&(sc.names.lookup x==some .local)&&(p.line==p2.line)&& !(scope.names.any λy=>y.1==x&&(y.2== .local||y.2== .cell))&&(as==0)&&yq tup tg nm&&rT N sc scope nm cap&&dm ite&&mt S fc N sc it (.i tg ite)&&mt S false (nm++cap.map Prod.snd) scope e (.e el)&&(match ifs with| []=>BM t| [c]=>mt S false (nm++cap.map Prod.snd) scope t (.t c)|_=>false)
 | .un is a,nd=>fX nd λy0=>mQ y0 λz1 e _=>dT z1 λes _ _=>fc&&gC N is es&& !jI e&&(e.ctorIdx != 25)&&mt S fc N sc a (.e e)
 | .u3 i j k a,nd=>fX nd λy0=>mQ y0 λz1 e _=>dT z1 λes _ _=>l2 es λy1 y2=>dT y2 λes2 _ _=>fc&&gC N [i] [y1]&&gC N [j,k] es2&& !jI e&&(e.ctorIdx != 25)&&mt S fc N sc a (.e e)
 | .sf c f o a,nd=>fX nd λy0=>mQ y0 λz1 e _=>dA z1 λx f' _=>(f==f')&&S.fs.contains (c,f)&& !jI e&&mt S fc N sc o (.e x)&&mt S fc N sc a (.e e)
 | .dp d k a,nd=>fX nd λy0=>mQ y0 λz1 e _=>dS z1 λx y _=>!jI e&&mt S fc N sc d (.e x)&&mt S fc N sc k (.e y)&&mt S fc N sc a (.e e)
 | .sp l i a,nd=>fX nd λy0=>mQ y0 λz1 e _=>dS z1 λx y _=>!jI e&&mt S fc N sc l (.e x)&&mt S fc N sc i (.e y)&&mt S fc N sc a (.e e)
 | .re a,nd=>fX nd λy0=>tR y0 λz1 _=>o1 z1 λe=>mt S fc N sc a (.e e)
 | .r0,nd=>fX nd λy0=>tR y0 λz1 _=>o0 z1 <|true
 | .bp t a b,nd=>fX nd λy0=>tI y0 λx y z _=>mt S fc N sc t (.t x)&&mt S fc N sc a (.b y)&&mt S fc N sc b (.b z)
 | .fo tup is it b,nd=>fX nd λy0=>tF y0 λtg x y z1 _=>l0 z1 <|fc&&dm x&&cond tup (dT tg λes _ _=>gC N is es) (dN tg λz _=>l1 is λi=>N[i]? ==some z)&&mt S fc N sc it (.i tg x)&&mt S fc N sc b (.b y)
 | .ex a,nd=>fX nd λy0=>tE y0 λe _=>!jI e&&mt S fc N sc a (.e e)
 | .ra,nd=>match nd with| .s _=>true| .b _=>true|_=>false
 | .se a b,nd=>Ae nd λy0=>lc y0 λx y=>mt S fc N sc a (.s x)&&mt S fc N sc b (.b y)
 | .en,nd=>Ae nd λy0=>l0 y0 <|true
 | .sk c f a,nd=>cb nd λy0=>dF y0 λg es ks _=>dN g λx _=>l1 es λe=>l1 ks λk=>(x==("sorted":Str))&&(k.arg==some ("key":Str))&&(dY k.value λps b ls lp=>dA b λe' f' _=>(f'==f)&&(dN e' λv _=>decide (lp=S.lp)&&B8 ps v&&Ca v ls))&&fc&&decide (N=S.ln)&&S.bl.contains x&&fW sc x&&S.fs.contains (c,f)&&mt S fc N sc a (.e e)
section
variable {S:SI}{fc:Bool}{N:aA}{sc:Scope}
theorem c9{t:T}{x:Expr}(h:mt S fc N sc t (.e x)=true):dm x=true:=by
 cases t<;>first|exact(i4 h).1|exact ba h hZ
theorem gz{e:Expr}{env:Env}(h:dm e=true):starEach (e::es) env=(false,eval e env)::starEach es env:=by
 cases e<;>first|rfl|cases h
theorem yc{i:Expr}(h:dm i=true):∀o v,subscripted i false o v=operate [o,v] (getItem o v):=by
 intro o v;cases i<;>first|rfl|cases h
theorem mn{op:CmpOp}{e:Expr}(h:dm e=true):behindInMarks op e=false:=by
 cases e<;>first|rfl|cases h
theorem yf{e:Expr}{env:Env}(h:dm e=true):∀x,foldedSetIterable e env x=pure x:=by
 intro x;cases e<;>first|rfl|cases h
theorem q9{e:Expr}{tg:Option Expr}{l:Nat}{env:Env}(h:dm e=true)(a:jI e=false):swapsWith e tg l env=pure false:=by
 cases e<;>first|rfl|(cases a;done)|(cases h;done)
theorem ml{env:Env}(h:gG o=false):attributeBase o m env (eval o env)=eval o env:=by
 cases o<;>first|rfl|skip
 rename_i f a ks p;cases f<;>first|rfl|skip
 cases a<;>first|rfl|skip
 cases ks<;>first|rfl|cases h
theorem V0{e:Expr}{env:Env}(h:BN e=false):∀a,isTrue e env a=(do let v<-a;standAt e.pos;holding [v] (truthy v)):=by
 intro w;cases e<;>first|rfl|cases h|skip
 rename_i o x p;cases o<;>first|rfl|cases h
theorem gA:∀{r:T} {xs:aS},mt S fc N sc r (.a xs)=true->xs.all dm=true
 |r,[],_=>rfl
 |r,x::xs,h=>by
  cases r<;>first|exact ba h hZ|skip
  have h:=i4 h;rw[d9,c9 h.1,gA h.2];rfl
theorem xM{env:Env}:∀{xs:aS},xs.all dm=true->starEach xs env=xs.map λe=>(false,eval e env)
 | [],_=>rfl
 |x::xs,h=>by
  rw[d9,aU]at h;rw[gz h.1,xM h.2];rfl
theorem q8{env:Env}{p:Pos}{xs:aS}(h:xs.all dm=true):(backTo p (starEach xs env)).any (·.1)=false:=by
 rw[xM h];unfold backTo;simp
theorem uK{env:Env}{p:Pos}{xs:aS}(h:xs.all dm=true):(backTo p (starEach xs env)).all (λx=>!x.1)=true:=by
 rw[xM h];unfold backTo;simp
theorem back_eq{env:Env}{p:Pos}{xs:aS}(h:xs.all dm=true):backTo p (starEach xs env)=xs.map λe=>(false,eval e env):=by
 rw[xM h];unfold backTo;simp[bT,Function.comp_def]
theorem JQ{o:Expr}{a pos:Pos}{es:aS}{env:Env}(g:gG o=false)(e:es.all dm=true)(i:es.length<29)(d:gU a pos=true):
 eval (.Call (.Attribute o m a) es [] pos) env=(do
  let c<-eval o env
  standAt a.atName
  let(f,first) <-holding [c] (getMethod c m (do return (<-importBound o env).getD true))
  callWith pos f first (backTo pos (starEach es env)) (backToKw pos (keywordEach [] env))):=by
 have e1:eval (.Call (.Attribute o m a) es [] pos) env=(do
  let c<-attributeBase o m env (eval o env)
  standAt a.atName
  methodCall o m a pos env c (es.length+([]:List Keyword).length) (backTo pos (starEach es env)) (backToKw pos (keywordEach [] env))):=rfl
 rw[e1,ml g];have h:methodCallForm (es.length+([]:List Keyword).length) (backTo pos (starEach es env)) (backToKw pos (keywordEach [] env))=true:=by
  unfold methodCallForm;rw[uK e];have:es.length+0+0<30:=by omega
  simp[backToKw,keywordEach,this];omega
 have b:methodCallPos true o env a pos=pure pos:=by
  unfold methodCallPos;unfold gU at d;rw[ai (by rw[d];rfl)]
 unfold methodCall;rw[h,b];rfl
end
structure Wd(P:Program)(w:World)(K:ag)(mg:bo)(base:Heap)(Γ:G)(k:Nat):Prop where
 bl:∀x∈Γ.S.bl,mg x=none
 gi:∀x i,Γ.S.gi.lookup x=some i->Co mg x i
 gt:∀x l,Γ.S.gt.lookup x=some l->rZ K mg x l
 tb:∀x∈Γ.S.tb,KTab P w K mg x (Γ.tb x)
 tt:∀x l,Γ.S.tt.lookup x=some l->qd P w K mg x l
 cl:∀i c,Γ.S.cl[i]? =some c->cK K (Γ.C i)/\mg c=some (.ref (Γ.C i))
 fs:∀c f,(c,f)∈Γ.S.fs->cK K (Γ.C c)/\aW K (Γ.C c) f
 fn:∀(i:Nat) d,Γ.S.fd[i]? =some d->d.kind=0->zG P w K mg base k d.name d.ps (Γ.fn i)
 me:∀(i:Nat) d,Γ.S.fd[i]? =some d->d.kind=1->cK K (Γ.C d.cls)/\sJ P w K mg base (Γ.C d.cls) k d.name d.ps (Γ.fn i)
 lW:∀(i:Nat) d,Γ.S.fd[i]? =some d->d.kind=2->∃j,j+1<=k/\zH P w K mg base (Γ.C d.cls) j d.ps (Γ.lW i)
 ik:∀q∈Γ.ik,∃fd ps,PySem.W.keepIn K (.ref q.1)=true/\Binds K fd ps []/\dz P w K mg base fh k q.1 fd ps (fH K q.2)
structure NH(Γ:G)(X:Cx):Prop where
 q:X.env.qual++("<lambda>":Str)=Γ.S.lq
 cc:∃cc,X.env.code= .ref cc/\PySem.W.CodeHd X.base cc Γ.lP
 bt:X.base.BuiltinsAt X.mg Γ.lP
 gp:mainGlobals≠Γ.lP
structure fB(Γ:G)(k:Nat)(fc:Bool)(N:aA)(sc:Scope)(X:Cx):Prop where
 hN:X.N=N
 zp:∀x∈N,qM X.env.scope x/\iQ x=true
 gl:∀x,sc.names.lookup x=some .globalImplicit->Gl X x
 calm:X.calm=true
 room:aI k X.A
 fn:fc=true->X.env.scope=sc/\N.Nodup/\(∀x∈N,Loc sc x)/\(∀x,X.fn x=true)/\PassesOwn (model X.prog X.w) X.A X.env X.xe/\X.env.blockKind= .function/\∀x,X.env.kindOf x=sc.names.lookup x
 lm:fc=true->N=Γ.S.ln->NH Γ X
def zI(X:Cx):aS->List aq->Prop
 | [],ts=>ts= []
 |x::xs,ts=>∃t r,ts=t::r/\ah X x t/\zI X xs r
noncomputable def Good (a:G)(X:Cx)(t:T):Nd->Prop
 | .e x=>ah X x (tr a t).E
 | .t x=>dZ X x (tr a t).T
 | .a xs=>eI X xs (tr a t).A
 | .i tg x=>iM X tg x (tr a t).I
 | .p x=>qL X x (tr a t).P
 | .s x=>eJ X x (tr a t).S
 | .b xs=>ju X xs (tr a t).S
 | .l xs=>zI X xs (tr a t).L
section
variable {X:Cx}{Γ:G}{t:T}{r:aq}{f:Expr->Bool}{nd:Nd}
theorem pL(e:tr Γ t=ex r)(b:∀x,f x=true->ah X x r)(h:cb nd f=true):Good Γ X t nd:=by
 cases nd<;>first|(cases h;done)|skip
 . show ah X _ (tr Γ t).E;rw[e];exact b _ (i4 h).2
 . rename_i x
   have a:(!BN x&&f x)=true:=h;rw[aU,jb]at a;show dZ X _ (tr Γ t).T;rw[e];exact Z5 (b _ a.2) (V0 a.1)
theorem uG(e:tr Γ t=ex r)(a:∀x,f x=true->ah X x r/\dZ X x (mE r))(h:tq nd f=true):Good Γ X t nd:=by
 cases nd<;>first|(cases h;done)|skip
 . show ah X _ (tr Γ t).E;rw[e];exact(a _ (i4 h).2).1
 . show dZ X _ (tr Γ t).T;rw[e];exact(a _ h).2
theorem ah.imp{e:Expr}{t t':aq}(h:ah X e t)(i:∀a M Q,t' a M Q->t a M Q):ah X e t':=PE.imp h λσ0 H g h=>by
 obtain⟨a,M,Q,hs,d,c,b⟩:=h;exact⟨a,M,Q,hs,d,i _ _ _ c,b⟩
theorem eJ.imp{e:Stmt}{t t':cU}(h:eJ X e t)(i:∀D a M,t' D a M->t D a M):eJ X e t':=PS.imp h λD0 g H h=>by
 obtain⟨a,M,D,hs,d,c,b⟩:=h;exact⟨a,M,D,hs,d,i _ _ _ c,b⟩
theorem A3{e:Expr}:ah X e gB:=λpins s b H c I h=>by
 obtain⟨i,M,Q,hs,g,a,d⟩:=h;exact a.elim
theorem U7{g:Value->Value->Sem Value}:cS X g (λ_ _ _ _=>False):=λpins s l H x y v u d I j k h=>by
 obtain⟨a,b,M,Q,ra,rb,i,c,e⟩:=h;exact c.elim
theorem Yo:∀o:Operator,cS X (binaryOp o) (gg o):=by
 intro o;cases o<;>first|exact P8|exact PY|exact P2|exact P4|exact P7|exact P0|exact U7
theorem rJ(a:X.A.units+64<cLine):∀o:CmpOp,cS X (compareOp o) (ee o):=by
 intro o;cases o<;>first|exact Ou|exact Ot|exact Ol|exact Oj|exact P6 a|exact P1 a|exact Oo|exact Ys|exact Om a|exact Yp a
theorem HJ{o p:CmpOp}{b c:Expr}(h:dm c=true):lastMarks [o,p] [b,c]=false:=mn h
end
section
variable {X:Cx}
theorem qyX:cQ X (.builtin "isinstance") (eO X.K B3):=by
 intro b s k H j us d I g h;obtain⟨rs,M,Q,i,f,c,e⟩:=h;unfold B3 at c;split at c
 . rename_i a
   exact Sl b s k H j us d I g ⟨_,M,Q,i,f,⟨rfl,c⟩,e⟩
 . rename_i x t _
   by_cases l:t= "int"
   . subst l;exact UT b s k H j us d I g ⟨_,M,Q,i,f,⟨rfl,c⟩,e⟩
   by_cases m:t= "bool"
   . subst m;exact Tj b s k H j us d I g ⟨_,M,Q,i,f,⟨rfl,c⟩,e⟩
   by_cases n:t= "str"
   . subst n;exact US b s k H j us d I g ⟨_,M,Q,i,f,⟨rfl,c⟩,e⟩
   by_cases o:t= "tuple"
   . subst o;exact Sk b s k H j us d I g ⟨_,M,Q,i,f,⟨rfl,c⟩,e⟩
   by_cases r:t= "list"
   . subst r;exact Ti b s k H j us d I g ⟨_,M,Q,i,f,⟨rfl,c⟩,e⟩
   . unfold C4 at c
     rw[ae l,ae m,ae n,ae o,ae r]at c;exact c.elim
 . exact c.elim
theorem qyW:cQ X (.builtin "len") (eO X.K BE):=by
 intro b s m H l us f I j h;obtain⟨rs,M,Q,k,i,c,g⟩:=h;unfold BE at c;split at c
 . rename_i a
   split at c
   . rename_i n e
     exact Gy b s m H l us f I j ⟨_,M,Q,k,i,by simp only[yN,e];exact c,g⟩
   . rename_i d e
     exact qyR b s m H l us f I j ⟨_,M,Q,k,i,⟨a,d,rfl,e,c⟩,g⟩
   . rename_i d e
     exact qyQ b s m H l us f I j ⟨_,M,Q,k,i,⟨a,d,rfl,e,c⟩,g⟩
   . exact c.elim
 . exact Gy b s m H l us f I j ⟨_,M,Q,k,i,c,g⟩
theorem YR:bootBuiltins "max" =some (.builtin "max"):=by decide+kernel
theorem Tq:bootBuiltins "sorted" =some (.builtin "sorted"):=by decide+kernel
variable {x:Str}{p pos:Pos}{e:Expr}{es:aS}{t:bD}
theorem qy3(f:X.calm=true)(hx:zO.contains x=true)(d:X.mg x=none)(c:Gl X x)(b:(x==("__debug__":Str))=false)(a:eI X (e::es) t)(h:(e::es).all dm=true):ah X (.Call (.Name x p) (e::es) [] pos) (jK (fv x) t):=by
 rw[d9,aU]at h;have s1:=gz (es:=es) (env:=X.env) h.1;have s2:=q8 (env:=X.env) (p:=pos) h.2;have g:x= "len"∨x= "isinstance"∨x= "all"∨x= "max"∨x= "sorted"∨x= "ord"∨x= "any":=by simpa[zO]using hx
 rcases g with rfl|rfl|rfl|rfl|rfl|rfl|rfl
 . exact pV qyW d YS a c ⋯ b s1 s2
 . exact pV qyX d Rh a c ⋯ b s1 s2
 . exact pV (UY f) d Yx a c ⋯ b s1 s2
 . exact pV (QM f) d YR a c ⋯ b s1 s2
 . exact pV (YM f) d Tq a c ⋯ b s1 s2
 . exact pV QL d YQ a c ⋯ b s1 s2
 . exact pV (UX f) d YT a c ⋯ b s1 s2
theorem YN(h:X.calm=true)(hx:zQ.contains x=true)(d:X.mg x=none)(c:Gl X x)(b:(x==("__debug__":Str))=false)(a:eI X (e::es) t)(g:(e::es).all dm=true):ah X (.Call (.Name x p) (e::es) [] pos) (jK (wu x) t):=by
 rw[d9,aU]at g;have s1:=gz (es:=es) (env:=X.env) g.1;have s2:=q8 (env:=X.env) (p:=pos) g.2;have f:x= "tuple"∨x= "list"∨x= "int":=by simpa[zQ]using hx
 rcases f with rfl|rfl|rfl
 . exact Bj YL d Ji a c ⋯ b s1 s2
 . exact Bj qyP d JZ a c ⋯ b s1 s2
 . exact Bj QN d Kk a c ⋯ b s1 s2
theorem Y7(hx:["int","bool","str","tuple","list"].contains y=true)(b:X.mg (Str.ofString y)=none)(a:Gl X (Str.ofString y)):ah X (.Name (Str.ofString y) pos) (rC (.ty y)):=by
 have c:y= "int"∨y= "bool"∨y= "str"∨y= "tuple"∨y= "list":=by simpa using hx
 rcases c with rfl|rfl|rfl|rfl|rfl
 . exact Wa b a
 . exact Uc b a
 . exact V9 b a
 . exact Si b a
 . exact Ub b a
theorem X7:qS C f Q=(λx M1=>match x with| .ref a=>∃b v,M1 a=some (.ins C b)/\b.lookup f=some v/\Q v M1|_=>False):=by
 funext x M1;cases x with
 |ref a=>
  refine propext ⟨λh=>?_,λ⟨b,v,e1,c,q⟩=>?_⟩
  . unfold qS at h
    simp only at h;split at h
    . rename_i g b e1
      obtain⟨rfl,d⟩:=h;split at d
      . rename_i v c;exact⟨b,v,e1,c,d⟩
      . exact d.elim
    . exact h.elim
  . unfold qS;simp only[e1,c];exact⟨trivial,q⟩
 |_=>rfl
theorem qyD(b:cK X.K C)(d:aW X.K C f)(c:ah X e ta)(a:gG e=false):ah X (.Attribute e f pos) (CF C f ta):=ah.imp (Qw b d c (ml a)) λσ M Q h=>by
 unfold CF at h;rw[X7]at h;exact h
theorem ZQ(i:cK X.K C)(j:aW X.K C f)(g:ah X o ta)(k:ah X value tv)(hs:swapsWith value (some (.Attribute o f pos')) pos.line X.env=pure false):eJ X (.Assign [.Attribute o f pos'] value pos) (CG C f ta tv):=eJ.imp (O7 i j g k hs) λD c M h=>by
 unfold CG at h;have:∀y,qT C f y (D.nx c)=(λx M2=>match x with| .ref a=>∃b,M2 a=some (.ins C b)/\b.length<1000/\D.nx c (put M2 a (.ins C (jL f y b)))|_=>False):=λy=>by
  funext x M1;cases x with
  |ref a=>
   refine propext ⟨λh=>?_,λ⟨b,e1,q⟩=>?_⟩
   . unfold qT at h
     simp only at h;split at h
     . rename_i l b e1
       obtain⟨rfl,d⟩:=h;exact⟨b,e1,d⟩
     . exact h.elim
   . unfold qT;simp only[e1];exact⟨trivial,q⟩
  |_=>rfl
 simp only[this]at h;exact h
theorem Kx{sp:bX}{t:bD}:pf C m sp t σ Q=(λx M1=>match x with| .ref a=>∃b,M1 a=some (.ins C b)/\b.lookup m=none/\t σ M1 λrs M2=>sp (.ref a::rs) M2 Q|_=>False):=by
 funext x M1;cases x with
 |ref a=>
  refine propext ⟨λh=>?_,λ⟨b,e1,c,q⟩=>?_⟩
  . unfold pf at h
    simp only at h;split at h
    . rename_i f b e1
      obtain⟨rfl,d⟩:=h;exact⟨b,e1,d⟩
    . exact h.elim
  . unfold pf;simp only[e1];exact⟨trivial,c,q⟩
 |_=>rfl
theorem Yu{sp:bX}(F:sJ X.prog X.w X.K X.mg X.base C k m ps sp)(c:cK X.K C)(f:aI k X.A)(b:ah X o ta)(a:gG o=false)(d:gU apos pos=true):
 ah X (.Call (.Attribute o m apos) [] [] pos) (qC C m sp ta mK):=ah.imp (VC F c f b (JQ a rfl ⋯ d)) λσ M Q h=>by
 unfold qC at h;rw[Kx]at h;exact h
theorem qyf{sp:bX}(F:sJ X.prog X.w X.K X.mg X.base C k m ps sp)(c:cK X.K C)(l:aI k X.A)(g:ah X o ta)(d:eI X (e::es) t)(f:gG o=false)(a:(e::es).all dm=true)(i:(e::es).length<29)(j:gU apos pos=true):
 ah X (.Call (.Attribute o m apos) (e::es) [] pos) (qC C m sp ta t):=by
 have b:=a;rw[d9,aU]at a;refine ah.imp (Xx F c l g d (gz a.1) (q8 a.2) (JQ f b i j)) λσ M Q h=>?_
 unfold qC at h;rw[Kx]at h;exact h
end
theorem BH{S:SI}{sc:Scope}(h:mt S fc N sc r (.a [])=true):r= .e0:=by
 cases r<;>first|rfl|exact ba h hZ
section
variable {X:Cx}{C:Addr}
theorem VD{x:Str}{p pos:Pos}{sp:bX}(F:zH X.prog X.w X.K X.mg X.base C k ps sp)(z:aI (k+1) X.A)(y:X.mg x=some (.ref C))(u:Gl X x)(f:(x==("__debug__":Str))=false):ah X (.Call (.Name x p) [] [] pos) (rN C sp mK):=by
 obtain⟨g,J,s,t,F⟩:=F.ex;refine PE.imp (TZ s F z u y t .nil p9 f) λσ0 H I h=>?_
 obtain⟨L,M,Q,hs,j,A,w⟩:=h;refine λa b l m D=>?_
 have d:Ext H (upd H b (.own a)):=Ext.new m;have c:(upd H b (.own a)) a=none:=by rw[aD (bZ D)];exact l
 have e:Ext H (upd (upd H b (.own a)) a (.ins C b [])):=d.trans (Ext.new c);refine⟨[.ref a],put M a (.ins C []),_,aa.cons (by simp only[Rep]) aa.nil,(j.new m).cq c ⟨b,[],rfl,rfl⟩,A a (j.free l),λrv M2 v o i r E n=>?_⟩
 obtain⟨rfl,i⟩:=i;simp only[Rep]at n;exact⟨n,w _ M2 _ o i (e.trans r) E (by simp only[Rep])⟩
theorem Lx:∀(l:List (Str×Int)) (ks:List (Option Expr)) (vs:aS),vE l ks vs=true->oo X pos ks vs (uB (mZ l))/\ks.all (·.isSome)=true/\ks.length=vs.length/\ks.length=l.length
 | [],ks,vs,h=>by
  cases ks<;>cases vs<;>first|(exact⟨VS,rfl,rfl,rfl⟩)|(simp[vE]at h)
 |(x,n)::l,ks,vs,h=>by
  unfold vE at h;split at h
  . rename_i e1;cases e1
  . rename_i r k i y j p e m g o f e1
    cases e1;simp only[aU,eX]at h;obtain⟨⟨rfl,rfl⟩,h⟩:=h;obtain⟨a,b,c,d⟩:=Lx (pos:=pos) l e f h;refine⟨TU K9 Lb a,by rw[d9,b];rfl,by rw[bG,bG,c],by rw[bG,bG,d]⟩
  . cases h
theorem gm{sc:Scope}{x:Str}(h:fW sc x=true):sc.names.lookup x=some .globalImplicit/\(x==("__debug__":Str))=false:=by
 unfold fW at h;rw[aU,eX,jb]at h;exact h
theorem YG{x:Str}(h:iQ x=true):(x==("__debug__":Str))=false/\(x==("__classdict__":Str))=false:=by
 unfold iQ at h
 rwa [aU,jb,jb]at h
theorem AF{tg e:Expr}{l:Nat}{env:Env}(h:dm e=true)(a:jI e=false):swapsWithSole [tg] e l env=pure false:=q9 h a
theorem mem_of[BEq α][LawfulBEq α]{a:α}{l:List α}(h:l.contains a=true):a∈l:=by simpa using h
theorem W0{o i:Expr}{p:Pos}(h:dm i=true):∀v,assign (.Subscript o i p) X.env v=(do
 let a<-holding [v] (eval o X.env)
 let iv<-holding [v,a] (eval i X.env)
 standAt p
 holding [v,a,iv] (setItem a iv v)
 release [v,a,iv] []):=by intro v;cases i<;>first|rfl|cases h
theorem Kc{K:ag}(h:up K (rU neg ss ta) σ0 H Q0):sj (sv K (yO K neg)) (up K ta) (up K (Nh K ss)) σ0 H Q0:=by
 obtain⟨σ,M,Q,hs,hv,ht,hk⟩:=h;refine⟨σ,M,_,hs,hv,ht,λrx M1 x H1 q e1 v1 r1=>?_⟩
 refine⟨σ,M1,λy M2=>∃p,y= .ref p/\vJ K p ss/\M2=M1,hs.ext e1,v1,λp hp=>⟨p,rfl,hp,rfl⟩,λry M2 y H2 q2 e2 v2 r2=>?_⟩
 obtain⟨p,rfl,hp,rfl⟩:=q2;exact⟨rx,.ref p,_,Q,Rep.ext e2 _ _ r1,r2,v2,⟨ss,hp,q.1,q.2⟩,hk.ext (e1.trans e2)⟩
theorem KI{op:CmpOp}{a:Expr}{x:Str}{p pos:Pos}(e:cS X (compareOp op) (yO X.K neg))(h:rZ X.K X.mg x ss)(b:ah X a ta)(d:Gl X x)(c:(x==("__debug__":Str))=false):ah X (.Compare a [op] [.Name x p] pos) (rU neg ss ta)/\dZ X (.Compare a [op] [.Name x p] pos) (mE (rU neg ss ta)):=
 ⟨PE.imp (JM e b (Nu h d c) (mn rfl)) λ_ _ _ h=>Kc h,PT.imp (JX e b (Nu h d c) (mn rfl)) λσ0 H k h=>by
  obtain⟨j,M,Q,hs,i,g,f⟩:=h;exact Kc ⟨j,M,_,hs,i,g,pN f⟩⟩
theorem LY{o e:Expr}{ap p:Pos}(h0:gG o=false)(b:gU ap p=true)(a:dm e=true):M1 X o m ap e p where
 base:=ml h0
 qR:=by rw[uK (by rw[d9,a];rfl)];rfl
 line:=b
 trees:=back_eq (by rw[d9,a];rfl)
end
section
variable {X:Cx}{Γ:G}{k:Nat}{fc:Bool}{N:aA}{sc:Scope}
theorem fB.var(O:fB Γ k fc N sc X){i:Nat}{x:Str}(h:N[i]? =some x):ah X (.Name x pos) (qe i):=by
 have m:=O.zp x (i9 h);have d:=YG m.2;exact rv i (by rw[O.hN];exact h) m.1 d.1 d.2
theorem fB.qA(O:fB Γ k true N sc X){i:Nat}{x:Str}{e:Expr}{pos a:Pos}(h:N[i]? =some x)(c:ah X e te)(hs:swapsWith e (some (.Name x a)) pos.line X.env=pure false):eJ X (.Assign [.Name x a] e pos) (vB i te):=by
 obtain⟨b,g,f,d,_⟩:=O.fn rfl;exact sset i c (by rw[O.hN];exact g) (by rw[O.hN];exact h) (by rw[b];exact f x (i9 h)) hs (.inl (d x))
theorem fB.gN(O:fB Γ k true N sc X){i:Nat}{x:Str}(h:N[i]? =some x):jZ X (.Name x pos) (i7 i):=by
 obtain⟨a,d,c,b,_⟩:=O.fn rfl;exact qyw i (by rw[O.hN];exact d) (by rw[O.hN];exact h) (by rw[a];exact c x (i9 h)) (.inl (b x))
theorem Ap(O:fB Γ k true N sc X):∀(is:List Nat) (es:aS),gC N is es=true->m6 X es (jP is)/\(assignEach es X.env).length=is.length/\(assignEach es X.env).findIdx? (·.1)=none
 | [],[],_=>⟨A0,rfl,rfl⟩
 | [],_::_,h=>by simp[gC]at h
 |i::is,[],h=>by simp[gC]at h
 |i::is,e::es,h=>by
  cases e<;>first|(simp[gC]at h;done)|skip
  rename_i x p;simp only[gC,aU,eX]at h;obtain⟨d,l,j,g,_⟩:=O.fn rfl;obtain⟨a,b,c⟩:=Ap O is es h.2;have f:(assignEach (.Name x p::es) X.env)=(false,assign (.Name x p) X.env)::assignEach es X.env:=rfl;refine⟨xP (uQ (i:=i) (by rw[O.hN];exact l) (by rw[O.hN];exact h.1) (by rw[d];exact j x (i9 h.1)) (.inl (g x))) a,by rw[f,bG,b];rfl,by rw[f,List.findIdx?_cons,c];rfl⟩
theorem gT(O:fB Γ k true N sc X){is:List Nat}(h:gC N is es=true):jZ X (.Tuple es j pos) (vM is):=by
 obtain⟨a,b,c⟩:=Ap O is es h;exact Pz O.calm a rfl b c
theorem NX(O:fB Γ k true N sc X){x:Expr}{p1 l:Pos}(d:gC N [i1] [x]=true)(f:gC N [i2,i3] es=true):jZ X (.Tuple [x,.Tuple es j2 l] j1 p1) (vC i1 i2 i3):=by
 obtain⟨a,b,c⟩:=Ap O [i2,i3] es f;cases x<;>first|(simp[gC]at d;done)|skip
 rename_i y p;simp only[gC,aU,eX]at d;obtain⟨e,j,h,g,_⟩:=O.fn rfl;exact qyv O.calm (uQ (i:=i1) (by rw[O.hN];exact j) (by rw[O.hN];exact d.1) (by rw[e];exact h y (i9 d.1)) (.inl (g y))) a b c rfl rfl
theorem xZ{nm:aA}{s:Shared}(O:fB Γ k fc N sc X)(hs:rT N sc scope nm cap=true):
 fB Γ k false (nm++cap.map Prod.snd) scope (c0 X scope cl C (nm++cap.map Prod.snd) s H fp):=by
 unfold rT at hs;simp only[aU,ff,eX]at hs;obtain⟨⟨⟨⟨⟨⟨⟨a,_⟩,_⟩,_⟩,_⟩,c⟩,_⟩,b⟩:=hs;refine⟨rfl,λx hx=>⟨?_,b x hx⟩,λx h=>NY h,O.calm,O.room,(λh=>by cases h),λh=>by cases h⟩
 rcases dW.mp hx with hx|hx
 . exact .inl (lookup_relabel_local (c x hx))
 . obtain⟨p,d,rfl⟩:=aV.mp hx
   exact .inr (HA (a p d).1.2)
theorem Mp{x:Str}(h:cf sc x=true):sc.names.lookup x=some .cell∨sc.names.lookup x=some .free:=by
 unfold cf at h
 rwa [sC,eX,eX]at h
theorem Lu{tup:Bool}{tg:Expr}{nm:aA}(h:yq tup tg nm=true):vw tup tg nm:=by
 unfold yq at h;unfold vw;split at h
 . simpa using h
 . simpa using h
 . cases h
structure BA(X:Cx)(N:aA)(sc scope:Scope)(nm:aA)(cap:List (Nat×Str)):Prop where
 fw:∀p∈cap,N[p.1]? =some p.2/\scope.names.lookup p.2=some .free/\(sc.names.lookup p.2=some .cell∨sc.names.lookup p.2=some .free)
 eL:∀y∈scope.names,y.2= .free->(sc.names.lookup y.1=some .cell∨sc.names.lookup y.1=some .free)
 bB:∀y∈scope.names,y.2≠.cell
 bF:scope.kind= .function
 ck:∀y∈scope.names,y.2= .local->scope.names.lookup y.1=some .local
 hx:∀x∈nm,scope.names.lookup x=some .local
 jH:(nm++cap.map Prod.snd).Nodup
theorem IJ{nm:aA}(hs:rT N sc scope nm cap=true):BA X N sc scope nm cap:=by
 unfold rT at hs;simp only[aU,ff,eX,gK]at hs;obtain⟨⟨⟨⟨⟨⟨⟨a,i⟩,f⟩,g⟩,h⟩,c⟩,l⟩,j⟩:=hs;refine⟨λp d=>⟨(a p d).1.1,(a p d).1.2,Mp (a p d).2⟩,λy b e=>?_,λy b e=>?_,g,λy b e=>?_,c,l⟩
 . have:=i y b
   rw[e]at this;exact Mp (by simpa using this)
 . have:=f y b
   rw[e]at this;simp at this
 . have:=h y b
   rw[e]at this;simpa using this
end
section
variable {Γ:G}{k:Nat}{X:Cx}{fc:Bool}{N:aA}{sc:Scope}
theorem YX{p:Pos}{x:Str}{l:Nat}(O:fB Γ k true N sc X)(h:sc.names.lookup x=some .cell):swapsWith (.ListComp el gs scope p) (some (.Name x px)) l X.env=pure false:=by
 obtain⟨_,_,_,_,_,b,a⟩:=O.fn rfl;show(pure (X.env.blockKind== .function&&X.env.kindOf x==some .local&&px.line==p.line&& !(scope.names.any λ(n,k)=>n==x&&(k== .local||k== .cell))):Sem Bool)=_
 rw[a,h,show((some NameKind.cell:Option NameKind)==some .local)=false from by decide]
 simp
theorem YW{scope:Scope}{p:Pos}{x:Str}{a:Pos}{l:Nat}(O:fB Γ k true N sc X)(h:sc.names.lookup x=some .local)(e:a.line=p.line)(b:(scope.names.any λy=>y.1==x&&(y.2== .local||y.2== .cell))=false):swapsWith (.ListComp el gs scope p) (some (.Name x a)) l X.env=pure true:=by
 obtain⟨_,_,_,_,_,c,d⟩:=O.fn rfl;show(pure (X.env.blockKind== .function&&X.env.kindOf x==some .local&&a.line==p.line&& !(scope.names.any λ(n,k)=>n==x&&(k== .local||k== .cell))):Sem Bool)=_
 rw[d,h,c,e];have:(scope.names.any λ(n,k)=>n==x&&(k== .local||k== .cell))=false:=b
 rw[this];simp
theorem Xq{f d tg:Expr}{nm:aA}{tup md:Bool}{pos iE:Pos}(O:fB Γ k true N sc X)(i)(c:BA X N sc scope nm cap)(U:vw tup tg nm)(hi:iM X tg d ti)
 (L:∀x C s H A,qy (c0 X scope x C (nm++cap.map Prod.snd) s H A) ifs tt) (F:∀x C s H A,ah (c0 X scope x C (nm++cap.map Prod.snd) s H A) f te) (hs:∀v,foldedSetIterable d X.env v=pure v) (l:N[i]? =some y)
 (R:swapsWith (.ListComp f [⟨tg,d,ifs,0⟩] scope pos) (some (.Name y py)) iE.line X.env=pure true):
 eJ X (.Assign [.Name y py] (.ListComp f [⟨tg,d,ifs,0⟩] scope pos) iE) (vB i (rF (gv tup nm.length) md ti (cap.map Prod.fst) tt te)):=by
 obtain⟨m,nd,hl,hf,_⟩:=O.fn rfl;intro g s u H D0 I h;obtain⟨σ,M,D,n,hv,ht,hd⟩:=h;rw[exec_Assign_Name_used _ _ _ _ R];refine aj (wpAny_standAt (aj ?_));show wpAny _ _ (do let _<-comprehension (.ListComp f [⟨tg,d,ifs,0⟩] scope pos) scope X.env _ (newList []) false (eval d X.env) (some (assign (.Name y py) X.env))) _ _ s
 refine aj (gx (Jg (PP:=λ_ s'=>∃t w,Inv X g t w s'/\D0.nx t w) cap U O.calm hi L F m O.hN c.fw c.eL c.bB c.bF c.ck c.hx c.jH hs I (Q0:=λv w=>D0.nx (u.set i (some v)) w) ⟨σ,M,_,n,hv,ht,λrx M1 v H1 q e1 v1 r1=>hd.nx _ M1 _ H1 q e1 v1 ((n.ext e1).set r1 i)⟩ ?_) (λ_ s' hq=>aH (aH hq)) λ_ _ e=>e)
 intro D C s5 m5 H5 hn W q hC hL hS j Q;have J:Inv X g u H5 s5:=W s5.heap (Heap.SameBut.refl ..);refine wpAny_assign_Name (Iw J (by rw[O.hN];exact nd) (by rw[O.hN];exact l) (by rw[m];exact hl y (i9 l)) (v:=.ref D) rfl (λs6 I6 Y=>?_) (.inl (hf y)))
 obtain⟨a,Y,ha⟩:=Y;have E:C≠a:=by
  rcases ha with rfl|e
  . exact hL
  . exactλz=>j y a e z.symm
 obtain⟨o,es,ep,ho,r⟩:=hn;refine⟨m5,⟨o,es,ep,Y.extBut _ _ E ho,r⟩,λh' Z=>⟨_,H5,Inv.turned (t':=s6.toks) (it:=C) I6 (λb o hb e=>Z.extBut b o hb e) hC hL (.inr hS) j Q,q⟩⟩
theorem XE{elt iter tg:Expr}{nm:aA}{tup md:Bool}(O:fB Γ k true N sc X)(c:BA X N sc scope nm cap)(htg:vw tup tg nm)(hi:iM X tg iter ti)
 (hif:∀cl C s H fp,qy (c0 X scope cl C (nm++cap.map Prod.snd) s H fp) ifs tt) (hel:∀cl C s H fp,ah (c0 X scope cl C (nm++cap.map Prod.snd) s H fp) elt te) (hs:∀v,foldedSetIterable iter X.env v=pure v):
 ah X (.ListComp elt [⟨tg,iter,ifs,0⟩] scope pos) (rF (gv tup nm.length) md ti (cap.map Prod.fst) tt te):=by
 obtain⟨hsc,nd,hl,hf,_⟩:=O.fn rfl;intro pins s σ0 H Q0 I hw;rw[eval_ListComp];exact Jg cap htg O.calm hi hif hel hsc O.hN c.fw c.eL c.bB c.bF c.ck c.hx c.jH hs I hw (use:=none) λD C s5 m5 H5 hn inv q hC hL hS hce hpi=>⟨m5,hn,λh' sb=>⟨.ref D,H5,inv h' sb,rfl,q⟩⟩
end
section
variable {X:Cx}{Γ:G}{t:T}{nd:Nd}
theorem Ju{op:BoolOp}{vs:aS}{p:Pos}{t:c7}(h:dZ X (.BoolOp op vs p) t):m7 X (.BoolOp op vs p) t:=λwhole a s b H Q I w=>h a s b H Q I w
theorem yi{f g:Expr->Bool}(a:∀x,f x=true->ah X x (tr Γ t).E)(b:∀x,g x=true->dZ X x (tr Γ t).T)(h:tw nd f g=true):Good Γ X t nd:=by
 cases nd<;>first|(cases h;done)|exact b _ h|exact a _ (i4 h).2
theorem XW(a:∀x,f x=true->eJ X x (tr Γ t).S)(h:fX nd f=true):Good Γ X t nd:=by
 cases nd<;>first|(cases h;done)|exact a _ h
theorem KO(a:∀x,f .a x=true->eI X x (tr Γ t).A)(b:∀x,f .l x=true->zI X x (tr Γ t).L)(h:Ad nd f=true):Good Γ X t nd:=by
 cases nd<;>first|(cases h;done)|exact a _ h|exact b _ h
theorem uS(a:∀tg x,f tg x=true->iM X tg x (tr Γ t).I)(h:qV nd f=true):Good Γ X t nd:=by
 cases nd<;>first|(cases h;done)|exact a _ _ h
theorem KL(a:∀x,f x=true->qL X x (tr Γ t).P)(h:Af nd f=true):Good Γ X t nd:=by
 cases nd<;>first|(cases h;done)|exact a _ h
theorem KN(a:∀x,f x=true->ju X x (tr Γ t).S)(h:Ae nd f=true):Good Γ X t nd:=by
 cases nd<;>first|(cases h;done)|exact a _ h
theorem O6{st:Stmt}:eJ X st (λ_ _ _=>False):=λpins s b H c I h=>by
 obtain⟨f,M,D,hs,e,a,d⟩:=h;exact a.elim
theorem Y2{st:List Stmt}:ju X st (λ_ _ _=>False):=λpins s b H c I h=>by
 obtain⟨f,M,D,hs,e,a,d⟩:=h;exact a.elim
end
theorem YY{x y:Str}{c d pt b:Pos}{kt j:Nat}{u v:Expr}{env:Env}(e:env.blockKind= .function)(hx:env.kindOf x=some .local)(i:env.kindOf y=some .local)(h:d.line=c.line)(k:¬y=x)(a:[u,v].all dm=true)(g:[u,v].all (foldedForSure 8)=false)(f:[u,v].all (constantsAlone 8)=false):
 swappedStores [.Tuple [.Name x c,.Name y d] kt pt] (.Tuple [u,v] j b) env=pure (some [x,y]):=by
 unfold swappedStores;have en:([x,y]:aA).eraseDups.length=2:=by
  have:(y==x)=false:=by simpa using k
  simp[List.eraseDups_cons,this]
 simp only[d9,List.all_nil,Bool.and_true,aU]at a;simp[e,hx,i,h,g,f,en,show ∀x p,(Expr.Name x p).pos=p fromλ_ _=>rfl]
 rintro (z|z)
 . split at z
   . cases a.1
   . cases z
 . split at z
   . cases a.2
   . cases z
theorem qy7{v:Str}(h:B8 ps v=true):∃an p,ps=⟨[],[⟨v,an,p⟩],none,[],[],none,[]⟩:=by
 unfold B8 at h;simp only[aU,List.isEmpty_iff,Option.isNone_iff_eq_none]at h;obtain⟨⟨⟨⟨⟨⟨i,j⟩,k⟩,l⟩,m⟩,n⟩,o⟩:=h;obtain⟨a,b,c,d,e,f,g⟩:=ps;cases i;cases j;cases k;cases l;cases m;cases n;refine fQ (C:=λb=>∃an p,(⟨[],b,none,[],[],none,[]⟩:Arguments)=⟨[],[⟨v,an,p⟩],none,[],[],none,[]⟩) o λy r=>?_
 obtain⟨u,s,t⟩:=y;obtain rfl:=gd r;exact⟨s,t,rfl⟩
theorem qyO{sc:Scope}{env:Env}(h:∀y∈sc.names,y.2≠.free):closureFor sc env=pure []:=by
 unfold closureFor;have:∀(l:List (Str×NameKind)) (cs:List (Str×Addr)),(∀y∈l,y.2≠.free)->(forIn l cs λx r=>do
  let(name,kind):=x
  if(kind== .free)=true then do
   let y<-cellOf env name
   pure (ForInStep.yield ((name,y)::r))
  else pure (ForInStep.yield r):Sem (List (Str×Addr)))=pure cs:=by
  intro l
  induction l with
  |nil=>intro cs _;rfl
  |cons y l ih=>
   intro cs a;rw[sA];have:(y.2==NameKind.free)=false:=by simpa using a y ia
   simp only[this,jA,if_false,pure_bind];exact ih cs λz b=>a z (gw _ b)
 have e:=this sc.names [] h;simp only[]at e ⊢
 first
  |(rw[e];rfl)
  |(simp only[bind_pure];exact e)
theorem bind1{v:Str}{an:Option Expr}{p:Pos}{sc:Scope}(name qual)(body)(pm cd ct u):bindArgs (PySem.W.kla_fn name qual ⟨[],[⟨v,an,p⟩],none,[],[],none,[]⟩ body sc [] pm cd ct) ⟨[u],[]⟩=pure [(v,u)]:=by
 have e:([(v,u)]:List (Str×Value)).lookup v=some u:=by simp
 unfold bindArgs;simp[seqItems?,PySem.W.kla_fn,e];rfl
theorem Ez{v:Str}{an:Option Expr}{p:Pos}{sc:Scope}(h:Ca v sc=true):yy v ⟨[],[⟨v,an,p⟩],none,[],[],none,[]⟩ sc/\∀env:Env,closureFor sc env=pure []:=by
 unfold Ca iQ at h;simp only[aU,ff,eX,bne_iff_ne,jb]at h;obtain⟨⟨⟨⟨⟨c,b⟩,d⟩,e⟩,f⟩,g,i⟩:=h;exact⟨⟨bind1,c,λy a=>(b y a).1,d,e,f,g⟩,λ_=>qyO λy a=>(b y a).2⟩
theorem Ib{sc:Scope}{t:T}(O:fB Γ k false N sc X)(W:Wd X.prog X.w X.K X.mg X.base Γ k)
 (e:∀{a:Bool} {N:aA} {sc:Scope} {X:Cx},fB Γ k a N sc X->Wd X.prog X.w X.K X.mg X.base Γ k->∀{d},mt Γ.S a N sc t d=true->Good Γ X t d)
 (h:(match ifs with| []=>BM t| [c]=>mt Γ.S false N sc t (.t c)|_=>false)=true):qy X ifs (tr Γ t).T:=by
 split at h
 . revert h
   exactλh=>di h λi=>T.b.elim t i λb h=>by cases b<;>first|exact OK|cases h
 . exact OJ (e O W h)
 . cases h
set_option hygiene false in
local macro_rules
 | `(tactic|walk_at "g0")=>`(tactic|(intro fc N sc X O W nd h))
 | `(tactic|walk_at "gE")=>`(tactic|(walk_at "g0";refine pL rfl (fun x hx=>?_) h))
 | `(tactic|walk_at "gS")=>`(tactic|(walk_at "g0";refine XW (fun x hx=>?_) h))
 | `(tactic|walk_at "ga")=>`(tactic|simp only[aU,eX]at hx)
theorem sound:∀(t:T) {fc:Bool} {N:aA} {sc:Scope} {X:Cx},fB Γ k fc N sc X->Wd X.prog X.w X.K X.mg X.base Γ k->∀{nd},mt Γ.S fc N sc t nd=true->Good Γ X t nd:=by
 intro t
 induction t with
 |v i=>
  walk_at "gE";refine gu hx λ_ _ hx=>?_
  exact O.var (by simpa using hx)
 |i n=>
  walk_at "gE";refine yB hx λm _ _ hx=>?_
  obtain rfl:=gd hx;exact ri
 |s n=>
  walk_at "gE";refine yB hx λm _ _ hx=>?_
  obtain rfl:=gd hx;exact rs
 |b n=>
  walk_at "gE";refine yB hx λm _ _ hx=>?_
  obtain rfl:=gd hx;exact rb
 |n=>
  walk_at "gE";refine yB hx λ_ _ _ hx=>?_
  obtain rfl:=gd hx;exact rn
 |g x0=>
  walk_at "gE";refine gu hx λ_ _ hx=>?_
  walk_at "ga";obtain⟨⟨rfl,h1⟩,h2⟩:=hx;obtain⟨h2,h3⟩:=gm h2;obtain⟨i,hi⟩:=zB.mp h1;rw[hi];exact rgi (W.gi _ _ hi) (O.gl _ h2) h3
 |ty x0=>
  walk_at "gE";refine gu hx λ_ _ hx=>?_
  walk_at "ga";obtain⟨⟨⟨rfl,h1⟩,h2⟩,h3⟩:=hx;exact Y7 h1 (W.bl _ (mem_of h2)) (O.gl _ (gm h3).1)
 |op o a b iha ihb=>
  walk_at "gE";refine qyM hx λ_ _ _ _ hx=>?_
  walk_at "ga";obtain⟨⟨rfl,h1⟩,h2⟩:=hx;exact rop (Yo o) (iha O W h1) (ihb O W h2)
 |cm o a b iha ihb=>
  walk_at "g0";refine uG rfl (λx hx=>?_) h
  refine uU hx λ_ _ _ _ hx=>?_
  walk_at "ga";obtain⟨⟨rfl,h1⟩,h2⟩:=hx;exact⟨Qx (rJ O.room.units o) (iha O W h1) (ihb O W h2) (mn (c9 h2)),Z7 (rJ O.room.units o) (iha O W h1) (ihb O W h2) (mn (c9 h2))⟩
 |ch o p a b c iha ihb ihc=>
  walk_at "g0";refine uG rfl (λx hx=>?_) h
  refine Mo hx λ_ z1 z2 _ hx=>?_
  refine p5 hx λ_ _ hx=>?_
  refine p5 hx λ_ _ hx=>?_
  walk_at "ga";obtain⟨⟨⟨⟨rfl,rfl⟩,h1⟩,h2⟩,h3⟩:=hx;exact⟨XF (rJ O.room.units _) (rJ O.room.units _) (iha O W h1) (ihb O W h2) (ihc O W h3) (HJ (c9 h3)),Wb (rJ O.room.units _) (rJ O.room.units _) (iha O W h1) (ihb O W h2) (ihc O W h3) (HJ (c9 h3))⟩
 |an a b iha ihb=>
  walk_at "g0";refine yi (λx hx=>?_) (λx hx=>?_) h
  . refine yA hx λz1 z2 p hx=>?_
    refine pW hx λhx=>?_
    refine iB hx λx z3 hx=>?_
    refine iB hx λy r hx=>?_
    simp only[aU]at hx;have h1:=iha O W hx.1;have h2:=ihb O W hx.2;cases r with
    |nil=>exact LO h1 (EF (h2:ah X y _))
    |cons z r=>exact LO h1 h2
  . refine yA hx λz1 z2 p hx=>?_
    refine pW hx λhx=>?_
    refine iB hx λx z3 hx=>?_
    refine iB hx λy r hx=>?_
    simp only[aU]at hx;have h1:=iha O W hx.1;have h2:=ihb O W hx.2;cases r with
    |nil=>exact zl (rand h1 (ZA (h2:dZ X y _)))
    |cons z r=>exact zl (rand h1 (Ju h2))
 |or a b iha ihb=>
  walk_at "g0";refine yi (λx hx=>?_) (λx hx=>?_) h
  . refine yA hx λz1 z2 p hx=>?_
    refine pW hx λhx=>?_
    refine iB hx λx z3 hx=>?_
    refine iB hx λy r hx=>?_
    simp only[aU]at hx;have h1:=iha O W hx.1;have h2:=ihb O W hx.2;cases r with
    |nil=>exact EE h1 (EF (h2:ah X y _))
    |cons z r=>exact EE h1 h2
  . refine yA hx λz1 z2 p hx=>?_
    refine pW hx λhx=>?_
    refine iB hx λx z3 hx=>?_
    refine iB hx λy r hx=>?_
    simp only[aU]at hx;have h1:=iha O W hx.1;have h2:=ihb O W hx.2;cases r with
    |nil=>exact zl (Nw h1 (Qs (h2:dZ X y _)))
    |cons z r=>exact zl (Nw h1 (Ju h2))
 |no a iha=>
  walk_at "g0";refine yi (λx hx=>?_) (λx hx=>?_) h
  . refine Ml hx λz1 _ _ hx=>?_
    refine pW hx λhx=>?_
    exact Z9 (iha O W hx)
  . refine Ml hx λz1 _ _ hx=>?_
    refine pW hx λhx=>?_
    exact Z6 (iha O W hx)
 |ie t a b iht iha ihb=>
  walk_at "gE";refine qyL hx λ_ _ _ _ hx=>?_
  walk_at "ga";obtain⟨⟨h1,h2⟩,h3⟩:=hx;exact rif (iht O W h1) (iha O W h2) (ihb O W h3)
 |tu a iha=>
  walk_at "gE";refine qb hx λ_ _ _ hx=>?_
  exact Qp (iha O W hx)
 |ll a iha=>
  walk_at "gE";refine Mm hx λ_ _ hx=>?_
  exact Qu (iha O W hx)
 |lm a iha=>
  walk_at "gE";refine Mm hx λ_ _ hx=>?_
  exact Qt (iha O W hx)
 |e0=>
  walk_at "g0";refine KO (λx hx=>?_) (λx hx=>?_) h
  . refine gH hx λ_=>?_
    exact B9
  . refine gH hx λ_=>?_
    rfl
 |ec a r iha ihr=>
  walk_at "g0";refine KO (λx hx=>?_) (λx hx=>?_) h
  . refine iB hx λ_ _ hx=>?_
    have hx:=i4 hx;exact yt (iha O W hx.1) (ihr O W hx.2) (gz (c9 hx.1))
  . refine iB hx λ_ _ hx=>?_
    have hx:=i4 hx;exact⟨_,_,rfl,iha O W hx.1,ihr O W hx.2⟩
 |ix a b iha ihb=>
  walk_at "gE";refine nM hx λ_ _ _ hx=>?_
  walk_at "ga";obtain⟨h1,h2⟩:=hx;exact rix (iha O W h1) (ihb O W h2) (yc (c9 h2))
 |sl a l h0 iha ihl ihh=>
  walk_at "gE";refine nM hx λ_ z1 _ hx=>?_
  refine qyJ hx λ_ _ z2 _ hx=>?_
  refine BQ hx λhx=>?_
  walk_at "ga";obtain⟨⟨h1,h2⟩,h3⟩:=hx;exact rsl (iha O W h1) (ihl O W h2) (ihh O W h3)
 |p0=>
  walk_at "g0";refine KL (λx hx=>?_) h
  refine BQ hx λhx=>?_
  exact ZM
 |p1 a iha=>
  walk_at "g0";refine KL (λx hx=>?_) h
  refine LW hx λ_ hx=>?_
  exact ZI (iha O W hx)
 |fl c f a iha=>
  walk_at "gE";refine vm hx λ_ _ _ hx=>?_
  walk_at "ga";obtain⟨⟨⟨rfl,h1⟩,h2⟩,h3⟩:=hx;exact qyD (W.fs _ _ (mem_of h1)).1 (W.fs _ _ (mem_of h1)).2 (iha O W h3) (by simpa using h2)
 |ca f a iha=>
  walk_at "gE";refine mq hx λx p es p' hx=>?_
  simp only[aU]at hx;obtain⟨⟨h1,h2⟩,h3⟩:=hx;cases e:Γ.S.fd[f]? with
  |none=>rw[e]at h1;cases h1
  |some d=>
  rw[e]at h1;simp only[aU,eX]at h1;obtain⟨h1,rfl⟩:=h1;obtain⟨h2,h4⟩:=gm h2;cases es with
  |nil=>
   have:=BH h3;subst this;exact VF (W.fn f d e h1) O.room (O.gl _ h2) h4
  |cons z es=>
   have ho:=gA h3;rw[d9,aU]at ho;exact XH (W.fn f d e h1) O.room (iha O W h3) (O.gl _ h2) h4 (gz ho.1) (q8 ho.2)
 |me f o a iho iha=>
  walk_at "g0";cases ef:Γ.S.fd[f]? with
  |none=>
   refine pL (r:=gB) (by show ex _=_;rw[ef]) (λx hx=>A3) h
  |some d=>
   refine pL (r:=qC (Γ.C d.cls) d.name (Γ.fn f) (tr Γ o).E (tr Γ a).A) (by show ex _=_;rw[ef]) (λx hx=>?_) h
   refine mw hx λx m ap es p hx=>?_
   rw[ef]at hx;simp only[aU,eX,gK]at hx;obtain⟨⟨⟨⟨⟨⟨h1,rfl⟩,h2⟩,h3⟩,h4⟩,h5⟩,h6⟩:=hx;have W1:=W.me f d ef h1;cases es with
   |nil=>
    have:=BH h6;subst this;exact Yu W1.2 W1.1 O.room (iho O W h5) (by simpa using h2) h3
   |cons z es=>exact qyf W1.2 W1.1 O.room (iho O W h5) (iha O W h6) (by simpa using h2) (gA h6) h4 h3
 |mk f a iha=>
  walk_at "g0";cases ef:Γ.S.fd[f]? with
  |none=>
   refine pL (r:=gB) (by show ex _=_;rw[ef]) (λx hx=>A3) h
  |some d=>
   refine pL (r:=rN (Γ.C d.cls) (Γ.lW f) (tr Γ a).A) (by show ex _=_;rw[ef]) (λx hx=>?_) h
   refine mq hx λx p es p' hx=>?_
   rw[ef]at hx;walk_at "ga";obtain⟨⟨⟨h1,h1'⟩,h2⟩,h3⟩:=hx;obtain⟨h2,h4⟩:=gm h2;obtain⟨j,hj,F⟩:=W.lW f d ef h1;have C1:=W.cl _ _ h1';cases es with
   |nil=>
    have:=BH h3;subst this;exact VD F (O.room.mono hj) C1.2 (O.gl _ h2) h4
   |cons z es=>
    have ho:=gA h3;rw[d9,aU]at ho;exact Xz F (O.room.mono hj) C1.2 (iha O W h3) (O.gl _ h2) h4 (gz ho.1) (q8 ho.2)
 |bf f a iha=>
  walk_at "gE";refine mq hx λx p es p' hx=>?_
  walk_at "ga";obtain⟨⟨⟨⟨⟨rfl,h1⟩,h2⟩,h3⟩,h4⟩,h5⟩:=hx;obtain⟨h3,h6⟩:=gm h3;cases es with
  |nil=>cases h4
  |cons z es=>exact qy3 O.calm h1 (W.bl _ (mem_of h2)) (O.gl _ h3) h6 (iha O W h5) (gA h5)
 |bt f a iha=>
  walk_at "gE";refine mq hx λx p es p' hx=>?_
  walk_at "ga";obtain⟨⟨⟨⟨⟨rfl,h1⟩,h2⟩,h3⟩,h4⟩,h5⟩:=hx;obtain⟨h3,h6⟩:=gm h3;cases es with
  |nil=>cases h4
  |cons z es=>exact YN O.calm h1 (W.bl _ (mem_of h2)) (O.gl _ h3) h6 (iha O W h5) (gA h5)
 |ap o a iho iha=>
  walk_at "gE";refine mw hx λ_ _ _ z1 _ hx=>?_
  refine fQ hx λ_ hx=>?_
  walk_at "ga";obtain⟨⟨⟨⟨rfl,h1⟩,h2⟩,h3⟩,h4⟩:=hx;exact VG (iho O W h3) (iha O W h4) (ml (by simpa using h1)) (by rw[uK (gA h4)];rfl) h2 (gz (by have:=gA h4;rw[d9,aU]at this;exact this.1)) rfl
 |po o a iho iha=>
  walk_at "gE";refine mw hx λ_ _ _ z1 _ hx=>?_
  refine fQ hx λ_ hx=>?_
  walk_at "ga";obtain⟨⟨⟨⟨rfl,h1⟩,h2⟩,h3⟩,h4⟩:=hx;exact Z8 (iho O W h3) (iha O W h4) (ml (by simpa using h1)) (by rw[uK (gA h4)];rfl) h2 (gz (by have:=gA h4;rw[d9,aU]at this;exact this.1)) rfl
 |li o a iho iha=>
  walk_at "gE";refine mw hx λ_ _ _ z1 _ hx=>?_
  refine p5 hx λ_ _ hx=>?_
  walk_at "ga";obtain⟨⟨⟨⟨rfl,h1⟩,h2⟩,h3⟩,h4⟩:=hx;exact VE (iho O W h3) (iha O W h4) (ml (by simpa using h1)) (by rw[uK (gA h4)];rfl) h2 (gz (by have:=gA h4;rw[d9,aU]at this;exact this.1)) (by have:=gA h4;rw[d9,aU]at this;rw[back_eq this.2];simp)
 |dg d k0 ihd ihk=>
  walk_at "gE";refine nM hx λ_ _ _ hx=>?_
  walk_at "ga";obtain⟨h1,h2⟩:=hx;exact Y6 (jO O.room) (ihd O W h1) (ihk O W h2) (yc (c9 h2))
 |dn neg k0 d ihk ihd=>
  walk_at "g0";refine uG rfl (λx hx=>?_) h
  refine uU hx λ_ _ _ _ hx=>?_
  walk_at "ga";obtain⟨⟨h0,h1⟩,h2⟩:=hx;have g1:=ihk O W h1;have g2:=ihd O W h2;cases neg with
  |true=>rw[ai rfl]at h0;subst h0;exact⟨VY (jO O.room) g1 g2 (mn (c9 h2)),Uw (jO O.room) g1 g2 (mn (c9 h2))⟩
  |false=>rw[ae ⋯]at h0;subst h0;exact⟨OI (jO O.room) g1 g2 (mn (c9 h2)),Y5 (jO O.room) g1 g2 (mn (c9 h2))⟩
 |d1 d k0 ihd ihk=>
  walk_at "gE";refine mw hx λ_ _ _ z1 _ hx=>?_
  refine fQ hx λ_ hx=>?_
  walk_at "ga";obtain⟨⟨⟨⟨rfl,h1⟩,h2⟩,h3⟩,h4⟩:=hx;exact WN (jO O.room) (ihd O W h3) (ihk O W h4) (LY (by simpa using h1) h2 (c9 h4))
 |dk=>
  walk_at "gE";refine BU hx λz1 z2 _ hx=>?_
  refine gH hx λhx=>?_
  refine gH hx λhx=>?_
  exact Zz
 |dt=>
  walk_at "gE";refine BU hx λz1 z2 _ hx=>?_
  refine gH hx λhx=>?_
  refine gH hx λhx=>?_
  exact XC
 |ic neg a x0 iha=>
  walk_at "g0";cases ef:Γ.S.gt.lookup x0 with
  |none=>
   refine uG (r:=gB) (by show ex _=_;rw[ef]) (λx hx=>?_) h
   refine uU hx λ_ _ z1 _ hx=>?_
   refine gu hx λ_ _ hx=>?_
   rw[ef]at hx;simp at hx
  |some ss=>
   refine uG (r:=rU neg ss (tr Γ a).E) (by show ex _=_;rw[ef]) (λx hx=>?_) h
   refine uU hx λ_ _ z1 _ hx=>?_
   refine gu hx λ_ _ hx=>?_
   walk_at "ga";obtain⟨⟨⟨⟨h0,rfl⟩,_⟩,h2⟩,h3⟩:=hx;obtain⟨h2,h4⟩:=gm h2;have g:=iha O W h3;cases neg with
   |true=>rw[ai rfl]at h0;subst h0;exact KI (Ww O.room.units) (W.gt _ _ ef) g (O.gl _ h2) h4
   |false=>rw[ae ⋯]at h0;subst h0;exact KI (P5 O.room.units) (W.gt _ _ ef) g (O.gl _ h2) h4
 |tx x0 a iha=>
  walk_at "gE";refine nM hx λz1 _ _ hx=>?_
  refine gu hx λ_ _ hx=>?_
  walk_at "ga";obtain⟨⟨⟨rfl,h1⟩,h2⟩,h3⟩:=hx;exact Qq (W.tb _ (mem_of h1)) (iha O W h3) (yc (c9 h3)) (O.gl _ (gm h2).1) (gm h2).2
 |tg x0 a iha=>
  walk_at "g0";cases ef:Γ.S.tt.lookup x0 with
  |none=>refine pL (r:=gB) (by show ex _=_;rw[ef]) (λx hx=>A3) h
  |some l=>
   refine pL (r:=xW l (tr Γ a).E) (by show ex _=_;rw[ef]) (λx hx=>?_) h
   refine mw hx λz1 _ _ z2 _ hx=>?_
   refine gu hx λ_ _ hx=>?_
   refine fQ hx λ_ hx=>?_
   walk_at "ga";obtain⟨⟨⟨⟨⟨rfl,rfl⟩,_⟩,h2⟩,h3⟩,h4⟩:=hx;obtain⟨h2,h5⟩:=gm h2;exact Wc (jO O.room) (W.tt _ _ ef) (iha O W h4) (LY rfl h3 (c9 h4)) (O.gl _ h2) h5
 |tn x0 a iha=>
  walk_at "g0";refine yi (λx hx=>by cases hx) (λx hx=>?_) h
  refine uU hx λ_ _ z1 _ hx=>?_
  refine gu hx λ_ _ hx=>?_
  walk_at "ga";obtain⟨⟨⟨⟨rfl,rfl⟩,h1⟩,h2⟩,h3⟩:=hx;obtain⟨h2,h5⟩:=gm h2;exact Sj (W.tb _ (mem_of h1)) (iha O W h3) (O.gl _ h2) h5
 |cv i a iha=>
  walk_at "gE";refine mq hx λx p es p' hx=>?_
  walk_at "ga";obtain⟨⟨h1,h2⟩,h3⟩:=hx;cases es with
  |nil=>cases h2
  |cons z es=>
   have ho:=gA h3;rw[d9,aU]at ho;exact XG Γ.ik (λq hq=>by obtain⟨fd,ps,a1,a2,a3⟩:=W.ik q hq;exact⟨fd,ps,k,O.room,a1,a2,a3⟩) (O.var h1) (iha O W h3) (gz ho.1) (q8 ho.2)
 |di l a iha=>
  walk_at "gE";refine nM hx λz1 _ _ hx=>?_
  refine BU hx λ_ _ _ hx=>?_
  simp only[aU,gK]at hx;obtain⟨⟨⟨⟨h1,h2⟩,h3⟩,h4⟩,h5⟩:=hx;obtain⟨a1,a2,a3,a4⟩:=Lx (X:=X) _ _ _ h1;have hl:l≠[]:=by intro z;rw[z]at h2;cases h2
  exact XD l (jO O.room) a1 (iha O W h5) h4 rfl h3 a2 a3 (by intro z;rw[z]at a4;exact hl (List.eq_nil_of_length_eq_zero a4.symm)) (by rw[a4];exact h3) (yc (c9 h5))
 |lr a b iha ihb=>
  walk_at "gE";refine mq hx λ_ _ z1 _ hx=>?_
  refine fQ hx λz2 hx=>?_
  refine mq hx λ_ _ z3 _ hx=>?_
  refine p5 hx λ_ _ hx=>?_
  walk_at "ga";obtain⟨⟨⟨⟨⟨⟨⟨rfl,rfl⟩,h1⟩,h2⟩,h3⟩,h4⟩,h5⟩,h6⟩:=hx;have s1:=gz (es:=[]) (env:=X.env) (c9 h6);have s2:=λr=>gz (es:=r) (env:=X.env) (c9 h5)
  exact XA (W.bl _ (mem_of h1)) (W.bl _ (mem_of h2)) O.calm (iha O W h5) (ihb O W h6) (O.gl _ (gm h3).1) (O.gl _ (gm h4).1) (by rw[s2,s1];rfl) s1 (s2 _) s1 rfl
 |cp md tup nm cap it t e ihi iht ihe=>
  walk_at "gE";refine Mn hx λel z1 scope p hx=>?_
  refine fQ hx λz2 hx=>?_
  obtain⟨tg,ite,ifs,as⟩:=z2;walk_at "ga";obtain⟨⟨⟨⟨⟨⟨⟨rfl,rfl⟩,h1⟩,h2⟩,h3⟩,h4⟩,h5⟩,h6⟩:=hx;exact XE O (IJ h2) (Lu h1) (ihi O W h4) (λcl C s H fp=>Ib (xZ O h2) W iht h6) (λcl C s H fp=>ihe (xZ O h2) W h5) (yf h3)
 |iv a iha=>
  walk_at "g0";refine uS (λtg x hx=>?_) h
  refine mw hx λ_ _ _ z1 _ hx=>?_
  refine gH hx λhx=>?_
  walk_at "ga";obtain⟨⟨⟨rfl,h1⟩,h2⟩,h3⟩:=hx;exact qyp (iha O W h3) (ml (by simpa using h1)) h2
 |im a iha=>
  walk_at "g0";refine uS (λtg x hx=>?_) h
  refine mw hx λx m ap z p hx=>?_
  refine gH hx λhx=>?_
  walk_at "ga";obtain⟨⟨⟨⟨h0,rfl⟩,h1⟩,h2⟩,h3⟩:=hx;exact Expr.Tuple.elim tg h0 λ_ _ _=>XS (iha O W h3) (ml (by simpa using h1)) h2
 |lv md a iha=>
  walk_at "gE";refine mq hx λ_ _ z1 _ hx=>?_
  refine fQ hx λz2 hx=>?_
  refine mw hx λ_ _ _ z3 _ hx=>?_
  refine gH hx λhx=>?_
  walk_at "ga";obtain⟨⟨⟨⟨⟨⟨rfl,rfl⟩,h1⟩,h2⟩,h3⟩,h4⟩,h5⟩:=hx;exact rlv (W.bl _ (mem_of h1)) O.calm (iha O W h5) (O.gl _ (gm h2).1) (ml (by simpa using h3)) h4
 |pr i j a iha=>
  walk_at "gS";refine ny hx λz1 z2 pos hx=>?_
  refine qb hx λz3 kt pt hx=>?_
  refine p5 hx λz4 z5 hx=>?_
  refine gu hx λx px hx=>?_
  refine gu hx λy py hx=>?_
  refine qb hx λz6 k2 pt2 hx=>?_
  refine p5 hx λu v hx=>?_
  simp only[aU,eX,bne_iff_ne,ne_eq]at hx;obtain⟨⟨⟨⟨⟨⟨⟨⟨⟨⟨rfl,h1⟩,h2⟩,h3⟩,h4⟩,h5⟩,h6⟩,h7⟩,h8⟩,h9⟩,h10⟩:=hx;obtain⟨hsc,nd,hl,hf,_,hb,hk⟩:=O.fn rfl;exact Pr O.calm (by rw[O.hN];exact nd) (by rw[O.hN];exact h1) (by rw[O.hN];exact h2) h3 (by rw[hsc];exact h4) (by rw[hsc];exact h5) (iha O W h10) (YY hb (by rw[hk];exact h4) (by rw[hk];exact h5) h6 (by simpa using h7) (gA h10) ((jb _).mp h8) ((jb _).mp h9))
 |wh t b iht ihb=>
  walk_at "gS";refine Za hx λ_ _ z1 _ hx=>?_
  refine gH hx λhx=>?_
  simp only[aU]at hx;obtain⟨⟨rfl,h1⟩,h2⟩:=hx;exact WJ (O.fn rfl).2.2.2.2.1 (iht O W h1) (ihb O W h2)
 |af c f o a iho iha=>
  walk_at "gS";refine Zb hx λz1 z2 _ _ hx=>?_
  refine vm hx λ_ _ _ hx=>?_
  refine pW hx λhx=>?_
  walk_at "ga";obtain⟨⟨⟨rfl,h1⟩,h2⟩,h3⟩:=hx;exact saf (W.fs _ _ (mem_of h1)).1 (W.fs _ _ (mem_of h1)).2 (iho O W h2) (iha O W h3)
 |dd d k0 ihd ihk=>
  walk_at "gS";refine Zl hx λz1 _ hx=>?_
  refine fQ hx λz2 hx=>?_
  refine nM hx λ_ _ _ hx=>?_
  simp only[aU]at hx;exact WM (jO O.room) (ihd O W hx.1) (ihk O W hx.2)
 |is a iha=>
  walk_at "g0";refine uS (λtg x hx=>?_) h
  simp only[aU]at hx;exact Qb (iha O W hx.2)
 |st a iha=>
  walk_at "g0";refine uS (λtg x hx=>?_) h
  simp only[aU]at hx;exact Qa (iha O W hx.2)
 |r1 a iha=>
  walk_at "g0";refine uS (λtg x hx=>?_) h
  refine mq hx λ_ _ z1 _ hx=>?_
  refine fQ hx λ_ hx=>?_
  walk_at "ga";obtain⟨⟨⟨rfl,h1⟩,h2⟩,h3⟩:=hx;have s1:=gz (es:=[]) (env:=X.env) (c9 h3);exact XQ (W.bl _ (mem_of h1)) (iha O W h3) (O.gl _ (gm h2).1) s1 s1
 |set i a iha=>
  walk_at "gS";refine ny hx λz1 e p' hx=>?_
  refine gu hx λx p hx=>?_
  simp only[aU,eX,sC]at hx;obtain⟨⟨⟨rfl,h1⟩,h2⟩,h3⟩:=hx;rcases h2 with h2|h2
  . exact O.qA h1 (iha O W h3) (q9 (c9 h3) (by simpa using h2))
  . by_cases hc:jI e=true
    . cases e<;>first|(cases hc;done)|skip
      exact O.qA h1 (iha O W h3) (YX O h2)
    . exact O.qA h1 (iha O W h3) (q9 (c9 h3) (by simpa using hc))
 |sc i md tup nm cap it t e ihi iht ihe=>
  walk_at "gS";refine ny hx λz1 z2 p3 hx=>?_
  refine gu hx λx p hx=>?_
  refine Mn hx λel z3 scope p2 hx=>?_
  refine fQ hx λz4 hx=>?_
  obtain⟨tg,ite,ifs,as⟩:=z4;walk_at "ga";obtain⟨⟨⟨⟨⟨⟨⟨⟨⟨⟨⟨rfl,h1⟩,h2⟩,h3⟩,h4⟩,rfl⟩,h5⟩,h6⟩,h7⟩,h8⟩,h9⟩,h10⟩:=hx;exact Xq O i (IJ h6) (Lu h5) (ihi O W h8) (λcl C s H fp=>Ib (xZ O h6) W iht h10) (λcl C s H fp=>ihe (xZ O h6) W h9) (yf h7) h1 (YW O h2 h3 (by simpa using h4))
 |un is a iha=>
  walk_at "gS";refine ny hx λz1 e p' hx=>?_
  refine qb hx λes j p hx=>?_
  simp only[aU]at hx;obtain⟨⟨⟨⟨rfl,h1⟩,h2⟩,h3⟩,h4⟩:=hx;have hw:swappedStores [.Tuple es j p] e X.env=pure none:=by cases e<;>first|rfl|cases h3
  exact B5 (iha O W h4) (gT O h1) (AF (c9 h4) (by simpa using h2)) hw rfl
 |u3 i1 i2 i3 a iha=>
  walk_at "gS";refine ny hx λz1 e p' hx=>?_
  refine qb hx λes j p hx=>?_
  refine p5 hx λy1 y2 hx=>?_
  refine qb hx λes2 j2 p2 hx=>?_
  simp only[aU]at hx;obtain⟨⟨⟨⟨⟨rfl,h0⟩,h1⟩,h2⟩,h3⟩,h4⟩:=hx;have hw:swappedStores [.Tuple [y1,.Tuple es2 j2 p2] j p] e X.env=pure none:=by cases e<;>first|rfl|cases h3
  exact B5 (iha O W h4) (NX O h0 h1) (AF (c9 h4) (by simpa using h2)) hw rfl
 |sf c f o a iho iha=>
  walk_at "gS";refine ny hx λz1 _ _ hx=>?_
  refine vm hx λ_ _ _ hx=>?_
  walk_at "ga";obtain⟨⟨⟨⟨rfl,h1⟩,h2⟩,h3⟩,h4⟩:=hx;exact ZQ (W.fs _ _ (mem_of h1)).1 (W.fs _ _ (mem_of h1)).2 (iho O W h3) (iha O W h4) (q9 (c9 h4) (by simpa using h2))
 |dp d k0 a ihd ihk iha=>
  walk_at "gS";refine ny hx λz1 _ _ hx=>?_
  refine nM hx λ_ _ _ hx=>?_
  walk_at "ga";obtain⟨⟨⟨h1,h2⟩,h3⟩,h4⟩:=hx;exact WL (jO O.room) (ihd O W h2) (ihk O W h3) (iha O W h4) (q9 (c9 h4) (by simpa using h1))
 |sp l i a ihl ihi iha=>
  walk_at "gS";refine ny hx λz1 _ _ hx=>?_
  refine nM hx λ_ _ _ hx=>?_
  walk_at "ga";obtain⟨⟨⟨h1,h2⟩,h3⟩,h4⟩:=hx;exact B5 (iha O W h4) (PB (ihl O W h2) (ihi O W h3) Zq (W0 (c9 h3))) (AF (c9 h4) (by simpa using h1)) rfl rfl
 |re a iha=>
  walk_at "gS";refine Ll hx λz1 _ hx=>?_
  refine LW hx λ_ hx=>?_
  exact Pq (iha O W hx)
 |r0=>
  walk_at "gS";refine Ll hx λz1 _ hx=>?_
  refine BQ hx λhx=>?_
  exact Y0
 |bp t a b iht iha ihb=>
  walk_at "gS";refine Zg hx λ_ _ _ _ hx=>?_
  walk_at "ga";obtain⟨⟨h1,h2⟩,h3⟩:=hx;exact sif (iht O W h1) (iha O W h2) (ihb O W h3)
 |fo tup is it b ihi ihb=>
  walk_at "gS";refine Zh hx λtg x y z1 p hx=>?_
  refine gH hx λhx=>?_
  simp only[aU]at hx;obtain⟨⟨⟨⟨rfl,h1⟩,h2⟩,h3⟩,h4⟩:=hx;have hp:=(O.fn rfl).2.2.2.2.1;have g3:=ihi O W h3;revert g3;cases tup with
  |true=>exact qb h2 λes _ _ h2 g3=>Fx hp O.calm g3 (gT O h2) (ihb O W h4) (yf h1)
  |false=>
   refine gu h2 λz _ h2=>?_
   exact fQ h2 λi h2 g3=>Fx hp O.calm g3 (O.gN (by simpa using h2)) (ihb O W h4) (yf h1)
 |ex a iha=>
  walk_at "gS";refine Zi hx λ_ _ hx=>?_
  walk_at "ga";obtain⟨h1,h2⟩:=hx;exact ZR (iha O W h2) (q9 (c9 h2) (by simpa using h1))
 |ra=>
  intro fc N sc X O W nd h;cases nd<;>first|exact O6|exact Y2|exact ba h hZ
 |se a b iha ihb=>
  walk_at "g0";refine KN (λx hx=>?_) h
  refine iB hx λ_ _ hx=>?_
  walk_at "ga";obtain⟨h1,h2⟩:=hx;exact ZS (t:=(tr Γ a).S) (u:=(tr Γ b).S) (iha O W h1) (ihb O W h2)
 |en=>
  walk_at "g0";refine KN (λx hx=>?_) h
  refine gH hx λhx=>?_
  exact O5
 |sk c f a iha=>
  walk_at "gE";refine BL hx λg es ks _ hx=>?_
  refine gu hx λx _ hx=>?_
  refine fQ hx λe hx=>?_
  refine fQ hx λk hx=>?_
  obtain⟨k1,k2,k3⟩:=k;simp only[aU,gK,eX]at hx;obtain⟨⟨⟨⟨⟨⟨⟨⟨rfl,rfl⟩,hy⟩,hf⟩,hN⟩,h2⟩,h3⟩,h4⟩,h5⟩:=hx;refine qyI (C:=λz=>ah X (.Call (.Name _ _) [e] [⟨_,z,k3⟩] _) _) hy λps b ls lp hy=>?_
  refine vm hy λe' f' _ hy=>?_
  obtain⟨hy0,hz⟩:=i4 hy;obtain rfl:=gd hy0;refine gu hz λv _ hy=>?_
  simp only[aU,gK]at hy;obtain⟨⟨rfl,hy1⟩,hy2⟩:=hy;obtain⟨an,p,rfl⟩:=qy7 hy1;obtain⟨h3,h6⟩:=gm h3;obtain⟨lq,⟨cc,lc,lh⟩,lb,lg⟩:=O.lm hf hN;exact Xu (iha O W h5) (W.bl _ (mem_of h2)) (O.gl _ h3) (W.fs _ _ (mem_of h4)).1 (W.fs _ _ (mem_of h4)).2 (Ez hy2).1 O.room.depth lc lh lb lg rfl ((Ez (an:=an) (p:=p) hy2).2 _) lq (gz (c9 h5))
structure iL where
 S:SI
 tb:Str->bV
 C:Nat->Addr
 cv:List (Addr×Nat)
 lP:Addr:=0
noncomputable def iL.G (p:iL)(f f':Nat->bX):G:=⟨p.S,p.tb,p.C,f,f',p.cv.map λq=>(q.1,f q.2),p.lP⟩
def ED(b:G)(d:FD):bX:=λrs M Q=>rs.length=d.ps.length/\(tr b d.body).S { nx:=λ_ a=>Q .au a,rt:=Q } (iZ d.N rs) M
def BG(p:iL)(f a:Nat->bX)(i:Nat):bX:=match p.S.fd[i]? with
 |some d=>ED (p.G f a) d
 |none=>λ_ _ _=>False
def qi(p:iL):Nat->(Nat->bX)×(Nat->bX)
 |0=>(λ_ _ _ _=>False,λ_ _ _ _=>False)
 |n+1=>(BG p (qi p n).1 (qi p n).2,(qi p n).1)
def aw(p:iL)(n:Nat):Nat->bX:=(qi p n).1
def iL.Gn(p:iL)(n:Nat):R.G:=p.G (aw p n) (qi p n).2
theorem Jn{p:iL}{n i:Nat}(h:p.S.fd[i]? =some d):aw p (n+1) i=ED (p.Gn n) d:=by
 show BG p _ _ i=_;unfold BG;rw[h];rfl
structure jE(K:ag)(mg:bo)(S:SI)(C:Nat->Addr)(lP:Addr)(d:FD)(g:Addr)(fd:FuncData):Prop where
 ex:∃(qual:Str) (st:Stmt),(d.N=S.ln->qual++(".<locals>.":Str)++("<lambda>":Str)=S.lq/\∃cc,fd.code= .ref cc/\∀h:Heap,K.In h->PySem.W.CodeHd h cc lP)/\sG K d.name qual st g fd/\rB d.N d.ps (fP st)/\Lh d.N (fP st)/\mt S true d.N (fP st) d.body (.b (pM st))=true
 bd:Binds K fd d.ps []
 k0:d.kind=0->mg d.name=some (.ref g)
 k1:d.kind=1->cK K (C d.cls)/\Meth K (C d.cls) d.name g
 k2:d.kind=2->Mk K (C d.cls) g
structure Hd(P:Program)(w:World)(K:ag)(mg:bo)(p:iL):Prop where
 bl:∀x∈p.S.bl,mg x=none
 gi:∀x i,p.S.gi.lookup x=some i->Co mg x i
 gt:∀x l,p.S.gt.lookup x=some l->rZ K mg x l
 tb:∀x∈p.S.tb,KTab P w K mg x (p.tb x)
 tt:∀x l,p.S.tt.lookup x=some l->qd P w K mg x l
 cl:∀(i:Nat) c,p.S.cl[i]? =some c->cK K (p.C i)/\mg c=some (.ref (p.C i))
 fs:∀c f,(c,f)∈p.S.fs->cK K (p.C c)/\aW K (p.C c) f
 fns:∀(i:Nat) d,p.S.fd[i]? =some d->∃g fd,jE K mg p.S p.C p.lP d g fd
 lm:∀(i:Nat) d,p.S.fd[i]? =some d->d.N=p.S.ln->mainGlobals≠p.lP/\∀h:Heap,K.In h->h.BuiltinsAt mg p.lP
 cv:∀q∈p.cv,∃d,p.S.fd[q.2]? =some d/\d.kind=0/\mg d.name=some (.ref q.1)
section
variable {P:Program}{w:World}{K:ag}{mg:bo}{p:iL}{base:Heap}
theorem IY{g:Addr}:dz P w K mg base fh k g fd ps (fH K λ_ _ _=>False) where
 len:=λvs H Q E h=>by obtain⟨rs,M,c,_,_,h,_⟩:=h;exact h.elim
 run:=λA a s H b us vs Q E _ _ _ _ h=>by obtain⟨rs,M,c,_,_,h,_⟩:=h;exact h.elim
theorem Y4{n:Nat}(H:Hd P w K mg p)(L:∀(i:Nat) d g fd,p.S.fd[i]? =some d->jE K mg p.S p.C p.lP d g fd->dz P w K mg base fh (n+1) g fd d.ps (fH K (aw p n i))/\dz P w K mg base fh n g fd d.ps (fH K ((qi p n).2 i))):Wd P w K mg base (p.Gn n) (n+1) where
 bl:=H.bl
 gi:=H.gi
 gt:=H.gt
 tb:=H.tb
 tt:=H.tt
 cl:=H.cl
 fs:=H.fs
 fn:=λi d e a=>by
  obtain⟨g,fd,F⟩:=H.fns i d e;obtain⟨q,st,_,b,_⟩:=F.ex;exact⟨g,fd,F.k0 a,b.kp,F.bd,(L i d g fd e F).1⟩
 me:=λi d e a=>by
  obtain⟨g,fd,F⟩:=H.fns i d e;exact⟨(F.k1 a).1,⟨g,fd,(F.k1 a).2,F.bd,(L i d g fd e F).1⟩⟩
 lW:=λi d e a=>by
  obtain⟨g,fd,F⟩:=H.fns i d e;exact⟨n,aK _,⟨g,fd,F.k2 a,F.bd,(L i d g fd e F).2⟩⟩
 ik:=λq h=>by
  obtain⟨q0,c,rfl⟩:=aV.mp h;obtain⟨d,e,a,f⟩:=H.cv q0 c;obtain⟨g,fd,F⟩:=H.fns q0.2 d e;have:=(F.k0 a).symm.trans f;cases this;obtain⟨q,st,_,b,_⟩:=F.ex;exact⟨fd,d.ps,b.kp,F.bd,(L q0.2 d _ fd e F).1⟩
theorem Aa(H:Hd P w K mg p)(kb:K.In base):∀(n:Nat) (i:Nat) d g fd,p.S.fd[i]? =some d->jE K mg p.S p.C p.lP d g fd->dz P w K mg base fh (n+1) g fd d.ps (fH K (aw p n i))/\dz P w K mg base fh n g fd d.ps (fH K ((qi p n).2 i))
 |0,i,d,g,fd,e,F=>⟨IY,IY⟩
 |n+1,i,d,g,fd,e,F=>by
  refine⟨?_,(Aa H kb n i d g fd e F).1⟩;rw[Jn e];obtain⟨qual,st,L1,F1,S1,N1,m1⟩:=F.ex;refine Zy F1 S1 (λrs M Q h=>h.1) (λcdv hcd A outer s H0 E hr=>?_) λrs M Q h=>h.2
  have O:fB (p.Gn n) (n+1) true d.N (fP st) (nN fh P w K mg base d.N qual (fP st) g cdv A outer s H0 E).qU:=by
   refine⟨rfl,λx hx=>⟨?_,?_⟩,λx h=>h,rfl,hr,λ_=>⟨rfl,N1.nd,N1.loc,λ_=>rfl,PassesOwn.never,?_,λx=>rfl⟩,λ_ hN=>?_⟩
   . exact(N1.loc x hx).elim .inl λz=>.inr (.inl z)
   . have:=N1.iQ x hx
     unfold iQ;rw[this.1,this.2];rfl
   . show(if(fP st).kind.isAnnotationScope then ScopeKind.function else(fP st).kind)=_
     rw[S1.kind];rfl
   . obtain⟨l1,cc,l2,l3⟩:=L1 hN
     obtain⟨l4,l5⟩:=H.lm i d e hN;exact⟨l1,⟨cc,hcd.symm.trans l2,l3 _ kb⟩,l5 _ kb,l4⟩
  exact sound d.body O (Y4 H (Aa H kb n)) m1
end
end R
namespace HD
open PySem PySem.W PyProof.Rows
def Y9(p:Program)(i:Nat):Stmt:=p.main.body.getD i (.Pass ⟨0,0,0,0⟩)
def sub(s:Stmt)(i:Nat):Stmt:=match s with
 | .ClassDef (body:=b) ..=>b.getD i (.Pass ⟨0,0,0,0⟩)
 |s=>s
def Gw(s:Stmt):Arguments:=match s with
 | .FunctionDef (args:=a) ..=>a
 |_=>default
def rX(s:Stmt):List Stmt:=match s with
 | .FunctionDef (body:=b) ..=>b
 |_=>[]
def Gv(s:Stmt):Scope:=match s with
 | .FunctionDef (scope:=c) ..=>c
 |_=>default
noncomputable abbrev e1 (P:Params) (x:String) (t:Tok) (v:Value):DictEntry:=⟨PyData.keyHash P x,.str x t,v⟩
noncomputable abbrev eS (es:List DictEntry) (n:Nat):Obj:=⟨.type "dict",none,.dict es.toArray n,#[]⟩
noncomputable abbrev cY (vs:ak):Obj:=⟨.none,none,.fields vs.toArray,#[]⟩
noncomputable abbrev CW (vs:ak):Obj:=⟨.type "code",none,.fields vs.toArray,#[]⟩
noncomputable abbrev tup (xs:ak):Obj:=⟨.type "tuple",none,.seq xs.toArray 0,#[]⟩
noncomputable abbrev gM (n q:String) (s:Stmt) (a cd:Value):Obj:=⟨.type "function",none,.func { name:=n,qualname:=q,params:=Gw s,body:=.stmts (rX s),scope:=Gv s,globals:=3,closure:=[],defaults:=.none,kwdefaults:=.none,doc:=.none,pyModule:=a,annotations:=none,code:=cd,closureTuple:=.none,builtins:=0 },#[]⟩
noncomputable abbrev iF (n q:String) (s:Stmt):Obj:=⟨.none,none,.func { name:=n,qualname:=q,params:=Gw s,body:=.stmts (rX s),scope:=Gv s,globals:=0,closure:=[],defaults:=.none,kwdefaults:=.none,doc:=.none,pyModule:=.none,annotations:=none,code:=.none,closureTuple:=.none,builtins:=0 },#[]⟩
structure DF where
 n:String
 q:String
 s:Stmt
 a:Nat
 t:Nat
 l:Nat
 c:Nat
 xs:List String
 pm:Value
noncomputable def df (n q:String)(s:Stmt)(a t l c:Nat)(xs:List String)(b:Value):DF:=⟨n,q,s,a,t,l,c,xs,b⟩
def KW:Nat->List String->ak
 |_,[]=>[]
 |t,x::xs=>.str x t::KW (t+1) xs
noncomputable def DF.co (d:DF):Obj:=CW [.str d.n d.t,.str d.q (d.t+1),.str "/claim/cut.py" (d.t+2),.int d.l 0,.int d.c 0,.int 0 0,.int 0 0,.int 3 0,.ref d.a,.bool true,.int 181 0,.ref (d.a+1),.none,.ref (d.a+2),.ref (d.a+3),.ref (d.a+4),.int (d.t+3+d.xs.length:Nat) 0,.int d.l 0,.str "/claim/cut.py" (d.t+4+d.xs.length)]
def DF.fn(d:DF):Obj:=gM d.n d.q d.s d.pm (.ref (d.a+5))
noncomputable def DF.objs (d:DF):List Obj:=[tup [],cY [],tup (KW (d.t+3) d.xs),tup [],iF d.n d.q d.s,d.co,d.fn]
def treeOf(l:List Obj):BT:=(l.foldl (λ(x:BT×Nat) o=>(x.1.ins x.2 o,x.2+1)) (.nil,0)).1
theorem KP{tb:String->Option Builtin}{p:Program}{an:cN}{b:Nat}:∀{n m:Nat} {s s':SharedT} {t t':Thread} {r:Option (SharedT×Thread)},
 segGoT tb p w n₀ an b n s t=some (s',t')->segGoT tb p w n₀ an b m s' t'=r->segGoT tb p w n₀ an b (n+m) s t=r
 |0,m,s,s',t,t',r,h,k=>by
  simp only[segGoT,n9,Prod.mk.injEq]at h;obtain⟨rfl,rfl⟩:=h;rw[iI];exact k
 |n+1,m,s,s',t,t',r,h,k=>by
  have e:n+1+m=(n+m)+1:=by omega
  rw[e];simp only[segGoT]at h ⊢;split at h
  . cases h
  . rename_i a
    split at h
    . cases h
    . rename_i c
      split at h
      . rename_i d f hs
        exact KP h k
      . cases h
theorem Jz{tb:String->Option Builtin}{p:Program}{an:cN}{b:Nat}:∀{n m:Nat} {s s':SharedT} {t t':Thread} {r:Flow×SharedT×Code×Pos},
 segGoT tb p w n₀ an b n s t=some (s',t')->segRunT tb p w n₀ an b m s' t'=some r->segRunT tb p w n₀ an b (n+m) s t=some r
 |0,m,s,s',t,t',r,h,k=>by
  simp only[segGoT,n9,Prod.mk.injEq]at h;obtain⟨rfl,rfl⟩:=h;rw[iI];exact k
 |n+1,m,s,s',t,t',r,h,k=>by
  have e:n+1+m=(n+m)+1:=by omega
  rw[e];simp only[segGoT]at h;simp only[segRunT];split at h
  . cases h
  . rename_i a
    split at h
    . cases h
    . rename_i c
      split at h
      . rename_i d f hs
        exact Jz h k
      . cases h
theorem Jo{tb:String->Option Builtin}{p:Program}{an:cN}{b:Nat}(k:Nat):∀{n:Nat} {s:SharedT} {t:Thread} {r:Flow×SharedT×Code×Pos},
 segRunT tb p w n₀ an b n s t=some r->segRunT tb p w n₀ an b (n+k) s t=some r
 |0,s,t,r,h=>by cases h
 |n+1,s,t,r,h=>by
  have e:n+1+k=(n+k)+1:=by omega
  rw[e];simp only[segRunT]at h ⊢;split at h
  . exact h
  . rename_i a
    split at h
    . cases h
    . rename_i c
      split at h
      . exact Jo k h
      . cases h
def Rn(p:Program)(w:World)(b:Nat)(an:cN)(c:Code)(F:List Frame)(m:Nat)(x:Sem α)(ps:Pos)(s:SharedT)(a:α)(d:Pos)(e:SharedT):Prop:=
 ∀(K:α->Sem Fin) (H:Value->Sem Fin) (lv:ak->ak),∃n,n<=m/\segGoT treeTable p w b an 1 n s ⟨x.wrap K H id lv,c,ps,F⟩=some (e,⟨K a,c,d,F⟩)
section
variable {α β:Type}{p:Program}{w:World}{n₀:Nat}{an:cN}{c:Code}{F:List Frame}{m m1 m2:Nat}{ps ps1 ps2 ps':Pos}{s s1 s2 s':SharedT}
theorem Rn.more{x:Sem α}{a:α}(h:Rn p w n₀ an c F m1 x ps s a ps' s')(e:m1<=m):Rn p w n₀ an c F m x ps s a ps' s':=λK H lv=>by
 obtain⟨n,b,h⟩:=h K H lv;exact⟨n,bR b e,h⟩
theorem fZ{a:α}:Rn p w n₀ an c F m (pure a) ps s a ps s:=λK H lv=>⟨0,jY _,rfl⟩
theorem cD{x:Sem α}{a:α}{b:β}(e:Rn p w n₀ an c F m1 x ps s a ps1 s1)(g:Rn p w n₀ an c F m2 (f a) ps1 s1 b ps2 s2):Rn p w n₀ an c F (m1+m2) (x >>= f) ps s b ps2 s2:=λK H lv=>by
 obtain⟨h,l1,e1⟩:=e (λa=>(f a).wrap K H id lv) H lv
 obtain⟨i,l2,d⟩:=g K H lv;refine⟨h+i,Nat.add_le_add l1 l2,?_⟩;rw[Sem.bind_eq_wrap',Sem.wrap_wrap];exact KP e1 d
theorem VB{x:Sem α}{a:α}{vs:ak}(h:Rn p w n₀ an c F m x ps s a ps' s'):Rn p w n₀ an c F m (x.keep vs) ps s a ps' s':=λK H lv=>by
 obtain⟨n,l,e⟩:=h K H (λr=>lv (vs++r))
 refine⟨n,l,?_⟩;rw[Sem.keep_eq_wrap,Sem.wrap_wrap];exact e
theorem ui{x:Sem α}{a:α}{vs:ak}(h:Rn p w n₀ an c F m x ps s a ps' s'):Rn p w n₀ an c F m (holding vs x) ps s a ps' s':=by
 unfold holding;split
 . exact h
 . exact VB h
theorem jn{x:Sem α}{a:α}{n:Nat}(h:∀(K:α->Sem Fin) (H:Value->Sem Fin) (lv:ak->ak),segGoT treeTable p w n₀ an 1 n s ⟨x.wrap K H id lv,c,ps,F⟩=some (s',⟨K a,c,ps',F⟩)):Rn p w n₀ an c F n x ps s a ps' s':=
 λK H lv=>⟨n,aK _,h K H lv⟩
theorem mapOf{f g:α->β}:∀{l:List α},l.map f=l.map g->∀i∈l,f i=g i:=λh=>List.map_inj_left.mp h
theorem Xw{b:Type}{l:List b}{g:b->Nat}{x:b->Sem α}{a:α}(h:∀(K:α->Sem Fin) (H:Value->Sem Fin) (lv:ak->ak),l.map (λi=>segGoT treeTable p w n₀ an 1 (g i) s ⟨(x i).wrap K H id lv,c,ps,F⟩)=l.map λ_=>some (s',⟨K a,c,ps',F⟩)):∀i∈l,Rn p w n₀ an c F (g i) (x i) ps s a ps' s':=
 λi hi=>jn λK H lv=>mapOf (h K H lv) i hi
theorem AX{b:β}:∀{xs:List α},(∀x∈xs,Rn p w n₀ an c F m (f x b) ps s (.yield b) ps s)->Rn p w n₀ an c F (m*xs.length) (forIn xs b f) ps s b ps s
 | [],_=>by rw[List.forIn_nil];exact fZ
 |x::xs,h=>by
  rw[sA];have a:=h x (ia ..);have d:=AX (xs:=xs) λy g=>h y (gw _ g)
  have e:m*(x::xs).length=m+m*xs.length:=by rw[bG,Nat.mul_succ,Nat.add_comm]
  rw[e];exact cD a d
end
section
variable {p:Program}{w:World}{n₀:Nat}{an:cN}{c:Code}{F:List Frame}{ps:Pos}{s:SharedT}{m L:Nat}
theorem Ss{a:Addr}{st:ak}(b:st.length<=L)(d:Rn p w n₀ an c F m (eqIsQuiet 8 (.ref a)) ps s true ps s)
 (hs:∀v∈st,Rn p w n₀ an c F m (eqIsQuiet 8 v) ps s true ps s):Rn p w n₀ an c F (m+m*L) (tableMayTell (.ref a) st) ps s false ps s:=by
 unfold tableMayTell;split
 . exact fZ
 . refine Rn.more (cD d (m2:=m*st.length) ?_) (Nat.add_le_add_left (Nat.mul_le_mul_left _ b) _)
   rw[ae ⋯]
   refine Rn.more (cD (m2:=0) (AX (m:=m) λv e=>?_) ?_) (aK _)
   . refine Rn.more (cD (m2:=0) (hs v e) ?_) (aK _)
     rw[ae ⋯]
     exact fZ
   . exact fZ
theorem find_none{d a:Addr}{es:Array DictEntry}(hL:es.size<=L)(rn_rule:∀t,Rn p w n₀ an c F 1 (rule t) ps s () ps s)
 (hd:Rn p w n₀ an c F 1 (dictEntries d none) ps s es ps s) (he:Rn p w n₀ an c F 1 (dictEpoch d none) ps s ep ps s)
 (hq:Rn p w n₀ an c F m (eqIsQuiet 8 (.ref a)) ps s true ps s)
 (hk:∀e∈es.toList,(∃b:Addr,e.key= .ref b/\b≠a)/\Rn p w n₀ an c F m (eqIsQuiet 8 e.key) ps s true ps s/\Rn p w n₀ an c F m (eqBool e.key (.ref a)) ps s false ps s):
 Rn p w n₀ an c F (1+((m+m*L)+(m+3)*L)) (dictFind d (.ref a) h) ps s none ps s:=by
 unfold dictFind;refine ui ?_;dsimp only[keyPart];refine cD hd ?_;have hp:∀i∈placesWithHash es.size (λi=>Option.map (λx=>x.hash) es[i]?) h,i<es.size:=λi hi=>by
  unfold placesWithHash at hi;exact og.mp (dR.mp hi).1
 have hpl:(placesWithHash es.size (λi=>Option.map (λx=>x.hash) es[i]?) h).length<=L:=by
  unfold placesWithHash;refine bR (jz _ _) ?_;rw[List.length_range];exact hL
 generalize placesWithHash es.size (λi=>Option.map (λx=>x.hash) es[i]?) h=places at hp hpl ⊢
 have hst:∀v∈List.filterMap (λi=>Option.map (λx=>x.key) es[i]?) places,∃e∈es.toList,v=e.key:=λv hv=>by
  obtain⟨i,hi,e⟩:=wc.mp hv;obtain⟨x,hx,rfl⟩:=Option.map_eq_some_iff.mp e;exact⟨x,Array.mem_toList_iff.mpr (Array.mem_of_getElem? hx),rfl⟩
 have hsl:(List.filterMap (λi=>Option.map (λx=>x.key) es[i]?) places).length<=L:=bR (List.length_filterMap_le _ _) hpl
 generalize List.filterMap (λi=>Option.map (λx=>x.key) es[i]?) places=stored at hst hsl ⊢
 have hno:∀e∈es.toList,(e.key==Value.ref a)=false:=λe h1=>by
  obtain⟨⟨b,h2,h3⟩,_⟩:=hk e h1;rw[h2];exact nZ.mpr λq=>h3 (Value.ref.inj q)
 rw[ae (by simp[carriedByValue])]
 rw[ae (by
  rw[<-Array.any_toList,Bool.not_eq_true,List.any_eq_false];intro e h1;rw[hno e h1];simp)]
 rw[ae (by
  intro q;have q:=gd q;obtain⟨e,h1,h2⟩:=hst (.ref a) (by rw[q];exact ia ..)
  have:=hno e h1;rw[<-h2]at this;simp at this)]
 refine cD (Ss hsl hq λv hv=>?_) ?_
 . obtain⟨e,h1,rfl⟩:=hst v hv
   exact(hk e h1).2.1
 rw[ae (by simp)]
 refine Rn.more (cD (m2:=0) (AX (m:=m+3) λi hi=>?_) ?_) (Nat.mul_le_mul_left _ hpl)
 . have hi':=hp i hi
   have hg:es[i]? =some es[i]:=Array.getElem?_eq_getElem hi';rw[hg];dsimp only;split
   . obtain⟨_,_,hb⟩:=hk es[i] (Array.mem_toList_iff.mpr (Array.getElem_mem hi'))
     refine Rn.more (cD he (cD (m2:=2) hb (cD (m2:=1) he ?_))) ∅
     rw[ae (by simp),ae ⋯]
     refine Rn.more (cD (m2:=0) (rn_rule _) ?_) (aK _);rw[ae (by simp)]
     exact fZ
   . exact fZ
 . exact fZ
end
section
variable {α β:Type}{p:Program}{w:World}{n₀:Nat}{an:cN}{c:Code}{F:List Frame}{ps ps1 ps2:Pos}{s s1 s2:SharedT}{m m1 m2 m3 mf mu:Nat}
theorem UG{i:Int}(a:∀t,Rn p w n₀ an c F 1 (rule t) ps s () ps s):Rn p w n₀ an c F 1 (pyHashByItsType.reduced i) ps s (reduceHash i) ps s:=by
 unfold pyHashByItsType.reduced reduceHash;split
 . exact fZ
 . exact Rn.more (cD (m2:=0) (a _) fZ) (aK _)
theorem UE{a:Addr}{i:Int}{t:Tok}(f:∀x,Rn p w n₀ an c F 1 (rule x) ps s1 () ps s1)(d:Rn p w n₀ an c F m1 (cRoomFor "hash" [.ref a]) ps s () ps s)
 (b:Rn p w n₀ an c F m2 (specialOf (.ref a) "__hash__") ps s (some (.builtin "tuple.__hash__")) ps s)
 (e:∀E,Rn p w n₀ an c F m3 (callSpecialIfBoundUnlessNone? (.ref a) "__hash__" E) ps s (some (.int i t)) ps s1):Rn p w n₀ an c F (m1+(m2+(m2+(m3+1)))) (pyHash (.ref a)) ps s (reduceHash i) ps s1:=by
 unfold pyHash;dsimp only;unfold pyHashByItsType;refine cD d (cD b ?_);rw[ae ⋯]
 refine cD b ?_;rw[ae ⋯]
 refine cD (e _) ?_;exact UG f
theorem V5{d a:Addr}{v:Value}(f:∀x,Rn p w n₀ an c F 1 (rule x) ps s1 () ps s1)(e:Rn p w n₀ an c F m1 (pyHash (.ref a)) ps s h ps s1)(b:Rn p w n₀ an c F mf (dictFind d (.ref a) h) ps s1 none ps s1)
 (g:Rn p w n₀ an c F mu (updateDictKeys d (λx=>x.push ⟨h,.ref a,v⟩) none) ps s1 () ps s2):Rn p w n₀ an c F (m1+(mf+(1+mu))) (dictSet d (.ref a) v) ps s () ps s2:=by
 unfold dictSet;refine ui (cD e ?_);unfold dictSetHashed;refine ui (cD b ?_);exact cD (f _) g
theorem Vz{x:α}{b:β}(a:Rn p w n₀ an c F m1 (f x b) ps s (.yield b) ps1 s1)(d:Rn p w n₀ an c F m2 (forIn xs b f) ps1 s1 b ps2 s2):Rn p w n₀ an c F (m1+m2) (forIn (x::xs) b f) ps s b ps2 s2:=by
 rw[sA];exact cD a d
theorem VA{b:β}:Rn p w n₀ an c F 0 (forIn [] b f) ps s b ps s:=by
 rw[List.forIn_nil];exact fZ
theorem Zv{x y:Sem α}{a:α}(e:x=y)(h:Rn p w n₀ an c F m y ps s a ps1 s1):Rn p w n₀ an c F m x ps s a ps1 s1:=e ▸ h
end
section
theorem Wr{q:Program}{loose i:aA}{Xt:Shared->Bool}{h:Heap}{d:Drawn}{k:Nat}{os:OsState}
 (a:PyProof.Rows.seen (List.map (λx=>x.name) (recsOf q)) (ownsOf q) [] ⟨h,#[],d,k,os⟩=expectedOf q) (b:h.bltView=bltViewBooted)
 (c:h.keysOk (looseW q loose) (List.map (λx=>x.name) (recsOf q)) (List.map (λx=>x.fst) (litsOf q)) (List.map (λx=>x.name) (clssOf q (looseW q loose)))=true)
 (l:h.accountedOkI i=true) (j:(h.isNs mainGlobals&&h.isNs builtinsNs)=true) (m:tablesOk q h=true) (n:Xt ⟨h,#[],d,k,os⟩=true)
 (e:tabsOk q ⟨h,#[],d,k,os⟩=true) (f:pinSeenD q (drecsOf q) ⟨h,#[],d,k,os⟩=pinGoodD (drecsOf q)) (g:plainSeenE q (looseW q loose) ⟨h,#[],d,k,os⟩=plainGoodE q (looseW q loose)) (o:plainSeenD q loose ⟨h,#[],d,k,os⟩=plainGoodD q loose)
 (r:wideSeen q ⟨h,#[],d,k,os⟩=wideGood q) (s:clsSeenW q loose ⟨h,#[],d,k,os⟩=clsGoodW q loose):openSeen q loose i Xt true ⟨h,#[],d,k,os⟩=openGood q loose:=by
 rw[aU]at j;unfold openSeen openGood;dsimp only;rw[a,b,c,l,j.1,j.2,m,n,e,f,g,o,r,s];rfl
end
end HD
namespace R
open PySem PySem.Spec PyProof.Rows L2
def BO:Stmt->Bool
 | .FunctionDef ..=>true
 |_=>false
structure FA where
 n:String
 q:String
 s:Stmt
 g:Addr
 c:Addr
 pm:Value
def FA.fn(D:FA):Obj:=HD.gM D.n D.q D.s D.pm (.ref D.c)
def fdOf(D:FA):FuncData:=PySem.W.fnOf D.n D.q (J5 D.s) (pM D.s) (fP D.s) .none .none .none D.pm none (.ref D.c) .none
theorem qyC{D:FA}(h:BO D.s=true):D.fn=⟨.type "function",none,.func (fdOf D),#[]⟩:=by
 unfold FA.fn fdOf;cases e:D.s<;>rw[e]at h<;>first|rfl|cases h
theorem XX{K:ag}{D:FA}(h:BO D.s=true)(l:K.lookup D.g=some D.fn)(c:PySem.W.codeIn K (.ref D.c) D.q=true)(k:PySem.W.keepIn K (.ref D.g)=true):sG K D.n D.q D.s D.g (fdOf D):=
 ⟨⟨_,_,_,_,_,_,_,_,_,rfl,by rw[l,qyC h],c⟩,k⟩
def Cb(o:Option NameKind):Bool:=match o with
 |some .local=>true
 |some .cell=>true
 |_=>false
theorem WB(h:Cb o=true):o=some .local∨o=some .cell:=by
 unfold Cb at h;split at h
 . exact .inl rfl
 . exact .inr rfl
 . cases h
def qyA:NameKind->Bool
 | .free=>false
 |_=>true
noncomputable def A9 (N ps:aA)(sc:Scope):Bool:=(match sc.kind with| .function=>true|_=>false)&& !sc.isCoroutine&& !sc.isGenerator&&decide N.Nodup&&decide (N.take ps.length=ps)&&sc.names.all (λy=>qyA y.2)&&N.all (λx=>Cb (sc.names.lookup x)&& !(x==("__debug__":Str))&& !(x==("__classdict__":Str)))
theorem Ua{sc:Scope}(h:A9 N ps sc=true):rB N ps sc/\Lh N sc:=by
 unfold A9 at h;simp only[aU,jb,gK,ff]at h;obtain⟨⟨⟨⟨⟨⟨d,e⟩,f⟩,b⟩,c⟩,g⟩,a⟩:=h;have l:∀x∈N,sc.names.lookup x=some .local∨sc.names.lookup x=some .cell:=λx hx=>WB (a x hx).1.1
 refine⟨⟨?_,e,f,b,c,λx hx=>l x ?_,λy i=>?_⟩,⟨b,l,λx hx=>⟨(a x hx).1.2,(a x hx).2⟩⟩⟩
 . revert d;cases sc.kind<;>simp
 . rw[<-c]at hx;exact List.mem_of_mem_take hx
 . have:=g y i
   intro z;rw[z]at this;cases this
def rW:Option (cN)->Bool
 |some none=>true
 |_=>false
theorem Ka(h:rW o=true):o=some none:=by
 unfold rW at h;split at h
 . rfl
 . cases h
def yY(i:Int):Option (cN)->Bool
 |some (some (.int j _))=>j==i
 |_=>false
theorem Wk{i:Int}(h:yY i o=true):∃t,o=some (some (.int i t)):=by
 unfold yY at h;split at h
 . rename_i j t;exact⟨t,by rw[gd h]⟩
 . cases h
def nS(a:Addr):Option (cN)->Bool
 |some (some (.ref b))=>b==a
 |_=>false
theorem uO{a:Addr}(h:nS a o=true):o=some (some (.ref a)):=by
 unfold nS at h;split at h
 . rw[gd h]
 . cases h
def Cc:Option (cN)->Bool
 |some (some (.builtin "object.__setattr__"))=>true
 |_=>false
theorem Wl(h:Cc o=true):o=some (some (.builtin "object.__setattr__")):=by
 unfold Cc at h;split at h
 . rfl
 . cases h
def yr:aA->ak->Bool
 | [],[]=>true
 |x::xs,.str y _::ys=>(x==y)&&yr xs ys
 |_,_=>false
theorem JF:∀{a:aA} {vs:ak},yr a vs=true->Vals (a.map V.str) vs
 | [],[],_=>.nil
 |x::xs,.str y t::ys,h=>by
  unfold yr at h;rw[aU]at h;cases gd h.1;exact .cons ⟨t,rfl⟩ (JF h.2)
noncomputable def yG (K:ag)(b:aA):Option (cN)->Bool
 |some (some (.ref a))=>match K.lookup a with
  |some ⟨.type "tuple",_,.seq ab _,_⟩=>decide (ab.size<=100)&&yr b ab.toList
  |_=>false
 |_=>false
theorem WQ{K:ag}{x:Str}(X:K.In h)(G:h.Ns mainGlobals mg)(e:yG K ss (PySem.W.nsIn K mainGlobals x)=true):rZ K mg x ss:=by
 unfold yG at e;split at e
 . rename_i a b
   split at e
   . rename_i ab n d sl c
     rw[aU,gK]at e;exact VZ (mX X G b) c (bR e.1 ⋯) (JF e.2)
   . cases e
 . cases e
noncomputable def qv (K:ag)(C:Addr):Bool:=vV K C Str.empty&&zw K C&&PySem.W.plainOver K C&&Cc (PySem.W.findIn K (.ref C) "__setattr__")
theorem Br{K:ag}(h:qv K C=true):cK K C:=by
 unfold qv at h;simp only[aU]at h;exact⟨h.1.1.1,h.1.1.2,h.1.2,Wl h.2⟩
noncomputable def xY (K:ag)(c P:Addr):Bool:=match K.lookup c with
 |some ⟨.type "code",_,.fields (vs:Array Value),_⟩=>(match(vs[11]?:cN)with|some (.ref b)=>b==P|_=>false)&&(match vs.getD 18 .none with| .str _ _=>true|_=>false)&&(match vs.getD 7 .none with| .int _ _=>true|_=>false)&&(match vs.getD 9 .none with| .bool _=>true|_=>false)&&(match vs.getD 10 .none with| .int _ _=>true|_=>false)&& !(c==P)
 |_=>false
theorem IK{K:ag}{c P:Addr}(e:xY K c P=true)(X:K.In h):PySem.W.CodeHd h c P:=by
 unfold xY at e;split at e
 . rename_i d vs sl t
   simp only[aU]at e;obtain⟨⟨⟨⟨⟨e1,f⟩,g⟩,i⟩,j⟩,r⟩:=e;have y:c≠P:=by simpa using r
   split at e1
   . rename_i b k
     have a:b=P:=gd e1;subst a;have s:vs.getD 11 .none= .ref b:=by simp only[Array.getD_eq_getD_getElem?];rw[k];rfl
     split at f
     . rename_i l z u
       split at g
       . rename_i m A v
         split at i
         . rename_i n w
           split at j
           . rename_i o C x
             exact⟨_,vs,l,z,m,A,n,o,C,X _ _ t,rfl,rfl,k,s,u,v,w,x,y⟩
           . cases j
         . cases i
       . cases g
     . cases f
   . cases e1
 . cases e
noncomputable def zP (K:ag)(a:Addr):Bool:=match PySem.W.nsIn K mainGlobals "__builtins__" with
 |some (some (.ref bm))=>!(bm==builtinsNs)&& !(bm==mainGlobals)&& !(bm==a)&&(match K.lookup bm with
  |some ⟨.type "module",some n,.plain,_⟩=>n==builtinsNs
  |_=>false)
 |_=>false
theorem qy1{K:ag}(b:K.In h0)(G:h0.Ns mainGlobals mg)(e:zP K lP=true)(X:K.In h):h.BuiltinsAt mg lP:=by
 unfold zP at e;split at e
 . rename_i c g
   simp only[aU]at e;obtain⟨⟨⟨e1,d⟩,f⟩,a⟩:=e;split at a
   . rename_i n sl i
     cases gd a;exact⟨c,_,mX b G g,by simpa using e1,by simpa using d,by simpa using f,X _ _ i,rfl,rfl,rfl⟩
   . cases a
 . cases e
noncomputable def Ey (K:ag)(S:SI)(a:Addr)(d:FD)(D:FA):Bool:=!(decide (d.N=S.ln))||(decide ((D.q:Str)++(".<locals>.":Str)++("<lambda>":Str)=S.lq)&&xY K D.c a)
noncomputable def rX (K:ag)(S:SI)(C:Nat->Addr)(a:Addr)(d:FD)(D:FA):Bool:=Ey K S a d D&&BO D.s&&PySem.W.codeIn K (.ref D.c) D.q&&PySem.W.keepIn K (.ref D.g)&&A9 d.N d.ps (fP D.s)&&decide (d.name=(D.n:Str))&&
 (match d.kind with
  |0=>nS D.g (PySem.W.nsIn K mainGlobals d.name)
  |1=>qv K (C d.cls)&&nS D.g (PySem.W.findIn K (.ref (C d.cls)) d.name)&&PySem.W.isFn K (.ref D.g)
  |2=>PySem.W.makesIn K (C d.cls)&&nS D.g (PySem.W.findIn K (.ref (C d.cls)) "__init__")&&PySem.W.isFn K (.ref D.g)&&PySem.W.keepIn K (.ref (C d.cls))
  |_=>false)
theorem XT{K:ag}{S:SI}(X:K.In h)(G:h.Ns mainGlobals mg)(b:rX K S C lP d D=true)(l:K.lookup D.g=some D.fn)(m:mt S true d.N (fP D.s) d.body (.b (pM D.s))=true)
 (c:∀us:ak,us.length=d.ps.length->bindArgs (fdOf D) ⟨us,[]⟩=pure (d.ps.zip us)):jE K mg S C lP d D.g (fdOf D):=by
 unfold rX at b;simp only[aU,gK]at b;obtain⟨⟨⟨⟨⟨⟨b0,b1⟩,b2⟩,b3⟩,b4⟩,b5⟩,b6⟩:=b;obtain⟨e,f⟩:=Ua b4;have lm:d.N=S.ln->(D.q:Str)++(".<locals>.":Str)++("<lambda>":Str)=S.lq/\∃a,(fdOf D).code= .ref a/\∀h:Heap,K.In h->PySem.W.CodeHd h a lP:=λz=>by
  unfold Ey at b0;rw[z]at b0;simp only[decide_true,Bool.not_true,Bool.false_or,aU,gK]at b0;exact⟨b0.1,D.c,rfl,λh X=>IK b0.2 X⟩
 refine⟨⟨D.q,D.s,lm,b5 ▸ XX b1 l b2 b3,e,f,m⟩,.all c,λk=>?_,λk=>?_,λk=>?_⟩
 . rw[k]at b6;exact mX X G (uO b6)
 . rw[k]at b6
   simp only[aU]at b6;exact⟨Br b6.1.1,⟨uO b6.1.2,b6.2,b3⟩⟩
 . rw[k]at b6
   simp only[aU]at b6;exact⟨b6.1.1.1,uO b6.1.1.2,b6.1.2,b6.2⟩
theorem rK{l:List α}(h:l.all f=true){x:α}(hx:x∈l):f x=true:=ff.mp h x hx
theorem Bg{f g:α->β}:∀{l:List α},l.map f=l.map g->∀{x:α},x∈l->f x=g x
 |y::l,h,x,hx=>by
  rw[bQ,bQ]at h;injection h with a b
  rcases dh.mp hx with rfl|hx
  . exact a
  . exact Bg b hx
theorem lookup_mem{x:Str}:∀{l:List (Str×β)},l.lookup x=some y->(x,y)∈l
 |(k,z)::l,h=>by
  unfold List.lookup at h;split at h
  . rename_i e
    cases h;rw[gd e];exact .head _
  . exact .tail _ (lookup_mem h)
def wM(l:List (Str×Addr)):bV:=l.map λp=>(.inr p.1,.ref p.2)
def CK(l:List (Str×Addr)):List (Key×V):=l.map λp=>(.inr p.1,.ref p.2)
theorem EA:∀l:List (Str×Addr),KV (CK l) ((l.map λp=>(p.1,Value.ref p.2)).map λp=>((Sum.inr p.1:Key),p.2))
 | []=>.nil
 |(x,a)::r=>.cons ⟨rfl,rfl⟩ (EA r)
theorem KY{K:ag}:∀l:List (Str×Addr),aE K H (wM l) (CK l)
 | []=>rfl
 |p::r=>⟨V.ref p.2,CK r,rfl,by simp only[Rep],KY r⟩
theorem Vk{P:Program}{K:ag}{x:Str}{a:Addr}{l:List (Str×Addr)}
 (c:mg x=some (.ref a)) (lk:K.lookup a=some ⟨.type "dict",none,.dict es ep,#[]⟩) (b:(a==sysModules)=false) (e:vo w es.toList (l.map λp=>(p.1,Value.ref p.2))) (d:(l.map Prod.fst).Nodup):KTab P w K mg x (wM l):=
 JK c lk b e (by rw[bT];exact d) ⟨rfl,rfl,rfl⟩ (EA l) λH=>KY l
theorem qyu{P:Program}{K:ag}{p:iL}(X:K.In h)(G:h.Ns mainGlobals mg)
 (bl:(p.S.bl.all λx=>rW (PySem.W.nsIn K mainGlobals x))=true) (gi:(p.S.gi.all λx=>yY x.2 (PySem.W.nsIn K mainGlobals x.1))=true) (gt:(p.S.gt.all λx=>yG K x.2 (PySem.W.nsIn K mainGlobals x.1))=true)
 (cl:(p.S.cl.zipIdx.all λx=>qv K (p.C x.2)&&nS (p.C x.2) (PySem.W.nsIn K mainGlobals x.1))=true) (fs:(p.S.fs.all λx=>qv K (p.C x.1)&&rW (PySem.W.findIn K (.ref (p.C x.1)) x.2))=true)
 (tb:∀x∈p.S.tb,KTab P w K mg x (p.tb x)) (tt:∀x l,p.S.tt.lookup x=some l->qd P w K mg x l) (j:∀d∈p.S.fd,∃g fd,jE K mg p.S p.C p.lP d g fd) (lm:∀(i:Nat) d,p.S.fd[i]? =some d->d.N=p.S.ln->mainGlobals≠p.lP/\∀h:Heap,K.In h->h.BuiltinsAt mg p.lP)
 (cv:∀q∈p.cv,∃d,p.S.fd[q.2]? =some d/\d.kind=0/\nS q.1 (PySem.W.nsIn K mainGlobals d.name)=true):Hd P w K mg p where
 bl:=λx hx=>PySem.W.mg_none_of X G (Ka (rK bl hx))
 gi:=λx i hx=>by
  obtain⟨t,e⟩:=Wk (rK gi (lookup_mem hx));exact⟨t,mX X G e⟩
 gt:=λx l hx=>WQ X G (rK gt (lookup_mem hx))
 tb:=tb
 tt:=tt
 cl:=λi c hi=>by
  have:=rK cl (x:=(c,i)) (List.mk_mem_zipIdx_iff_getElem?.mpr hi);rw[aU]at this;exact⟨Br this.1,mX X G (uO this.2)⟩
 fs:=λc f hx=>by
  have:=rK fs hx;rw[aU]at this;exact⟨Br this.1,Ka this.2⟩
 fns:=λi d hi=>j d (i9 hi)
 lm:=lm
 cv:=λq k=>by
  obtain⟨d,a,b,c⟩:=cv q k;exact⟨d,a,b,mX X G (uO c)⟩
noncomputable def jr (K:ag)(S:SI)(C:Nat->Addr)(a:Addr)(n:Nat)(l:List (FD×FA)):Bool:=l.all λx=>rX K S C a x.1 x.2&&decide (x.1.ps.length=n)&&mt S true x.1.N (fP x.2.s) x.1.body (.b (pM x.2.s))
def GA:Nat->(ak->Prop)->Prop
 |0,p=>p []
 |n+1,p=>∀v,GA n λl=>p (v::l)
theorem jk:∀{n:Nat} {p:ak->Prop},GA n p->∀us,us.length=n->p us
 |0,_,h,[],_=>h
 |_+1,_,h,v::us,e=>jk (h v) us (Nat.succ.inj e)
abbrev uT(l:List (FD×FA))(n:Nat):Prop:=∀us:ak,us.length=n->l.map (λx=>bindArgs (fdOf x.2) ⟨us,[]⟩)=l.map λx=>pure (x.1.ps.zip us)
abbrev jf(K:ag)(l:List (FD×FA)):Prop:=l.map (λx=>K.lookup x.2.g)=l.map λx=>some x.2.fn
def fD(d:HD.DF):FA:=⟨d.n,d.q,d.s,d.a+6,d.a+5,d.pm⟩
theorem jG{K:ag}{S:SI}{n:Nat}{l:List (FD×FA)}(X:K.In h)(G:h.Ns mainGlobals mg)(b:jr K S C lP n l=true)(k:jf K l)(u:uT l n):∀x∈l,jE K mg S C lP x.1 x.2.g (fdOf x.2):=λx hx=>by
 have:=rK b hx;simp only[aU,gK]at this;exact XT X G this.1.1 (Bg k hx) this.2 λus a=>Bg (u us (a.trans this.1.2)) hx
theorem YE{K:ag}{S:SI}{l:List (FD×FA)}(e:S.fd=l.map (·.1))(h:∀x∈l,jE K mg S C lP x.1 x.2.g (fdOf x.2)):∀d∈S.fd,∃g fd,jE K mg S C lP d g fd:=λd a=>by
 rw[e]at a;obtain⟨x,hx,rfl⟩:=aV.mp a;exact⟨_,_,h x hx⟩
theorem mh{P:α->Prop}{a b:List α}(c:∀x∈a,P x)(d:∀x∈b,P x):∀x∈a++b,P x:=λx hx=>(dW.mp hx).elim (c x) (d x)
section
variable {P:Program}{w:World}{K:ag}{mg:bo}
def zW:TK->ak->Bool
 | [],[]=>true
 |k::ks,v::vs=>yX k v&&zW ks vs
 |_,_=>false
theorem Jc:∀{k:TK} {l:ak},zW k l=true->ItemsAre (optKind P w) k l
 | [],[],_=>.nil
 |_::_,_::_,h=>.cons (i4 h).1 (Jc (i4 h).2)
 | [],_::_,h=>by cases h
 |_::_,[],h=>by cases h
def EC(y:Str):Value->Bool
 | .str z _=>y==z
 |_=>false
noncomputable def BZ:List (TK×Str)->List (TK×Addr×Value)->Bool
 | [],[]=>true
 |(k,y)::r,(k',_,v)::r'=>decide (k=k')&&EC y v&&BZ r r'
 |_,_=>false
theorem KQ:∀{l:List (TK×Str)} {xs:List (TK×Addr×Value)},BZ l xs=true->vI l xs
 | [],[],_=>trivial
 |(k,y)::r,(k',_,v)::r',h=>by
  obtain⟨b,c⟩:=i4 h;obtain⟨d,a⟩:=i4 b;refine⟨ja d,?_,KQ c⟩;cases v<;>first|(cases a;done)|skip
  rename_i z t;exact⟨t,by rw[show y=z by simpa[EC]using a]⟩
 | [],_::_,h=>by cases h
 |_::_,[],h=>by cases h
def mR(ks:List (Option Str)):TK:=ks.map (Option.map Sum.inr)
noncomputable def yE (kt:List (List (Option Str)))(vt:ak)(a:Addr):List (TK×Addr×Value):=(List.range kt.length).map λk=>(mR (kt.getD k []),a+1+k,vt.getD k .none)
theorem Vh{x:Str}{a:Addr}{kt:List (List (Option Str))}{vt:ak}{tk:List (ak)}{hx:Option Str->Int}(h:mg x=some (.ref a))(l:K.lookup a=some D)(d:(a==sysModules)=false)
 (c:D=⟨.type "dict",none,.dict ((List.range kt.length).map λk=>(⟨reduceHash (Builtin.Tuple.tupleHashOf ((kt.getD k []).map hx)),.ref (a+1+k),vt.getD k .none⟩:DictEntry)).toArray kt.length,#[]⟩) (g:∀o:Option Str,hx o=wQ w (o.map Sum.inr))
 (j:((List.range kt.length).map λk=>K.lookup (a+1+k))=(List.range kt.length).map λk=>some (HD.tup (tk.getD k [])))
 (f:((List.range kt.length).all λk=>zW (mR (kt.getD k [])) (tk.getD k []))=true) (i:((yE kt vt a).map (·.1)).Nodup) (m:BZ kvs (yE kt vt a)=true):qd P w K mg x kvs:=by
 subst c;refine Vi (xs:=yE kt vt a) h l d ⟨rfl,rfl,rfl⟩ ?_ (λy n=>?_) i (KQ m)
 . unfold yE
   rw[bT];refine mS λk _=>?_
   have e:(kt.getD k []).map hx=(mR (kt.getD k [])).map (wQ w):=by unfold mR;rw[bT];exact mS λo _=>g o
   show(⟨reduceHash (Builtin.Tuple.tupleHashOf ((kt.getD k []).map hx)),_,_⟩:DictEntry)=_;rw[e];rfl
 . obtain⟨k,b,rfl⟩:=aV.mp n
   exact⟨_,_,_,List.map_inj_left.mp j k b,rfl,rfl,Jc (ff.mp f k b)⟩
end
theorem U3{x y:Str}{t l:α}(h:List.lookup x [(y,t)]=some l):x=y/\l=t:=by
 rw[mV]at h
 by_cases z:x=y
 . subst z;rw[beq_self_eq_true]at h;cases h;exact⟨rfl,rfl⟩
 . rw[show(x==y)=false by simpa using z]at h;cases h
open PySem.W
def rQ(P:Addr)(pos:Pos)(q:Str):RM:=λb=>if b=P then some (.tb P pos q)else none
theorem Jv{P:Addr}{q:Str}:rQ P pos q P=some (.tb P pos q):=ai rfl
theorem U2{P b:Addr}{q:Str}(h:b≠P):rQ P pos q b=none:=ae h
theorem SQ{K:Frag}{Y a T c:Addr}{q:Str}{x:Str}{sp:bX}{f:Shared}{vs:ak}{ns:List Int}
 (KX:K.In f.heap) (hT:K.lookup T=none) (gT:f.heap.get? T=some (tabObj #[])) (C:CodeHd f.heap c T) (Q:f.heap.Ns mainGlobals mg) (g:f.heap.Ns builtinsNs mb) (hbb:∀x:Str,x≠"__name__"->mb x=bootBuiltins x) (O:f.heap.NoLimit) (hg:f.gens= #[])
 (I:f.heap.get? a=some { cls:=.type "list",data:=.seq vs.toArray }) (hi:IntsAre vs ns) (hl:ns.length<=sizeLine) (hr:aI k callerA)
 (F:∀l:Heap,K.In l->l.Ns mainGlobals mg->dz PR w K mg l fh k Y fd [x] (fH K sp)) (E:∀s u,BindsTo s fd ⟨[u],[]⟩ [(x,u)])
 (hsp:sp [.ls (ns.map RV.int)] (rQ T pos q) λv U=>v= .bl true/\U T=some (.tb T pos q)):
 codeAny (model PR w) callerA (.call (.ref Y) ⟨[.ref a],[]⟩) (λr t=>r= .ok (.ret (.bool true))/\OldK f.heap t.heap/\t.os=f.os/\AllBare t.gens) f:=by
 have rv:=L2.bA hi;have R:=hi.length;have X:a≠T:=λz=>by rw[z,gT]at I;cases I
 have A:∀H:Hp,H T=some (.ext (fS T pos none))->Fz K H a (ns.map V.int)->cM PR w H f.heap->(∀b,H b≠none->b=T∨b=a/\∃o u,H a=some (.aZ o u))->(H a≠none->K.lookup a=none)->
  codeAny (model PR w) callerA (.call (.ref Y) ⟨[.ref a],[]⟩) (λr t=>r= .ok (.ret (.bool true))/\OldK f.heap t.heap/\t.os=f.os/\AllBare t.gens) f:=by
  intro H hHT hS av hA hK;have nd:∀{b:Addr} {o:Obj} {M:Array DictEntry} {L:Nat},f.heap.get? b=some o->o.data= .dict M L->H b=none:=λ{b o M L} e d=>by
   cases z:H b with
   |none=>rfl
   |some u=>
    rcases hA b (by rw[z];simp)with y|⟨y,_⟩
    . rw[y,gT]at e;cases e;cases d
    . rw[y,I]at e;cases e
      have d':Data.seq vs.toArray _=Data.dict M L:=d;cases d'
  have n:∀{b:Addr} {m:bo},f.heap.Ns b m->(iD f.heap H).Ns b m:=λ{b m} ⟨o,M,L,e,d,r⟩=>⟨o,M,L,AL e (nd e d),d,r⟩
  have N:K.In (iD f.heap H):=λb o e=>AL (KX b o e) (by
   cases z:H b with
   |none=>rfl
   |some u=>
    rcases hA b (by rw[z];simp)with y|⟨y,_⟩
    . rw[y,hT]at e;cases e
    . rw[y,hK (by rw[<-y,z];simp)]at e;cases e)
  have hM:Mod K mg (iD f.heap H):=⟨N,n Q,⟨mb,n g,hbb⟩,let⟨mc,h1,h2⟩:=O;⟨mc,n h1,h2⟩⟩;have e0:fT PR w K mg (iD f.heap H) callerA [] f H:=⟨rfl,hM,λb o e=>JO e,Nat.le_of_eq (IF _ _),trivial,λb g=>ba (show b∈([]:List Addr)from g) (by simp),av,.of_eq hg⟩
  have up:fH K sp [.ref a] H (λv W=>v= .bl true/\∃o,W T=some (.ext (fS T pos o))) λ_ _ _=>False:=by
   refine⟨[.ls (ns.map RV.int)],rQ T pos q,λv U=>v= .bl true/\U T=some (.tb T pos q),aa.cons (by simp only[Rep];exact⟨a,_,rfl,hS,Av ns⟩) aa.nil,λb o e=>?_,hsp,λrv U v W z _ w' r=>?_⟩
   . by_cases g:b=T
     . subst g;rw[Jv]at e;cases e;exact⟨_,hHT,.inl rfl⟩
     . rw[U2 g]at e;cases e
   . obtain⟨rfl,z⟩:=z
     obtain⟨ho,e1,e2⟩:=w' T _ z;simp only[Rep]at r;rcases e2 with rfl|⟨c',_,_,_,rfl,_⟩
     . exact⟨r,none,e1⟩
     . exact⟨r,some c',e1⟩
  refine codeAny_mono ((F _ N (n Q)).run callerA [] f H ⟨[.ref a],[]⟩ [.ref a] [.ref a] _ _ hr e0 (E f (.ref a)) (.cons rfl .nil) up) λr t h=>?_
  cases r with
  |error e=>exact False.elim h
  |ok fl=>
   cases fl with
   |next=>exact False.elim h
   |brk=>exact False.elim h
   |cont=>exact False.elim h
   |ret u=>
    obtain⟨v,W,os,J,un,D,r',q',o,hT'⟩:=h;subst q';obtain rfl:u=Value.bool true:=r';have Z:fS T pos o t.heap:=(D T _ hT').1;refine⟨rfl,⟨λb ob e=>?_,λb ob e=>un.there b ob e (by simp)⟩,os,J⟩
    cases z:H b with
    |none=>exact .inl (un.keep b ob e z (by intro z;exact ba (show b∈([]:List Addr)from z) (by simp)) (by simp))
    |some u=>
     rcases hA b (by rw[z];simp)with rfl|⟨rfl,ob',u',j⟩
     . rw[gT]at e;cases e
       refine .inr (.inl ⟨(C.tab gT).isCodeTable,rfl,#[],match o with|none=>#[]|some c=>#[rawInt pos.line,rawInt pos.col,.ref c],rfl,?_⟩)
       cases o<;>exact Z
     . have z2:=un.aJ b ob' u' j
       have e1:=(av b _ j).1;rw[e]at e1;cases e1;exact .inl (D b _ z2).1
 cases hk:K.lookup a with
 |some o=>
  have e:=KX a o hk;rw[I]at e;cases e;refine A (λb=>if b=T then some (.ext (fS T pos none))else none) (ai rfl) (.inr ⟨_,vs.toArray,_,hk,rfl,rfl,rfl,by rw[cZ,R];exact hl,by simpa using rv⟩) (λb u z=>?_) (λb z=>?_) λz=>ba (ae X) z
  . by_cases g:b=T
    . subst g;have j:=(ai rfl).symm.trans z;cases j;exact Bc gT
    . have j:=(ae g).symm.trans z;cases j
  . by_cases g:b=T
    . exact .inl g
    . exact ba (ae g) z
 |none=>
  refine A (λb=>if b=T then some (.ext (fS T pos none))else if b=a then some (.aZ { cls:=.type "list",data:=.seq vs.toArray } (.lst (ns.map V.int)))else none) (ai rfl) (.inl ⟨_,(ae X).trans (ai rfl)⟩) (λb u z=>?_) (λb z=>?_) λ_=>hk
  . by_cases g:b=T
    . subst g;have j:=(ai rfl).symm.trans z;cases j;exact Bc gT
    . by_cases i:b=a
      . have j:=((ae g).trans (ai i)).symm.trans z
        cases j;subst i;exact⟨I,by rw[bu];exact hl,vs,_,rv,I⟩
      . have j:=((ae g).trans (ae i)).symm.trans z;cases j
  . by_cases g:b=T
    . exact .inl g
    . by_cases i:b=a
      . exact .inr ⟨i,_,_,(ae X).trans (ai rfl)⟩
      . exact ba ((ae g).trans (ae i)) z
theorem jC{l:OpenLaw}{n k:Nat}{q:Program}{loose:aA}{d:DefRec}{K:Params->Frag}{sp:bX}{x:Str}{T c:Addr}
 (U:l.most=some n) (A:n<=sizeLine) (y:d.params.defaults= []) (W:aI k callerA)
 (N:∀w h,YP w h->(K w.params).In h/\h.get? T=some (tabObj #[])) (M:∀p,(K p).lookup T=none) (J:∀p h,(K p).In h->CodeHd h c T)
 (F:∀w i m h,(K w.params).In h->h.Ns mainGlobals i->i d.name=some (.ref m)->
  ∃t:FuncData,(∀s u,BindsTo s t ⟨[u],[]⟩ [(x,u)])/\
   ∀b:Heap,(K w.params).In b->b.Ns mainGlobals i->dz l.prog w (K w.params) i b fh k m t [x] (fH (K w.params) sp))
 (C:∀ns:List Int,ns.length<=n->sp [.ls (ns.map RV.int)] (rQ T pos lq) λv H=>v= .bl true/\H T=some (.tb T pos lq)):
 WalkO q loose XP YP l.row.toRowW d [] (λf vs=>PySem.call f vs):=by
 refine Att.d7 U y λw D E i mb m o pm cd I a vs ns G Y Z X Q z j g e R=>?_
 obtain⟨r,gT⟩:=N w _ Y;obtain⟨t,O,L⟩:=F w i m _ r G.T.g z;exact SQ r (M _) gT (J _ _ r) G.T.g G.T.b G.T.builtins G.T.nolimit R j g (bR e A) W L O (C ns e)
end R
namespace H20
open PySem PySem.W PyProof.Rows HD
variable(P:Params)
abbrev p:=PySem.Challenge.pw_lentgate_k20_whole_no_answer_astray
abbrev body:=behindTheImports p
abbrev top(i:Nat):Stmt:=Y9 p i
def env:Env:={ scope:=p.main.scope,locals:=mainNs,globals:=mainNs,cells:=[],code:=.ref 13,frame:=some 14 }
def cd:Code:=.body body env
def ann:cN:=some (.ref 6)
def q0:Pos:=⟨0,0,0,0⟩
noncomputable def B:List Frame:=[topFrame q0]
abbrev wf(w:World)(b:Bool):World:=w.withFollow "special-get-raises" b
noncomputable section
abbrev Dl:Value:=.str "__main__" 164
abbrev eY:Value:=.str "lentgate.ends" 194
abbrev qW:Value:=.str "lentgate.forms" 475
abbrev qX:Value:=.str "lentgate.lines" 565
abbrev jh:Value:=.str "lentgate.rules" 711
abbrev gY:Value:=.str "lentgate.pool" 794
abbrev et:Value:=.str "lentgate.talks" 894
abbrev cy:Value:=.str "lentgate.gate" 1101
abbrev iU:Value:=.str "law_lentgate_k20_whole_no_answer_astray" 1425
noncomputable def cO (n q:Str)(a:Nat)(L k f:Int)(r:Nat)(b:Bool)(z:Value):Obj:=CW [.str n a,.str q (a+1),.str "/claim/cut.py" (a+2),.int L 0,.int k 0,.int 0 0,.int 0 0,.int f 0,.ref r,.bool b,.int 181 0,.ref (r+1),.none,.none,.none,z,.int ((a+3:Nat):Int) 0,.int L 0,.str "/claim/cut.py" (a+4)]
noncomputable def cC (n:Str)(a:Nat)(L:Int)(r:Nat):Obj:=cO n n a L 0 0 r false .none
noncomputable def cF (n q:Str)(a:Nat)(L k:Int)(r:Nat):Obj:=cO n q a L k 3 r true (.ref (r+2))
noncomputable def lS (b:Nat)(v:Value):Obj:=⟨.type "frame",none,.plain,#[some (.ref (b+3)),some (.ref 3),some (.ref b),none,some v,none,some (.ref 0)]⟩
noncomputable def CV (n:Str)(bs rs:ak)(k:Nat)(c:ak)(x:cN)(a b:Nat)(w:String):Obj:=⟨.type "type",none,.cls { name:=n,bases:=bs,mro:=.ref (k+1)::rs,ns:=k,qualname:=n,hasDict:=true,slotNames:=[],subclasses:=c,abstract:=false,collection:=none,hasDel:=false },#[x,none,some (.str n a),some (.str n b),some (.builtin w),some (.bool true)]⟩
noncomputable def sP (n:Str)(k a:Nat):Obj:=CV n [.type "object"] [.type "object"] k [] none a (a+8) "object.__new__"
noncomputable def ou (n:Str)(b:Value)(rs:ak)(k:Nat)(c:ak)(x a:Nat):Obj:=CV n [b] (rs++ [.type "ValueError",.type "Exception",.type "BaseException",.type "object"]) k c (some (.ref x)) a (a+8) "ValueError.__new__"
noncomputable def gD (t r:Nat):Obj:=⟨.type "getset_descriptor",none,.fields #[.str "__dict__" t,.ref r,.builtin "function.__dict__",.builtin "function.__dict__#set"],#[]⟩
noncomputable def gW (t r:Nat):Obj:=⟨.type "getset_descriptor",none,.fields #[.str "__weakref__" t,.ref r,.builtin "ExceptionGroup.__weakref__",.none],#[]⟩
noncomputable def sU (r:Nat):Obj:=⟨.type "super",none,.fields #[.ref r,.ref r,.ref r],#[]⟩
noncomputable def iS (r:Nat):Obj:=⟨.type "builtin_function_or_method",none,.fields #[.builtin "object.__init_subclass__",.ref r],#[]⟩
noncomputable def Di (c:Int)(l:List (Int×Nat)):ak:=l.flatMap λx=>[.int x.1 0,.int c 0,.ref x.2]
noncomputable def tf (l:List (Int×Nat)):Obj:=⟨.none,none,.fields (Di 4 l).toArray,#[]⟩
noncomputable def rE (l:List (String×Nat×Nat)):List DictEntry:=l.map λx=>e1 P x.1 x.2.1 (.ref x.2.2)
noncomputable def nB (v:Value)(n:Str)(t:Nat)(L:Int)(l:List (String×Nat×Nat))(a b:Nat):Obj:=eS ([e1 P "__module__" t v,e1 P "__qualname__" (t+2) (.str n (t+1)),e1 P "__firstlineno__" (t+4) (.int L (t+3))]++rE P l++ [e1 P "__static_attributes__" a (.ref b)]) (l.length+4)
noncomputable def nA (v:Value)(t:Nat)(L:Int)(l:List (String×Nat×Nat))(a b:Nat)(es:List DictEntry)(k:Nat):Obj:=eS ([e1 P "__module__" t v,e1 P "__firstlineno__" (t+4) (.int L (t+3))]++rE P l++ [e1 P "__static_attributes__" a (.ref b)]++es) k
noncomputable def nF (v:Value)(t:Nat)(L:Int)(l:List (String×Nat×Nat))(a b:Nat):Obj:=nA P v t L l a b [e1 P "__dict__" (a+2) (.ref (b+3)),e1 P "__weakref__" (a+4) (.ref (b+4)),e1 P "__doc__" (a+5) .none] 4
noncomputable def ns:List DictEntry:=[e1 P "__name__" 165 iU,e1 P "__doc__" 166 (.none),e1 P "__package__" 167 (.none),e1 P "__loader__" 168 (.builtin "__main__.__loader__#opaque"),e1 P "__spec__" 169 (.none),e1 P "__annotations__" 170 (.ref 6),e1 P "__builtins__" 171 (.ref 4),e1 P "__file__" 173 (.str "/claim/cut.py" 172),e1 P "__cached__" 174 (.none),e1 P "_wall" 193 (.ref 21),e1 P "GREATEST_HOUSE" 197 (.int 99 196),e1 P "GREATEST_DOOR" 199 (.int 9999 198),e1 P "GREATEST_PLACE" 201 (.int 1000000 200),e1 P "GREATEST_TICKS" 203 (.int 1000000 202),e1 P "GREATEST_RULE" 205 (.int 1000000 204),e1 P "MOST_SIGNS" 207 (.int 40 206),e1 P "FIRST_SIGN" 209 (.int 32 208),e1 P "LAST_SIGN" 211 (.int 126 210),e1 P "PERCENT_SIGN" 213 (.int 37 212),e1 P "KINDS" 216 (.ref 22),e1 P "NOTE_WORDS" 218 (.ref 23),e1 P "LINE_WORDS" 223 (.ref 24),e1 P "is_whole" 230 (.ref 31),e1 P "is_whole_within" 239 (.ref 38),e1 P "is_house" 246 (.ref 45),e1 P "is_door" 253 (.ref 52),e1 P "is_place" 260 (.ref 59),e1 P "is_outer_place" 267 (.ref 66),e1 P "is_ticks" 274 (.ref 73),e1 P "is_kind" 281 (.ref 80),e1 P "is_word" 289 (.ref 87),e1 P "is_sign" 297 (.ref 94),e1 P "is_text" 303 (.ref 99),e1 P "is_letter" 312 (.ref 106),e1 P "is_out" 326 (.ref 113),e1 P "is_come" 339 (.ref 120),e1 P "is_lost" 351 (.ref 127),e1 P "is_wait" 358 (.ref 134),e1 P "is_rule" 370 (.ref 141),e1 P "is_unrule" 377 (.ref 148),e1 P "DEEDS" 390 (.ref 149),e1 P "name_of" 397 (.ref 156),e1 P "is_deed" 406 (.ref 163),e1 P "GateError" 426 (.ref 173),e1 P "NoForm" 442 (.ref 186),e1 P "NoDeed" 458 (.ref 198),e1 P "NoRule" 474 (.ref 210),e1 P "LENDINGS" 480 (.ref 213),e1 P "SIEVES" 484 (.ref 214),e1 P "PICKS" 487 (.ref 215),e1 P "WIDEST_STEP" 489 (.int 199 488),e1 P "GREATEST_MOST" 491 (.int 200 490),e1 P "GREATEST_TIME" 493 (.int 1000000 492),e1 P "TIME_AT" 512 (.ref 216),e1 P "is_pool" 520 (.ref 223),e1 P "is_times" 526 (.ref 228),e1 P "is_form" 541 (.ref 235),e1 P "holder_of" 555 (.ref 242),e1 P "time_of" 564 (.ref 249),e1 P "LINE_STEPS" 677 (.ref 250),e1 P "BREAKABLE" 683 (.ref 265),e1 P "note_state" 691 (.ref 272),e1 P "line_state" 700 (.ref 279),e1 P "next_state" 710 (.ref 286),e1 P "Rules" 793 (.ref 338),e1 P "Pool" 893 (.ref 411),e1 P "Talk" 930 (.ref 432),e1 P "Talks" 1100 (.ref 552),e1 P "Gate" 1424 (.ref 760),e1 P "_law_cell" 1434 (.ref 771),e1 P "_law_well" 1442 (.ref 778),e1 P "_law_take" 1453 (.ref 785),e1 P "_law_bag_at" 1462 (.ref 792),e1 P "_law_a_form" 1468 (.ref 797),e1 P "_law_later" 1474 (.ref 802),e1 P "_law_gone_on" 1487 (.ref 809),e1 P "_law_a_world" 1493 (.ref 814),e1 P "_law_wrote" 1499 (.ref 819),e1 P "law" 1514 (.ref 826)]
noncomputable def tb:ak:=Di 0 [(1,20),(17,30),(19,37),(21,44),(23,51),(25,58),(27,65),(29,72),(31,79),(33,86),(37,93),(40,98),(44,105),(46,112),(51,119),(56,126),(61,133),(63,140),(70,147),(73,155),(77,162),(84,169),(86,182),(88,194),(90,206),(100,222),(102,227),(107,234),(116,241),(124,248),(130,271),(134,278),(138,285),(143,292),(171,348),(215,421),(222,442),(305,562),(476,770),(480,777),(484,784),(494,791),(500,796),(509,801),(512,808),(521,813),(526,818),(546,825)]
abbrev zS:=df "_wall" "_wall" (top 0) 15 187 1 1 ["k"] Dl
abbrev wy:=df "is_whole" "is_whole" (top 14) 25 224 17 1 ["thing"] eY
abbrev wz:=df "is_whole_within" "is_whole_within" (top 15) 32 231 19 3 ["thing","least","greatest"] eY
abbrev wA:=df "is_house" "is_house" (top 16) 39 240 21 1 ["thing"] eY
abbrev wB:=df "is_door" "is_door" (top 17) 46 247 23 1 ["thing"] eY
abbrev wC:=df "is_place" "is_place" (top 18) 53 254 25 1 ["thing"] eY
abbrev wD:=df "is_outer_place" "is_outer_place" (top 19) 60 261 27 1 ["thing"] eY
abbrev wF:=df "is_ticks" "is_ticks" (top 20) 67 268 29 1 ["thing"] eY
abbrev wG:=df "is_kind" "is_kind" (top 21) 74 275 31 1 ["thing"] eY
abbrev wH:=df "is_word" "is_word" (top 22) 81 282 33 2 ["kind","thing"] eY
abbrev wJ:=df "is_sign" "is_sign" (top 23) 88 290 37 1 ["sign","at"] eY
abbrev j3:=df "is_letter" "is_letter" (top 25) 100 304 44 3 ["kind","word","text"] eY
noncomputable abbrev j4:=df "is_out" "is_out" (top 26) 107 313 46 1 ["parts","kind","house","door","place","far","word","text"] eY
noncomputable abbrev j5:=df "is_come" "is_come" (top 27) 114 327 51 1 ["parts","kind","place","far","number","word","text"] eY
noncomputable abbrev oA:=df "is_lost" "is_lost" (top 28) 121 340 56 1 ["parts","teller","kind","number","place","far"] eY
abbrev j6:=df "is_wait" "is_wait" (top 29) 128 352 61 1 ["parts"] eY
noncomputable abbrev oB:=df "is_rule" "is_rule" (top 30) 135 359 63 1 ["parts","kind","number","place","house","door"] eY
abbrev oC:=df "is_unrule" "is_unrule" (top 31) 142 371 70 1 ["parts"] eY
abbrev j7:=df "name_of" "name_of" (top 33) 150 391 73 1 ["thing"] eY
abbrev j8:=df "is_deed" "is_deed" (top 34) 157 398 77 1 ["thing","name","has_parts"] eY
abbrev j9:=df "is_pool" "is_pool" (top 48) 217 513 100 2 ["low","high"] qW
noncomputable abbrev ka:=df "is_form" "is_form" (top 50) 229 527 107 1 ["thing","low","high","lending","sieve","pick","most","renew","times"] qW
noncomputable abbrev ke:=df "holder_of" "holder_of" (top 51) 236 542 116 2 ["form","inner","kind","house","door","place","far","lending"] qW
abbrev kf:=df "time_of" "time_of" (top 52) 243 556 124 2 ["form","state","times"] qW
abbrev kj:=df "note_state" "note_state" (top 56) 266 684 130 2 ["state","word"] qX
abbrev kl:=df "line_state" "line_state" (top 57) 273 692 134 3 ["state","side","word"] qX
abbrev km:=df "next_state" "next_state" (top 58) 280 701 138 4 ["kind","state","side","word"] qX
abbrev kn:=df "__init__" "Rules.__init__" (sub (top 60) 0) 294 725 145 1 ["self"] jh
noncomputable abbrev oE:=df "tell" "Rules.tell" (sub (top 60) 1) 301 732 149 6 ["self","kind","number","place","house","door","told"] jh
abbrev oF:=df "stands" "Rules.stands" (sub (top 60) 2) 308 745 155 2 ["self","k"] jh
abbrev oG:=df "drop" "Rules.drop" (sub (top 60) 3) 315 753 158 2 ["self","k"] jh
noncomputable abbrev oH:=df "door_for" "Rules.door_for" (sub (top 60) 4) 322 761 161 4 ["self","kind","number","place","rule_kind","rule_number","rule_place","house","door","fits_place"] jh
abbrev oI:=df "listed" "Rules.listed" (sub (top 60) 5) 329 777 168 1 ["self"] jh
abbrev kq:=df "__init__" "Pool.__init__" (sub (top 62) 0) 350 808 173 3 ["self","low","high"] gY
abbrev kr:=df "has" "Pool.has" (sub (top 62) 1) 357 817 180 2 ["self","number"] gY
abbrev ku:=df "is_free" "Pool.is_free" (sub (top 62) 2) 364 825 183 3 ["self","number","moment"] gY
abbrev kA:=df "from_mark" "Pool.from_mark" (sub (top 62) 3) 371 834 188 1 ["self"] gY
noncomputable abbrev kC:=df "picked" "Pool.picked" (sub (top 62) 4) 378 841 191 4 ["self","pick","door","moment","number"] gY
abbrev kD:=df "take" "Pool.take" (sub (top 62) 5) 385 852 199 2 ["self","number"] gY
noncomputable abbrev kE:=df "give" "Pool.give" (sub (top 62) 6) 392 860 205 3 ["self","number","until"] gY
noncomputable abbrev kF:=df "__init__" "Talk.__init__" (sub (top 64) 0) 423 908 217 5 ["self","inner","number","state","over"] et
abbrev kG:=df "__init__" "Talks.__init__" (sub (top 65) 0) 444 943 224 2 ["self","form"] et
abbrev kH:=df "of_inner" "Talks.of_inner" (sub (top 65) 1) 451 951 233 2 ["self","inner"] et
noncomputable abbrev kI:=df "of_outer" "Talks.of_outer" (sub (top 65) 2) 458 959 236 5 ["self","kind","number","place","far"] et
abbrev kJ:=df "living" "Talks.living" (sub (top 65) 4) 470 976 244 1 ["self"] et
abbrev oJ:=df "is_living" "Talks.is_living" (sub (top 65) 5) 477 983 247 2 ["self","talk"] et
abbrev kK:=df "number_of" "Talks.number_of" (sub (top 65) 6) 484 991 250 2 ["self","inner"] et
abbrev kL:=df "holder_at" "Talks.holder_at" (sub (top 65) 7) 491 999 253 2 ["self","number"] et
abbrev oM:=df "lent_until" "Talks.lent_until" (sub (top 65) 9) 503 1013 259 2 ["self","number"] et
noncomputable abbrev kM:=df "lend" "Talks.lend" (sub (top 65) 10) 510 1021 262 3 ["self","number","inner","holder"] et
abbrev kN:=df "end_lend" "Talks.end_lend" (sub (top 65) 11) 517 1031 268 3 ["self","number","moment"] et
noncomputable abbrev kO:=df "begin" "Talks.begin" (sub (top 65) 12) 524 1040 273 4 ["self","inner","number","state","kind","house","door","place","far","talk"] et
abbrev kQ:=df "lead" "Talks.lead" (sub (top 65) 13) 531 1056 281 3 ["self","talk","state"] et
noncomputable abbrev kU:=df "end" "Talks.end" (sub (top 65) 14) 538 1065 288 3 ["self","talk","moment","kind","house","door","place","far","number"] et
abbrev kW:=df "__init__" "Gate.__init__" (sub (top 67) 0) 564 1115 307 2 ["self","form"] cy
noncomputable abbrev kX:=df "deed" "Gate.deed" (sub (top 67) 1) 571 1123 316 2 ["self","deed","answer"] cy
noncomputable abbrev kY:=df "out" "Gate.out" (sub (top 67) 2) 578 1132 323 8 ["self","kind","house","door","place","far","word","text"] cy
noncomputable abbrev oO:=df "come" "Gate.come" (sub (top 67) 3) 585 1146 326 7 ["self","kind","place","far","number","word","text"] cy
abbrev oP:=df "lost" "Gate.lost" (sub (top 67) 4) 592 1159 329 6 ["self","teller","kind","number","place","far"] cy
abbrev kZ:=df "wait" "Gate.wait" (sub (top 67) 5) 599 1171 332 2 ["self","ticks"] cy
abbrev oQ:=df "rule" "Gate.rule" (sub (top 67) 6) 606 1179 335 6 ["self","kind","number","place","house","door"] cy
abbrev oT:=df "unrule" "Gate.unrule" (sub (top 67) 7) 613 1191 338 2 ["self","k"] cy
abbrev k7:=df "moment" "Gate.moment" (sub (top 67) 8) 620 1199 341 1 ["self"] cy
abbrev oU:=df "free" "Gate.free" (sub (top 67) 9) 627 1206 344 1 ["self"] cy
abbrev oW:=df "talks" "Gate.talks" (sub (top 67) 11) 639 1219 350 1 ["self"] cy
abbrev oX:=df "rests" "Gate.rests" (sub (top 67) 12) 646 1226 353 1 ["self"] cy
abbrev oY:=df "rules" "Gate.rules" (sub (top 67) 13) 653 1233 356 1 ["self"] cy
abbrev oZ:=df "book" "Gate.book" (sub (top 67) 14) 660 1240 359 1 ["self"] cy
noncomputable abbrev k8:=df "answered" "Gate.answered" (sub (top 67) 15) 667 1247 362 3 ["self","name","parts","kind","place","far","number","word","text"] cy
noncomputable abbrev k9:=df "sent" "Gate.sent" (sub (top 67) 16) 674 1262 377 2 ["self","parts","kind","house","door","place","far","word","text","answer","number"] cy
noncomputable abbrev lj:=df "lead_out" "Gate.lead_out" (sub (top 67) 17) 681 1279 385 3 ["self","inner","word","talk","state"] cy
noncomputable abbrev lu:=df "begin_out" "Gate.begin_out" (sub (top 67) 18) 688 1290 395 3 ["self","inner","state","number"] cy
noncomputable abbrev lx:=df "picked_for" "Gate.picked_for" (sub (top 67) 19) 695 1300 407 2 ["self","door","pool","now"] cy
noncomputable abbrev lz:=df "come_in" "Gate.come_in" (sub (top 67) 20) 702 1310 413 6 ["self","kind","place","far","number","word","talk"] cy
noncomputable abbrev lA:=df "lead_in" "Gate.lead_in" (sub (top 67) 21) 709 1323 421 3 ["self","talk","word","kind","house","door","place","far","state","renew"] cy
noncomputable abbrev lD:=df "sifted" "Gate.sifted" (sub (top 67) 22) 716 1339 431 4 ["self","kind","place","number","holder"] cy
noncomputable abbrev lE:=df "lets_note_in" "Gate.lets_note_in" (sub (top 67) 23) 723 1350 439 3 ["self","place","number","sieve"] cy
noncomputable abbrev o6:=df "come_by_rule" "Gate.come_by_rule" (sub (top 67) 24) 730 1360 443 6 ["self","kind","place","far","number","word","to","house","door","state","inner"] cy
noncomputable abbrev o7:=df "told_lost" "Gate.told_lost" (sub (top 67) 25) 737 1377 457 2 ["self","parts","teller","kind","number","place","far","talk"] cy
abbrev o8:=df "rule_told" "Gate.rule_told" (sub (top 67) 26) 744 1391 464 2 ["self","parts","kind","number","place","house","door"] cy
abbrev o9:=df "rule_dropped" "Gate.rule_dropped" (sub (top 67) 27) 751 1404 470 2 ["self","k"] cy
abbrev lF:=df "_law_cell" "_law_cell" (top 69) 765 1427 476 2 ["script","k"] iU
abbrev lG:=df "_law_well" "_law_well" (top 70) 772 1435 480 2 ["cell","turn"] iU
noncomputable abbrev lJ:=df "_law_take" "_law_take" (top 71) 779 1443 484 2 ["bag","many","found","p","n"] iU
noncomputable abbrev lL:=df "_law_bag_at" "_law_bag_at" (top 72) 786 1454 494 2 ["cells","k","bag"] iU
noncomputable abbrev lM:=df "_law_gone_on" "_law_gone_on" (top 75) 803 1475 512 3 ["gate","row","till","moment","deed","asker","found"] iU
noncomputable abbrev lQ:=df "law" "law" (top 78) 820 1500 546 1 ["script","bag","road","form","world","gate","row","cells","k"] iU
def v7:Obj:=tup []
def v13:Obj:=cC "<module>" 182 1 11
noncomputable def v14:Obj:=⟨.type "frame",none,.plain,#[some (.ref 13),some (.ref 3),some (.ref 3),none,some Dl,none,some (.ref 0)]⟩
noncomputable def ND:Obj:=tup [.str "note" 214,.str "line" 215]
def NF:Obj:=tup [.str "say" 217]
noncomputable def NG:Obj:=tup [.str "open" 219,.str "say" 220,.str "close" 221,.str "break" 222]
noncomputable def v8:Obj:=⟨.none,none,.fields #[],#[]⟩
def OH:Obj:=iF "is_text" "is_text" (top 24)
def Fv:Obj:=cF "is_text" "is_text" 298 40 1 95
def Fu:Obj:=gM "is_text" "is_text" (top 24) eY (.ref 98)
def qE:Obj:=eS (rE P [("out",378,113),("come",379,120),("lost",380,127),("wait",381,134),("rule",382,141),("unrule",383,148)]) 6
def Ft:Obj:=tup [.type "ValueError"]
noncomputable def fR:Obj:=⟨.type "builtin_function_or_method",none,.fields #[.builtin "type.__prepare__",.type "type"],#[]⟩
def Fs:Obj:=nB P (.str "lentgate.errors" 407) "GateError" 416 84 [] 421 171
def Fq:Obj:=cC "GateError" 411 84 167
def Fp:Obj:=lS 166 (.str "lentgate.errors" 407)
def Fo:Obj:=nA P (.str "lentgate.errors" 407) 416 84 [] 421 171 [e1 P "__weakref__" 423 (.ref 174),e1 P "__doc__" 424 (.none)] 3
def OG:Obj:=ou "GateError" (.type "ValueError") [] 172 [] 164 409
def Fn:Obj:=gW 422 173
def Fl:Obj:=sU 173
def Fj:Obj:=iS 173
def OF:Obj:=ou "GateError" (.type "ValueError") [] 172 [.ref 186] 164 409
def sh:Obj:=tup [.ref 173]
def Fi:Obj:=nB P (.str "lentgate.errors" 407) "NoForm" 434 86 [] 439 184
def Fh:Obj:=cC "NoForm" 429 86 180
def Fg:Obj:=lS 179 (.str "lentgate.errors" 407)
def Ff:Obj:=nA P (.str "lentgate.errors" 407) 434 86 [] 439 184 [e1 P "__doc__" 440 (.none)] 2
def Fe:Obj:=ou "NoForm" (.ref 173) [.ref 173] 185 [] 177 427
def Fd:Obj:=sU 186
def Fc:Obj:=iS 186
def OE:Obj:=ou "GateError" (.type "ValueError") [] 172 [.ref 186,.ref 198] 164 409
def Fb:Obj:=nB P (.str "lentgate.errors" 407) "NoDeed" 450 88 [] 455 196
def E9:Obj:=cC "NoDeed" 445 88 192
def E8:Obj:=lS 191 (.str "lentgate.errors" 407)
def E7:Obj:=nA P (.str "lentgate.errors" 407) 450 88 [] 455 196 [e1 P "__doc__" 456 (.none)] 2
def E6:Obj:=ou "NoDeed" (.ref 173) [.ref 173] 197 [] 189 443
def E5:Obj:=sU 198
def E4:Obj:=iS 198
def Dx:Obj:=ou "GateError" (.type "ValueError") [] 172 [.ref 186,.ref 198,.ref 210] 164 409
def Dw:Obj:=nB P (.str "lentgate.errors" 407) "NoRule" 466 90 [] 471 208
def Dv:Obj:=cC "NoRule" 461 90 204
def Du:Obj:=lS 203 (.str "lentgate.errors" 407)
def Dt:Obj:=nA P (.str "lentgate.errors" 407) 466 90 [] 471 208 [e1 P "__doc__" 472 (.none)] 2
def Ds:Obj:=ou "NoRule" (.ref 173) [.ref 173] 209 [] 201 459
def Dr:Obj:=sU 210
def Dq:Obj:=iS 210
noncomputable def Dp:Obj:=tup [.str "door" 477,.str "place" 478,.str "talk" 479]
noncomputable def Dm:Obj:=tup [.str "all" 481,.str "place" 482,.str "talk" 483]
noncomputable def DZ:Obj:=tup [.str "next" 485,.str "keep" 486]
noncomputable def qF:Obj:=eS [e1 P "note" 494 (.int 0 495),e1 P "asked" 496 (.int 1 497),e1 P "called" 498 (.int 1 499),e1 P "up" 500 (.int 2 501),e1 P "near" 502 (.int 2 503),e1 P "far" 504 (.int 2 505)] 6
def OD:Obj:=iF "is_times" "is_times" (top 49)
def DY:Obj:=cF "is_times" "is_times" 521 102 1 224
def DX:Obj:=gM "is_times" "is_times" (top 49) qW (.ref 227)
noncomputable def DW:Obj:=tup [.str "house" 567,.none,.str "open" 568]
def DV:Obj:=tup [.str "house" 570,.str "asked" 571,.str "open" 572]
def DU:Obj:=tup [.str "house" 574,.str "called" 575,.str "open" 576]
def DT:Obj:=tup [.str "house" 578,.str "up" 579,.str "say" 580]
noncomputable def DS:Obj:=tup [.str "house" 582,.str "far" 583,.str "say" 584]
noncomputable def DR:Obj:=tup [.str "house" 586,.str "up" 587,.str "close" 588]
def DQ:Obj:=tup [.str "house" 590,.str "far" 591,.str "close" 592]
def DP:Obj:=tup [.str "far" 594,.none,.str "open" 595]
noncomputable def DO:Obj:=tup [.str "far" 597,.str "called" 598,.str "open" 599]
noncomputable def DN:Obj:=tup [.str "far" 601,.str "asked" 602,.str "open" 603]
def DM:Obj:=tup [.str "far" 605,.str "up" 606,.str "say" 607]
def DL:Obj:=tup [.str "far" 609,.str "near" 610,.str "say" 611]
def DK:Obj:=tup [.str "far" 613,.str "up" 614,.str "close" 615]
def DJ:Obj:=tup [.str "far" 617,.str "near" 618,.str "close" 619]
noncomputable def DI:Obj:=tup [.str "asked" 678,.str "called" 679,.str "up" 680,.str "near" 681,.str "far" 682]
noncomputable def Me:List (String×Nat×Nat):=[("__init__",731,300),("tell",744,307),("stands",752,314),("drop",760,321),("door_for",776,328),("listed",783,335)]
def DH:Obj:=nB P jh "Rules" 720 143 Me 786 336
def O4:Obj:=tf [(145,299),(149,306),(155,313),(158,320),(161,327),(168,334)]
def DG:Obj:=cC "Rules" 715 143 290
def DE:Obj:=lS 289 jh
noncomputable def DC:Obj:=tup [.str "many_told" 784,.str "standing" 785]
def DB:Obj:=nF P jh 720 143 Me 786 336
def DA:Obj:=sP "Rules" 337 713
def Dz:Obj:=gD 787 338
def Dy:Obj:=gW 789 338
def Er:Obj:=sU 338
def Ep:Obj:=iS 338
noncomputable def Md:List (String×Nat×Nat):=[("__init__",816,356),("has",824,363),("is_free",833,370),("from_mark",840,377),("picked",851,384),("take",859,391),("give",868,398),("resting",874,403),("many_free",880,408)]
def Eo:Obj:=nB P gY "Pool" 803 171 Md 886 409
def O3:Obj:=tf [(173,355),(180,362),(183,369),(188,376),(191,383),(199,390),(205,397),(209,402),(212,407)]
def En:Obj:=cC "Pool" 798 171 346
def Em:Obj:=lS 345 gY
noncomputable def O2:Obj:=iF "resting" "Pool.resting" (sub (top 62) 7)
def El:Obj:=cF "resting" "Pool.resting" 869 209 2 399
noncomputable def Ek:Obj:=gM "resting" "Pool.resting" (sub (top 62) 7) gY (.ref 402)
noncomputable def O0:Obj:=iF "many_free" "Pool.many_free" (sub (top 62) 8)
def Ej:Obj:=cF "many_free" "Pool.many_free" 875 212 2 404
def Ei:Obj:=gM "many_free" "Pool.many_free" (sub (top 62) 8) gY (.ref 407)
noncomputable def Eh:Obj:=tup [.str "high" 881,.str "low" 882,.str "mark" 883,.str "taken" 884,.str "until" 885]
def Eg:Obj:=nF P gY 803 171 Md 886 409
def Ef:Obj:=sP "Pool" 410 796
def Ee:Obj:=gD 887 411
def Ed:Obj:=gW 889 411
def Ec:Obj:=sU 411
def Eb:Obj:=iS 411
noncomputable def Mc:List (String×Nat×Nat):=[("__init__",918,429)]
def Ea:Obj:=nB P et "Talk" 903 215 Mc 923 430
def OZ:Obj:=tf [(217,428)]
def D9:Obj:=cC "Talk" 898 215 419
def D8:Obj:=lS 418 et
noncomputable def D7:Obj:=tup [.str "inner" 919,.str "number" 920,.str "over" 921,.str "state" 922]
def D6:Obj:=nF P et 903 215 Mc 923 430
def D5:Obj:=sP "Talk" 431 896
def D4:Obj:=gD 924 432
def D3:Obj:=gW 926 432
def D2:Obj:=sU 432
def D1:Obj:=iS 432
noncomputable def Mb:List (String×Nat×Nat):=[("__init__",950,450),("of_inner",958,457),("of_outer",969,464),("is_with",975,469),("living",982,476),("is_living",990,483),("number_of",998,490),("holder_at",1006,497),("held",1012,502),("lent_until",1020,509),("lend",1030,516),("end_lend",1039,523),("begin",1055,530),("lead",1064,537),("end",1079,544),("pass_by",1085,549)]
def MD:Obj:=nB P et "Talks" 938 222 Mb 1093 550
noncomputable def OY:Obj:=tf [(224,449),(233,456),(236,463),(241,468),(244,475),(247,482),(250,489),(253,496),(256,501),(259,508),(262,515),(268,522),(273,529),(281,536),(288,543),(299,548)]
def MC:Obj:=cC "Talks" 933 222 440
def MB:Obj:=lS 439 et
noncomputable def OX:Obj:=iF "is_with" "Talks.is_with" (sub (top 65) 3)
def MA:Obj:=cF "is_with" "Talks.is_with" 970 241 3 465
noncomputable def Mz:Obj:=gM "is_with" "Talks.is_with" (sub (top 65) 3) et (.ref 468)
noncomputable def OW:Obj:=iF "held" "Talks.held" (sub (top 65) 8)
def My:Obj:=cF "held" "Talks.held" 1007 256 2 498
def Mx:Obj:=gM "held" "Talks.held" (sub (top 65) 8) et (.ref 501)
noncomputable def OV:Obj:=iF "pass_by" "Talks.pass_by" (sub (top 65) 15)
def Mw:Obj:=cF "pass_by" "Talks.pass_by" 1080 299 2 545
def Mv:Obj:=gM "pass_by" "Talks.pass_by" (sub (top 65) 15) et (.ref 548)
noncomputable def Mu:Obj:=tup [.str "by_inner" 1086,.str "by_number" 1087,.str "form" 1088,.str "holders" 1089,.str "now" 1090,.str "numbers" 1091,.str "pool" 1092]
def Ng:Obj:=nF P et 938 222 Mb 1093 550
def Nf:Obj:=sP "Talks" 551 931
def Nb:Obj:=gD 1094 552
def Na:Obj:=gW 1096 552
def MZ:Obj:=sU 552
def MY:Obj:=iS 552
noncomputable def Ma:List (String×Nat×Nat):=[("__init__",1122,570),("deed",1131,577),("out",1145,584),("come",1158,591),("lost",1170,598),("wait",1178,605),("rule",1190,612),("unrule",1198,619),("moment",1205,626),("free",1212,633),("lends",1218,638),("talks",1225,645),("rests",1232,652),("rules",1239,659),("book",1246,666),("answered",1261,673),("sent",1278,680),("lead_out",1289,687),("begin_out",1299,694),("picked_for",1309,701),("come_in",1322,708),("lead_in",1338,715),("sifted",1349,722),("lets_note_in",1359,729),("come_by_rule",1376,736),("told_lost",1390,743),("rule_told",1403,750),("rule_dropped",1411,757)]
def MX:Obj:=nB P cy "Gate" 1110 305 Ma 1417 758
noncomputable def OU:Obj:=tf [(307,569),(316,576),(323,583),(326,590),(329,597),(332,604),(335,611),(338,618),(341,625),(344,632),(347,637),(350,644),(353,651),(356,658),(359,665),(362,672),(377,679),(385,686),(395,693),(407,700),(413,707),(421,714),(431,721),(439,728),(443,735),(457,742),(464,749),(470,756)]
def MW:Obj:=cC "Gate" 1105 305 560
def MV:Obj:=lS 559 cy
noncomputable def OT:Obj:=iF "lends" "Gate.lends" (sub (top 67) 10)
def MU:Obj:=cF "lends" "Gate.lends" 1213 347 1 634
def MT:Obj:=gM "lends" "Gate.lends" (sub (top 67) 10) cy (.ref 637)
noncomputable def MS:Obj:=tup [.str "done" 1412,.str "form" 1413,.str "strangers" 1414,.str "table" 1415,.str "wish" 1416]
def MR:Obj:=nF P cy 1110 305 Ma 1417 758
def MQ:Obj:=sP "Gate" 759 1103
def MP:Obj:=gD 1418 760
def MO:Obj:=gW 1420 760
def MN:Obj:=sU 760
def MM:Obj:=iS 760
noncomputable def OS:Obj:=iF "_law_a_form" "_law_a_form" (top 73)
def ML:Obj:=cF "_law_a_form" "_law_a_form" 1463 500 2 793
noncomputable def MK:Obj:=gM "_law_a_form" "_law_a_form" (top 73) iU (.ref 796)
noncomputable def OR:Obj:=iF "_law_later" "_law_later" (top 74)
def MJ:Obj:=cF "_law_later" "_law_later" 1469 509 3 798
def MI:Obj:=gM "_law_later" "_law_later" (top 74) iU (.ref 801)
def OQ:Obj:=iF "_law_a_world" "_law_a_world" (top 76)
def MH:Obj:=cF "_law_a_world" "_law_a_world" 1488 521 2 810
def MG:Obj:=gM "_law_a_world" "_law_a_world" (top 76) iU (.ref 813)
noncomputable def OP:Obj:=iF "_law_wrote" "_law_wrote" (top 77)
def MF:Obj:=cF "_law_wrote" "_law_wrote" 1494 526 6 815
def ME:Obj:=gM "_law_wrote" "_law_wrote" (top 77) iU (.ref 818)
noncomputable def fin (P:Params)(D:Obj):List Obj:=[boot_o_0 P,boot_o_1 P,boot_o_2 P,eS ((ns P).take 79) 79,boot_o_4 P,boot_o_5 P,boot_o_6 P,boot_o_7 P,boot_o_8 P,boot_o_9 P,boot_o_10 P,v7,cY (tb.take 144),v13,v14]++(zS.objs++([ND,NF,NG]++(wy.objs++(wz.objs++(wA.objs++(wB.objs++(wC.objs++(wD.objs++(wF.objs++(wG.objs++(wH.objs++(wJ.objs++([v7,v8,OH,Fv,Fu]++(j3.objs++(j4.objs++(j5.objs++(oA.objs++(j6.objs++(oB.objs++(oC.objs++([qE P]++(j7.objs++(j8.objs++([Ft,fR,Fs P,v7,v8,Fq,Fp,v7,Fo P,Dx,Fn,Fl,Fj,sh,fR,Fi P,v7,v8,Fh,Fg,v7,Ff P,Fe,Fd,Fc,sh,fR,Fb P,v7,v8,E9,E8,v7,E7 P,E6,E5,E4,sh,fR,Dw P,v7,v8,Dv,Du,v7,Dt P,Ds,Dr,Dq,Dp,Dm,DZ,qF P]++(j9.objs++([v7,v8,OD,DY,DX]++(ka.objs++(ke.objs++(kf.objs++([D,DW,DV,DU,DT,DS,DR,DQ,DP,DO,DN,DM,DL,DK,DJ,DI]++(kj.objs++(kl.objs++(km.objs++([v7,fR,DH P,v7,O4,DG,DE]++(kn.objs++(oE.objs++(oF.objs++(oG.objs++(oH.objs++(oI.objs++([DC,DB P,DA,Dz,Dy,Er,Ep,v7,fR,Eo P,v7,O3,En,Em]++(kq.objs++(kr.objs++(ku.objs++(kA.objs++(kC.objs++(kD.objs++(kE.objs++([v7,v8,O2,El,Ek,v7,v8,O0,Ej,Ei,Eh,Eg P,Ef,Ee,Ed,Ec,Eb,v7,fR,Ea P,v7,OZ,D9,D8]++(kF.objs++([D7,D6 P,D5,D4,D3,D2,D1,v7,fR,MD P,v7,OY,MC,MB]++(kG.objs++(kH.objs++(kI.objs++([v7,v8,OX,MA,Mz]++(kJ.objs++(oJ.objs++(kK.objs++(kL.objs++([v7,v8,OW,My,Mx]++(oM.objs++(kM.objs++(kN.objs++(kO.objs++(kQ.objs++(kU.objs++([v7,v8,OV,Mw,Mv,Mu,Ng P,Nf,Nb,Na,MZ,MY,v7,fR,MX P,v7,OU,MW,MV]++(kW.objs++(kX.objs++(kY.objs++(oO.objs++(oP.objs++(kZ.objs++(oQ.objs++(oT.objs++(k7.objs++(oU.objs++([v7,v8,OT,MU,MT]++(oW.objs++(oX.objs++(oY.objs++(oZ.objs++(k8.objs++(k9.objs++(lj.objs++(lu.objs++(lx.objs++(lz.objs++(lA.objs++(lD.objs++(lE.objs++(o6.objs++(o7.objs++(o8.objs++(o9.objs++([MS,MR P,MQ,MP,MO,MN,MM]++(lF.objs++(lG.objs++(lJ.objs++(lL.objs++([v7,v8,OS,ML,MK,v7,v8,OR,MJ,MI]++(lM.objs++([v7,v8,OQ,MH,MG,v7,v8,OP,MF,ME]++(lQ.objs))))))))))))))))))))))))))))))))))))))))))))))))))))))))))))))))))))))))))))))))))))))))))))))))))))))))
def mL:List Obj:=fin P default
def wo(P:Params)(os:OsState):SharedT:=⟨treeOf ((((mL P).take 15).set 3 (boot_o_3 P)).set 12 (cY (tb.take 0))),15,{},#[],{},187,os⟩
theorem Xo(w:World)(os:OsState):topGo treeTable p w 11 ann 12 ⟨boot_heap w.2,#[],boot_drawn,boot_toks,os⟩ (topStub p)=some ((wo w.2 os).abs,⟨denote treeTable cd,cd,q0,B⟩):=by kernel_rfl
theorem UD(w:World)(os:OsState):segRun treeTable p w 11 ann 1 1 (wo w.2 os).abs (blockOf body env cd q0 B)=some (.next,(wo w.2 os).abs,cd,q0):=by kernel_rfl
noncomputable def CP (P:Params)(os:OsState):SharedT:=⟨treeOf ((((mL P).take 81).set 3 (eS ((e1 P "__name__" 165 eY)::((ns P).drop 1).take 29) 30)).set 12 (cY (tb.take 27))),81,{},#[],{},282,os⟩
theorem Qo(w)(os):segRunT treeTable p w 11 ann 1 391 (wo w.2 os) (piecesOf ((body.drop 0).take 22) env cd q0 B)=some (.next,CP w.2 os,cd,⟨31,0,32,25⟩):=by
 walk_at "w9"
noncomputable def zJ (P:Params)(os:OsState):SharedT:=⟨treeOf ((((mL P).take 149).set 3 (eS ((e1 P "__name__" 165 eY)::((ns P).drop 1).take 39) 40)).set 12 (cY (tb.take 57))),149,{},#[],{},378,os⟩
theorem Qn(w)(os):segRunT treeTable p w 11 ann 1 315 (CP w.2 os) (piecesOf ((body.drop 22).take 10) env cd ⟨31,0,32,25⟩ B)=some (.next,zJ w.2 os,cd,⟨70,0,71,74⟩):=by
 walk_at "w9"
noncomputable def zK (P:Params)(os:OsState):SharedT:=⟨treeOf (((((mL P).take 177).set 3 (eS ((e1 P "__name__" 165 (.str "lentgate.errors" 407))::((ns P).drop 1).take 43) 44)).set 12 (cY (tb.take 66))).set 173 (OG)),177,{},#[],{},427,os⟩
theorem ZX(w:World)(os:OsState)(b:Bool):segRunT treeTable p (wf w b) 11 ann 1 362 (zJ w.2 os) (piecesOf ((body.drop 32).take 5) env cd ⟨70,0,71,74⟩ B)=some (.next,zK w.2 os,cd,⟨84,0,85,8⟩):=by
 rw[PySem.W.Fast.te10110043849684766642,PySem.W.Fast.te14364793385576792824];cases b<;>kernel_rfl
theorem Qm(w)(os):segRunT treeTable p w 11 ann 1 362 (zJ w.2 os) (piecesOf ((body.drop 32).take 5) env cd ⟨70,0,71,74⟩ B)=some (.next,zK w.2 os,cd,⟨84,0,85,8⟩):=by
 have h:=ZX w os (w.2.followText "special-get-raises");unfold wf at h;rw[World.withFollow_self]at h;exact h
noncomputable def CQ (P:Params)(os:OsState):SharedT:=⟨treeOf (((((mL P).take 189).set 3 (eS ((e1 P "__name__" 165 (.str "lentgate.errors" 407))::((ns P).drop 1).take 44) 45)).set 12 (cY (tb.take 69))).set 173 (OF)),189,{},#[],{},443,os⟩
theorem Ql(w)(os):segRunT treeTable p w 11 ann 1 214 (zK w.2 os) (piecesOf ((body.drop 37).take 1) env cd ⟨84,0,85,8⟩ B)=some (.next,CQ w.2 os,cd,⟨86,0,87,8⟩):=by
 walk_at "w9"
noncomputable def zL (P:Params)(os:OsState):SharedT:=⟨treeOf (((((mL P).take 201).set 3 (eS ((e1 P "__name__" 165 (.str "lentgate.errors" 407))::((ns P).drop 1).take 45) 46)).set 12 (cY (tb.take 72))).set 173 (OE)),201,{},#[],{},459,os⟩
theorem Qk(w)(os):segRunT treeTable p w 11 ann 1 214 (CQ w.2 os) (piecesOf ((body.drop 38).take 1) env cd ⟨86,0,87,8⟩ B)=some (.next,zL w.2 os,cd,⟨88,0,89,8⟩):=by
 walk_at "w9"
noncomputable def zM (P:Params)(os:OsState):SharedT:=⟨treeOf ((((mL P).take 217).set 3 (eS ((e1 P "__name__" 165 qW)::((ns P).drop 1).take 53) 54)).set 12 (cY (tb.take 75))),217,{},#[],{},513,os⟩
theorem ZW(w:World)(os:OsState)(b:Bool):segRunT treeTable p (wf w b) 11 ann 1 388 (zL w.2 os) (piecesOf ((body.drop 39).take 9) env cd ⟨88,0,89,8⟩ B)=some (.next,zM w.2 os,cd,⟨99,0,99,7⟩):=by
 rw[PySem.W.Fast.te10110043849684766642,PySem.W.Fast.te14364793385576792824];cases b<;>kernel_rfl
theorem Qj(w)(os):segRunT treeTable p w 11 ann 1 388 (zL w.2 os) (piecesOf ((body.drop 39).take 9) env cd ⟨88,0,89,8⟩ B)=some (.next,zM w.2 os,cd,⟨99,0,99,7⟩):=by
 have h:=ZW w os (w.2.followText "special-get-raises");unfold wf at h;rw[World.withFollow_self]at h;exact h
noncomputable def zN (P:Params)(os:OsState):SharedT:=⟨treeOf ((((mL P).take 250).set 3 (eS ((e1 P "__name__" 165 qX)::((ns P).drop 1).take 58) 59)).set 12 (cY (tb.take 90))),250,{},#[],{},567,os⟩
theorem Qi(w)(os):segRunT treeTable p w 11 ann 1 170 (zM w.2 os) (piecesOf ((body.drop 48).take 6) env cd ⟨99,0,99,7⟩ B)=some (.next,zN w.2 os,cd,⟨127,0,127,8⟩):=by
 walk_at "w9"
noncomputable def ob (P:Params)(i:Nat):Obj:=(((((mL P).take 250).set 3 (eS ((e1 P "__name__" 165 qX)::((ns P).drop 1).take 58) 59)).set 12 (cY (tb.take 90))):List Obj).getD i default
def Dd(es:Array DictEntry)(n:Nat):Obj:=⟨.type "dict",none,.dict es n,#[]⟩
noncomputable def S (o:Nat->Obj)(os:OsState)(D:Obj)(tk:Nat):SharedT:=⟨((((((((((((((((treeOf ((List.range 250).map o)).ins 250 D).ins 251 (tup [.str "house" 567,.none,.str "open" 568])).ins 252 (tup [.str "house" 570,.str "asked" 571,.str "open" 572])).ins 253 (tup [.str "house" 574,.str "called" 575,.str "open" 576])).ins 254 (tup [.str "house" 578,.str "up" 579,.str "say" 580])).ins 255 (tup [.str "house" 582,.str "far" 583,.str "say" 584])).ins 256 (tup [.str "house" 586,.str "up" 587,.str "close" 588])).ins 257 (tup [.str "house" 590,.str "far" 591,.str "close" 592])).ins 258 (tup [.str "far" 594,.none,.str "open" 595])).ins 259 (tup [.str "far" 597,.str "called" 598,.str "open" 599])).ins 260 (tup [.str "far" 601,.str "asked" 602,.str "open" 603])).ins 261 (tup [.str "far" 605,.str "up" 606,.str "say" 607])).ins 262 (tup [.str "far" 609,.str "near" 610,.str "say" 611])).ins 263 (tup [.str "far" 613,.str "up" 614,.str "close" 615])).ins 264 (tup [.str "far" 617,.str "near" 618,.str "close" 619])),265,{},#[],{},tk,os⟩
noncomputable def S0 (o:Nat->Obj)(os:OsState)(tk:Nat):SharedT:=⟨treeOf ((List.range 250).map o),250,{},#[],{},tk,os⟩
noncomputable def CO (o:Nat->Obj)(os:OsState)(tk:Nat):SharedT:=⟨(treeOf ((List.range 250).map o)).ins 250 (Dd #[] 0),251,{},#[],{},tk,os⟩
theorem ZV(P:Params)(os:OsState):zN P os=S0 (ob P) os 567:=by kernel_rfl
noncomputable def hs (P:Params)(x:Str):Int:=if x.cps.isEmpty then 0 else reduceHash (P.strHash x.cps)
noncomputable def kt:List (List (Option Str)):=[[some "house",none,some "open"],[some "house",some "asked",some "open"],[some "house",some "called",some "open"],[some "house",some "up",some "say"],[some "house",some "far",some "say"],[some "house",some "up",some "close"],[some "house",some "far",some "close"],[some "far",none,some "open"],[some "far",some "called",some "open"],[some "far",some "asked",some "open"],[some "far",some "up",some "say"],[some "far",some "near",some "say"],[some "far",some "up",some "close"],[some "far",some "near",some "close"]]
noncomputable def vt:ak:=[.str "asked" 569,.str "asked" 573,.str "up" 577,.str "up" 581,.str "far" 585,.str "near" 589,.str "shut" 593,.str "called" 596,.str "called" 600,.str "up" 604,.str "up" 608,.str "near" 612,.str "far" 616,.str "shut" 620]
def hx(P:Params):Option Str->Int
 |some x=>hs P x
 |none=>hashW P .none
def hi(k:Nat)(P:Params):Int:=Builtin.Tuple.tupleHashOf ((kt.getD k []).map (hx P))
def en(k:Nat)(P:Params):DictEntry:=⟨reduceHash (hi k P),.ref (251+k),vt.getD k .none⟩
def De(k:Nat)(P:Params):Obj:=Dd ((List.range k).map λj=>en j P).toArray k
theorem aM{X:Nat->Prop}(h0:X 0)(e:X 1)(f:X 2)(g:X 3)(i:X 4)(j:X 5)(l:X 6)(m:X 7)(o:X 8)(r:X 9)(a:X 10)(b:X 11)(c:X 12)(d:X 13):∀k,k<14->X k:=λk s=>match k,s with|0,_=>h0|1,_=>e|2,_=>f|3,_=>g|4,_=>i|5,_=>j|6,_=>l|7,_=>m|8,_=>o|9,_=>r|10,_=>a|11,_=>b|12,_=>c|13,_=>d|n+14,h=>ba h ∅
section
variable(w:World)(b:Bool)(o:Nat->Obj)(os:OsState)(D:Obj)(tk:Nat)(ps:Pos)
abbrev RR(w:World)(b:Bool)(o:Nat->Obj)(os:OsState)(D:Obj)(tk:Nat)(ps:Pos)(n:Nat)(x:Sem α)(a:α):Prop:=Rn p (wf w b) 11 ann cd B n x ps (S o os D tk) a ps (S o os D tk)
local macro_rules | `(tactic| walk_at "h0") => `(tactic| (refine jn fun K H lv => ?_; rw [mW, PySem.W.Fast.te14364793385576792824]; kernel_rfl))
theorem ru(x:String):RR w b o os D tk ps 1 (rule x) ():=by walk_at "h0"
theorem den(es:Array DictEntry)(n:Nat):Rn p (wf w b) 11 ann cd B 1 (dictEntries 250 none) ps (S o os (Dd es n) tk) es ps (S o os (Dd es n) tk):=by walk_at "h0"
theorem dep(es:Array DictEntry)(n:Nat):Rn p (wf w b) 11 ann cd B 1 (dictEpoch 250 none) ps (S o os (Dd es n) tk) n ps (S o os (Dd es n) tk):=by walk_at "h0"
local macro_rules | `(tactic| walk_at "h1") => `(tactic| (refine jn fun K H lv => ?_; rw [mW, PySem.W.Fast.te14364793385576792824, PySem.W.Fast.te13066428366354244818]; kernel_rfl))
theorem qu:∀k,k<14->RR w b o os D tk ps 3 (eqIsQuiet 8 (.ref (251+k))) true:=by
 refine aM ?_ ?_ ?_ ?_ ?_ ?_ ?_ ?_ ?_ ?_ ?_ ?_ ?_ ?_<;>walk_at "h1"
local macro_rules | `(tactic| walk_at "h2") => `(tactic| (refine jn fun K H lv => ?_; rw [mW, PySem.W.Fast.te14364793385576792824, PySem.W.Fast.te13383273872528276517]; kernel_rfl))
theorem ro:∀k,k<14->RR w b o os D tk ps 1 (cRoomFor "hash" [.ref (251+k)]) ():=by
 refine aM ?_ ?_ ?_ ?_ ?_ ?_ ?_ ?_ ?_ ?_ ?_ ?_ ?_ ?_<;>walk_at "h2"
local macro_rules | `(tactic| walk_at "h3") => `(tactic| (refine jn fun K H lv => ?_; rw [mW, PySem.W.Fast.te14364793385576792824, PySem.W.Fast.te4214721358667687652]; kernel_rfl))
theorem sp:∀k,k<14->RR w b o os D tk ps 1 (specialOf (.ref (251+k)) "__hash__") (some (.builtin "tuple.__hash__")):=by
 refine aM ?_ ?_ ?_ ?_ ?_ ?_ ?_ ?_ ?_ ?_ ?_ ?_ ?_ ?_<;>walk_at "h3"
local macro_rules | `(tactic| walk_at "h4") => `(tactic| (refine jn fun K H lv => ?_; rw [mW, PySem.W.Fast.te14364793385576792824, PySem.W.Fast.te16697807410369149715]; cases b <;> kernel_rfl))
theorem ca:∀k,k<14->∀E:Sem Value,Rn p (wf w b) 11 ann cd B 29 (callSpecialIfBoundUnlessNone? (.ref (251+k)) "__hash__" E) ps (S o os D tk) (some (.int (hi k w.2) (tk+3))) ps (S o os D (tk+4)):=
 by refine aM (λE=>Rn.more (m1:=27) (by walk_at "h4") ⋯) ?_ ?_ ?_ ?_ ?_ ?_ (λE=>Rn.more (m1:=27) (by walk_at "h4") ⋯) ?_ ?_ ?_ ?_ ?_ ?_;all_goals exact λE=>Rn.more (m1:=29) (by walk_at "h4") ⋯
local macro_rules | `(tactic| walk_at "h5") => `(tactic| (refine jn fun K H lv => ?_; rw [mW, PySem.W.Fast.te14364793385576792824, PySem.W.Fast.te11826078720135083572]; kernel_rfl))
theorem up:∀k,k<14->Rn p (wf w b) 11 ann cd B 3 (updateDictKeys 250 (λx=>x.push (en k w.2)) none) ps (S o os (De k w.2) tk) () ps (S o os (De (k+1) w.2) tk):=by
 refine aM ?_ ?_ ?_ ?_ ?_ ?_ ?_ ?_ ?_ ?_ ?_ ?_ ?_ ?_<;>walk_at "h5"
def pj:List (Nat×Nat):=(List.range 14).flatMap λk=>(List.range k).map λj=>(j,k)
noncomputable def cs:List (List Nat):=[[],[26],[26,20],[26,20,20],[26,20,20,20],[26,20,20,24,20],[26,20,20,20,24,20],[16,16,16,16,16,16,16],[16,16,16,16,16,16,16,26],[16,16,16,16,16,16,16,26,20],[16,16,16,16,16,16,16,26,20,20],[16,16,16,16,16,16,16,26,20,20,20],[16,16,16,16,16,16,16,26,20,20,24,20],[16,16,16,16,16,16,16,26,20,20,20,24,20]]
noncomputable def cn (x:Nat×Nat):Nat:=(cs.getD x.2 []).getD x.1 0
theorem NQ:∀x∈pj,RR w b o os D tk ps (cn x) (eqBool (.ref (251+x.1)) (.ref (251+x.2))) false:=Xw λK H lv=>by
 rw[mW,PySem.W.Fast.te14364793385576792824,PySem.W.Fast.te13926502685295537346];cases b<;>kernel_rfl
theorem NP:(pj.all λx=>Nat.ble (cn x) 26)=true:=by kernel_rfl
theorem fi(k:Nat)(c:k<14)(h):Rn p (wf w b) 11 ann cd B 797 (dictFind 250 (.ref (251+k)) h) ps (S o os (De k w.2) tk) none ps (S o os (De k w.2) tk):=
 find_none (m:=26) (L:=14) (by show((List.range k).map _).length<=14;rw[bu,List.length_range];omega) (ru _ _ _ _ _ _ _) (den _ _ _ _ _ _ _ _) (dep _ _ _ _ _ _ _ _) ((qu w b o os _ tk ps k c).more ⋯) λe f=>by
  obtain⟨j,a,rfl⟩:=aV.mp (show e∈(List.range k).map λj=>en j w.2 from f)
  have a:=og.mp a;have d:(j,k)∈pj:=List.mem_flatMap.mpr ⟨k,og.mpr c,aV.mpr ⟨j,og.mpr a,rfl⟩⟩;have g:j<14:=fM a c;exact⟨⟨251+j,rfl,cJ (Nat.add_lt_add_left a _)⟩,(qu w b o os _ tk ps j g).more ⋯,(NQ w b o os _ tk ps _ d).more (Nat.le_of_ble_eq_true (ff.mp NP _ d))⟩
theorem se(k:Nat)(a:k<14):Rn p (wf w b) 11 ann cd B 834 (dictSet 250 (.ref (251+k)) (vt.getD k .none)) ps (S o os (De k w.2) tk) () ps (S o os (De (k+1) w.2) (tk+4)):=
 (V5 (h:=reduceHash (hi k w.2)) (ru w b o os _ (tk+4) ps) (UE (ru w b o os _ (tk+4) ps) (ro w b o os _ tk ps k a) (sp w b o os _ tk ps k a) (ca w b o os _ tk ps k a)) (fi w b o os (tk+4) ps k a _) (up w b o os (tk+4) ps k a)).more ⋯
end
def vp(k:Nat):Value×Value:=(.ref (251+k),vt.getD k .none)
def vs:List (Value×Value):=(List.range' 0 14).map vp
def DD:Obj:=De 14 P
theorem Kq(w)(b)(o:Nat->Obj)(os)(ps)(c:∀k v,f (k,v) ()=(do dictSet 250 k v;pure (.yield ()))):∀j k a,k+j=14->
 Rn p (wf w b) 11 ann cd B (834*j) (forIn ((List.range' k j).map vp) () f) ps (S o os (De k w.2) a) () ps (S o os (DD w.2) (a+4*j))
 |0,k,a,h=>by rw[show k=14 by omega];exact VA
 |j+1,k,a,h=>by
  rw[List.range'_succ,bQ,show a+4*(j+1)=(a+4)+4*j by omega]
  exact(Vz (Zv (c _ _) (cD (m2:=0) (se w b o os a ps k ∅) fZ)) (Kq w b o os ps c j (k+1) (a+4) ∅)).more ∅
theorem Va(w)(b)(o:Nat->Obj)(os)(tk)(ps)(a:∀k v,f (k,v) ()=(do dictSet 250 k v;pure (.yield ()))):
 Rn p (wf w b) 11 ann cd B 11676 (forIn vs () f) ps (S o os (De 0 w.2) tk) () ps (S o os (DD w.2) (tk+56)):=Kq w b o os ps a 14 0 tk rfl
def st:Stmt:=body[54]
noncomputable def uY:List (Option PySem.Expr):=match st with| .Assign _ (.Dict ks _ _) _=>ks|_=>[]
noncomputable def uX:List PySem.Expr:=match st with| .Assign _ (.Dict _ vs _) _=>vs|_=>[]
def mM:Pos:=match st with| .Assign _ (.Dict _ _ q) _=>q|_=>default
def iE:Pos:=match st with| .Assign _ _ q=>q|_=>default
def qq:Pos:=⟨128,0,128,10⟩
theorem Pp:st= .Assign [.Name "LINE_STEPS" qq] (.Dict uY uX mM) iE:=by kernel_rfl
noncomputable def ab:List (Option (Sem Value)×Sem Value):=(evalEachOpt uY env).zip ((evalEach uX env).map λv=>do let x<-v;standAt mM;pure x)
noncomputable def Ag:List (Sem Value×Sem Value):=ab.filterMap λx=>x.1.map λk=>(k,x.2)
theorem stq:exec st env=(do
 standAt iE
 let v<-eval (.Dict uY uX mM) env
 standAt qq
 bindName env "LINE_STEPS" v
 pure .next):=by rw[Pp];exact exec_Assign_Name env "LINE_STEPS" qq (.Dict uY uX mM) iE (by kernel_rfl)
theorem dq:eval (.Dict uY uX mM) env=(do standAt mM;dictDisplay ab):=by kernel_rfl
theorem dd:dictDisplay ab=((subDict Ag >>= λd=>pure (some d)) >>= λo=>match o with|some d=>pure (.ref d)|none=>newDict):=by kernel_rfl
theorem Yw(w)(o:Nat->Obj)(os)(tk)(ps)(a:∀k v,f (k,v) ()=(do dictSet 250 k v;pure (.yield ()))):
 Rn p w 11 ann cd B 11676 (forIn vs () f) ps (S o os (De 0 w.2) tk) () ps (S o os (DD w.2) (tk+56)):=by
 have h:=Va w (w.2.followText "special-get-raises") o os tk ps a;unfold wf at h;rw[World.withFollow_self]at h;exact h
theorem at_{w:World}{s:SharedT}{ps ps':Pos}:Rn p w 11 ann cd B 1 (standAt ps') ps s () ps' s:=jn λK H lv=>by kernel_rfl
theorem al{w:World}{o:Nat->Obj}{os:OsState}{tk:Nat}{ps:Pos}:Rn p w 11 ann cd B 1 (alloc { cls:=.type "dict",data:=.dict #[] }) ps (S0 o os tk) 250 ps (CO o os tk):=jn λK H lv=>by kernel_rfl
theorem ev{w:World}{o:Nat->Obj}{os:OsState}{ps:Pos}:Rn p w 11 ann cd B 96 (evalPairs Ag) ps (CO o os 567) vs mM (S o os (De 0 w.2) 621):=jn λK H lv=>by
 rw[mW,PySem.W.Fast.te14364793385576792824];kernel_rfl
theorem sub{w:World}{o:Nat->Obj}{os:OsState}{ps:Pos}:Rn p w 11 ann cd B 11773 (subDict Ag) ps (S0 o os 567) 250 mM (S o os (DD w.2) 677):=by
 unfold subDict;refine Rn.more (m1:=1+(96+(11676+0)+0)) (cD al (cD (a:=()) (ui ?_) fZ)) ⋯
 rw[ai (Nat.le_of_ble_eq_true (by kernel_rfl))]
 refine cD ev (ui ?_);exact cD (Yw w o os 621 mM (λ_ _=>rfl)) fZ
noncomputable def sL (P:Params)(os:OsState)(D:Obj):SharedT:=⟨treeOf ((((fin P D).take 265).set 3 (eS ((e1 P "__name__" 165 qX)::((ns P).drop 1).take 59) 60)).set 12 (cY (tb.take 90))),265,{},#[],{},678,os⟩
theorem bn{w:World}{os:OsState}{D:Obj}{ps:Pos}:Rn p w 11 ann cd B 6 (bindName env "LINE_STEPS" (.ref 250)) ps (S (ob w.2) os D 677) () ps (sL w.2 os D):=jn λK H lv=>by
 rw[mW,PySem.W.Fast.te14364793385576792824];kernel_rfl
theorem YZ{w:World}{os:OsState}{ps:Pos}:Rn p w 11 ann cd B 11782 (execs [st] env) ps (S0 (ob w.2) os 567) .next qq (sL w.2 os (DD w.2)):=by
 rw[execs_cons,stq,dq,dd];refine Rn.more (m1:=(1+((1+((11773+0)+0))+(1+(6+0))))+0) (cD (a:=.next) (cD at_ (cD (cD at_ (cD (cD sub fZ) fZ)) (cD at_ (cD bn fZ)))) ?_) ⋯
 exact fZ
theorem Qh(w)(os):segRunT treeTable p w 11 ann 1 11783 (zN w.2 os) (piecesOf [st] env cd ⟨127,0,127,8⟩ B)=some (.next,sL w.2 os (DD w.2),cd,qq):=by
 rw[ZV];obtain⟨n,b,h⟩:=YZ (w:=w) (os:=os) (ps:=⟨127,0,127,8⟩) doneF deadEnd id;have e:=Jz (m:=1) (r:=(.next,sL w.2 os (DD w.2),cd,qq)) h rfl;have a:=Jo (11782-n) e;rw[show n+1+(11782-n)=11783 by omega]at a
 exact a
noncomputable def CS (P:Params)(os:OsState)(D:Obj):SharedT:=⟨treeOf ((((fin P D).take 287).set 3 (eS ((e1 P "__name__" 165 jh)::((ns P).drop 1).take 63) 64)).set 12 (cY (tb.take 99))),287,{},#[],{},713,os⟩
theorem Qg(w)(os)(D):segRunT treeTable p w 11 ann 1 118 (sL w.2 os D) (piecesOf ((body.drop 55).take 5) env cd qq B)=some (.next,CS w.2 os D,cd,⟨142,0,142,8⟩):=by
 walk_at "w9"
noncomputable def CT (P:Params)(os:OsState)(D:Obj):SharedT:=⟨treeOf ((((fin P D).take 343).set 3 (eS ((e1 P "__name__" 165 jh)::((ns P).drop 1).take 64) 65)).set 12 (cY (tb.take 102))),343,{},#[],{},794,os⟩
theorem Qf(w)(os)(D):segRunT treeTable p w 11 ann 1 395 (CS w.2 os D) (piecesOf ((body.drop 60).take 1) env cd ⟨142,0,142,8⟩ B)=some (.next,CT w.2 os D,cd,⟨143,0,169,16⟩):=by
 walk_at "w9"
noncomputable def FY (P:Params)(os:OsState)(D:Obj):SharedT:=⟨treeOf ((((fin P D).take 343).set 3 (eS ((e1 P "__name__" 165 gY)::((ns P).drop 1).take 64) 65)).set 12 (cY (tb.take 102))),343,{},#[],{},796,os⟩
theorem Z4(w)(os)(D):segRunT treeTable p w 11 ann 1 10 (CT w.2 os D) (piecesOf ((body.drop 61).take 1) env cd ⟨143,0,169,16⟩ B)=some (.next,FY w.2 os D,cd,⟨170,0,170,8⟩):=by
 walk_at "w9"
noncomputable def FX (P:Params)(os:OsState)(D:Obj):SharedT:=⟨treeOf ((((fin P D).take 416).set 3 (eS ((e1 P "__name__" 165 gY)::((ns P).drop 1).take 65) 66)).set 12 (cY (tb.take 105))),416,{},#[],{},894,os⟩
theorem Z3(w)(os)(D):segRunT treeTable p w 11 ann 1 480 (FY w.2 os D) (piecesOf ((body.drop 62).take 1) env cd ⟨170,0,170,8⟩ B)=some (.next,FX w.2 os D,cd,⟨171,0,213,105⟩):=by
 walk_at "w9"
noncomputable def FW (P:Params)(os:OsState)(D:Obj):SharedT:=⟨treeOf ((((fin P D).take 437).set 3 (eS ((e1 P "__name__" 165 et)::((ns P).drop 1).take 66) 67)).set 12 (cY (tb.take 108))),437,{},#[],{},931,os⟩
theorem Z2(w)(os)(D):segRunT treeTable p w 11 ann 1 238 (FX w.2 os D) (piecesOf ((body.drop 63).take 2) env cd ⟨171,0,213,105⟩ B)=some (.next,FW w.2 os D,cd,⟨215,0,221,24⟩):=by
 walk_at "w9"
noncomputable def FV (P:Params)(os:OsState)(D:Obj):SharedT:=⟨treeOf ((((fin P D).take 557).set 3 (eS ((e1 P "__name__" 165 et)::((ns P).drop 1).take 67) 68)).set 12 (cY (tb.take 111))),557,{},#[],{},1101,os⟩
theorem Z1(w)(os)(D):segRunT treeTable p w 11 ann 1 718 (FW w.2 os D) (piecesOf ((body.drop 65).take 1) env cd ⟨215,0,221,24⟩ B)=some (.next,FV w.2 os D,cd,⟨222,0,303,37⟩):=by
 walk_at "w9"
noncomputable def FU (P:Params)(os:OsState)(D:Obj):SharedT:=⟨treeOf ((((fin P D).take 557).set 3 (eS ((e1 P "__name__" 165 cy)::((ns P).drop 1).take 67) 68)).set 12 (cY (tb.take 111))),557,{},#[],{},1103,os⟩
theorem Z0(w)(os)(D):segRunT treeTable p w 11 ann 1 10 (FV w.2 os D) (piecesOf ((body.drop 66).take 1) env cd ⟨222,0,303,37⟩ B)=some (.next,FU w.2 os D,cd,⟨304,0,304,8⟩):=by
 walk_at "w9"
noncomputable def FT (P:Params)(os:OsState)(D:Obj):SharedT:=⟨treeOf ((((fin P D).take 765).set 3 (eS ((e1 P "__name__" 165 cy)::((ns P).drop 1).take 68) 69)).set 12 (cY (tb.take 114))),765,{},#[],{},1425,os⟩
theorem ZZ(w)(os)(D):segRunT treeTable p w 11 ann 1 1162 (FU w.2 os D) (piecesOf ((body.drop 67).take 1) env cd ⟨304,0,304,8⟩ B)=some (.next,FT w.2 os D,cd,⟨305,0,474,19⟩):=by
 walk_at "w9"
def FR(P:Params)(os:OsState)(D:Obj):SharedT:=⟨treeOf ((fin P D).take 827),827,{},#[],{},1515,os⟩
theorem ZY(w)(os)(D):segRunT treeTable p w 11 ann 1 310 (FT w.2 os D) (piecesOf ((body.drop 68).take 11) env cd ⟨305,0,474,19⟩ B)=some (.next,FR w.2 os D,cd,⟨546,0,560,74⟩):=by
 walk_at "w9"
def TF:BT:=(FR P default (DD P)).tree
def H1:Heap:=absHeap (TF P) 827 {}
theorem WX:body=((body.drop 0).take 22)++(((body.drop 22).take 10)++(((body.drop 32).take 5)++(((body.drop 37).take 1)++(((body.drop 38).take 1)++(((body.drop 39).take 9)++(((body.drop 48).take 6)++([st]++(((body.drop 55).take 5)++(((body.drop 60).take 1)++(((body.drop 61).take 1)++(((body.drop 62).take 1)++(((body.drop 63).take 2)++(((body.drop 65).take 1)++(((body.drop 66).take 1)++(((body.drop 67).take 1)++(((body.drop 68).take 11)++ [])))))))))))))))):=by kernel_rfl
theorem run_eq(w:World)(os:OsState):topRun treeTable p w 11 ann (12+(1+(391+(315+(362+(214+(214+(388+(170+(11783+(118+(395+(10+(480+(238+(718+(10+(1162+(310+2))))))))))))))))))) ⟨boot_heap w.2,#[],boot_drawn,boot_toks,os⟩ (topStub p)=some ⟨H1 w.2,#[],{},1515,os⟩:=by
 refine go_top (Xo w os) (piece_block (UD w os) ?_);show topRun treeTable p w 11 ann _ _ (restOf body env cd q0 B)=_;rw[WX];refine piece_app (segRun_of (Qo w os)) ?_;refine piece_app (segRun_of (Qn w os)) ?_;refine piece_app (segRun_of (Qm w os)) ?_;refine piece_app (segRun_of (Ql w os)) ?_;refine piece_app (segRun_of (Qk w os)) ?_;refine piece_app (segRun_of (Qj w os)) ?_;refine piece_app (segRun_of (Qi w os)) ?_;refine piece_app (segRun_of (Qh w os)) ?_;refine piece_app (segRun_of (Qg w os _)) ?_;refine piece_app (segRun_of (Qf w os _)) ?_;refine piece_app (segRun_of (Z4 w os _)) ?_;refine piece_app (segRun_of (Z3 w os _)) ?_;refine piece_app (segRun_of (Z2 w os _)) ?_;refine piece_app (segRun_of (Z1 w os _)) ?_;refine piece_app (segRun_of (Z0 w os _)) ?_;refine piece_app (segRun_of (ZZ w os _)) ?_;refine piece_app (segRun_of (ZY w os _)) ?_;kernel_rfl
noncomputable def q:Program:=view p [0,2,3,4,5,6,7,8,9,10,11,12,13,14,15,16,17,18,19,20,21,22,23,24,25,26,27,28,29,30,31,32,33,34,36,37,38,39,41,42,43,44,45,46,47,48,49,50,51,52,54,55,56,57,58,60,62,64,65,67,69,70,71,72,73,74,75,76,77,78]
def loose:aA:=["DEEDS","TIME_AT","LINE_STEPS"]
noncomputable def Dh:List Addr:=[2,3,4,6,20,21,22,23,24,30,31,37,38,44,45,51,52,58,59,65,66,72,73,79,80,86,87,93,94,95,98,99,105,106,112,113,119,120,126,127,133,134,140,141,147,148,149,155,156,162,163,164,165,166,167,169,170,171,172,173,174,175,176,177,178,179,180,182,183,184,185,186,187,188,189,190,191,192,194,195,196,197,198,199,200,201,202,203,204,206,207,208,209,210,211,212,213,214,215,216,222,223,224,227,228,234,235,241,242,248,249,250,251,252,253,254,255,256,257,258,259,260,261,262,263,264,265,271,272,278,279,285,286,287,288,289,290,292,293,299,300,306,307,313,314,320,321,327,328,334,335,336,337,338,339,340,341,342,343,344,345,346,348,349,355,356,362,363,369,370,376,377,383,384,390,391,397,398,399,402,403,404,407,408,409,410,411,412,413,414,415,416,417,418,419,421,422,428,429,430,431,432,433,434,435,436,437,438,439,440,442,443,449,450,456,457,463,464,465,468,469,475,476,482,483,489,490,496,497,498,501,502,508,509,515,516,522,523,529,530,536,537,543,544,545,548,549,550,551,552,553,554,555,556,557,558,559,560,562,563,569,570,576,577,583,584,590,591,597,598,604,605,611,612,618,619,625,626,632,633,634,637,638,644,645,651,652,658,659,665,666,672,673,679,680,686,687,693,694,700,701,707,708,714,715,721,722,728,729,735,736,742,743,749,750,756,757,758,759,760,761,762,763,764,770,771,777,778,784,785,791,792,793,796,797,798,801,802,808,809,810,813,814,815,818,819,825,826]
noncomputable def ks:List Addr:=Dh++ [546]
noncomputable def K0:Frag:=Dh.zip (boot_o_2 P::eS ((ns P).take 79) 79::boot_o_4 P::boot_o_6 P::zS.co::zS.fn::ND::NF::NG::wy.co::wy.fn::wz.co::wz.fn::wA.co::wA.fn::wB.co::wB.fn::wC.co::wC.fn::wD.co::wD.fn::wF.co::wF.fn::wG.co::wG.fn::wH.co::wH.fn::wJ.co::wJ.fn::v7::Fv::Fu::j3.co::j3.fn::j4.co::j4.fn::j5.co::j5.fn::oA.co::oA.fn::j6.co::j6.fn::oB.co::oB.fn::oC.co::oC.fn::qE P::j7.co::j7.fn::j8.co::j8.fn::Ft::fR::Fs P::v7::Fq::Fp::v7::Fo P::Dx::Fn::Fl::Fj::sh::fR::Fi P::v7::Fh::Fg::v7::Ff P::Fe::Fd::Fc::sh::fR::Fb P::v7::E9::E8::v7::E7 P::E6::E5::E4::sh::fR::Dw P::v7::Dv::Du::v7::Dt P::Ds::Dr::Dq::Dp::Dm::DZ::qF P::j9.co::j9.fn::v7::DY::DX::ka.co::ka.fn::ke.co::ke.fn::kf.co::kf.fn::DD P::DW::DV::DU::DT::DS::DR::DQ::DP::DO::DN::DM::DL::DK::DJ::DI::kj.co::kj.fn::kl.co::kl.fn::km.co::km.fn::v7::fR::DH P::v7::DG::DE::kn.co::kn.fn::oE.co::oE.fn::oF.co::oF.fn::oG.co::oG.fn::oH.co::oH.fn::oI.co::oI.fn::DC::DB P::DA::Dz::Dy::Er::Ep::v7::fR::Eo P::v7::En::Em::kq.co::kq.fn::kr.co::kr.fn::ku.co::ku.fn::kA.co::kA.fn::kC.co::kC.fn::kD.co::kD.fn::kE.co::kE.fn::v7::El::Ek::v7::Ej::Ei::Eh::Eg P::Ef::Ee::Ed::Ec::Eb::v7::fR::Ea P::v7::D9::D8::kF.co::kF.fn::D7::D6 P::D5::D4::D3::D2::D1::v7::fR::MD P::v7::MC::MB::kG.co::kG.fn::kH.co::kH.fn::kI.co::kI.fn::v7::MA::Mz::kJ.co::kJ.fn::oJ.co::oJ.fn::kK.co::kK.fn::kL.co::kL.fn::v7::My::Mx::oM.co::oM.fn::kM.co::kM.fn::kN.co::kN.fn::kO.co::kO.fn::kQ.co::kQ.fn::kU.co::kU.fn::v7::Mw::Mv::Mu::Ng P::Nf::Nb::Na::MZ::MY::v7::fR::MX P::v7::MW::MV::kW.co::kW.fn::kX.co::kX.fn::kY.co::kY.fn::oO.co::oO.fn::oP.co::oP.fn::kZ.co::kZ.fn::oQ.co::oQ.fn::oT.co::oT.fn::k7.co::k7.fn::oU.co::oU.fn::v7::MU::MT::oW.co::oW.fn::oX.co::oX.fn::oY.co::oY.fn::oZ.co::oZ.fn::k8.co::k8.fn::k9.co::k9.fn::lj.co::lj.fn::lu.co::lu.fn::lx.co::lx.fn::lz.co::lz.fn::lA.co::lA.fn::lD.co::lD.fn::lE.co::lE.fn::o6.co::o6.fn::o7.co::o7.fn::o8.co::o8.fn::o9.co::o9.fn::MS::MR P::MQ::MP::MO::MN::MM::lF.co::lF.fn::lG.co::lG.fn::lJ.co::lJ.fn::lL.co::lL.fn::v7::ML::MK::v7::MJ::MI::lM.co::lM.fn::v7::MH::MG::v7::MF::ME::lQ.co::lQ.fn::[])
def K:Frag:=K0 P++ [(546,v8)]
theorem gQ(P:Params):ks=(K P).map (·.1):=by kernel_rfl
def Hk:Hook:=kHook K ks gQ
def Xt(s:Shared):Bool:=xlAt q [] s&&recOk [] s
def NN:Nat:=1000000
theorem size_eq(w:World):((boot_heap w.2).isNs mainGlobals&&(#[]:Array GenState).size==0,(boot_heap w.2).objs.size,(boot_heap w.2).nsMap mainGlobals "__annotations__")=(true,11,ann):=by kernel_rfl
theorem Ov:opening p=plainProg p.main.scope.names:=by kernel_rfl
theorem Ow(s:Shared):fenceModules? p s=some s:=by kernel_rfl
theorem qyj(w:World)(os:OsState):(staticsOk (importedModules p.main.body) (boot_heap w.2) (H1 w.2)&&namesBound p (H1 w.2)&&gensDone ⟨H1 w.2,#[],{},1515,os⟩&&laidKept (boot_heap w.2) (H1 w.2))=true:=by kernel_rfl
theorem N4(w:World)(os:OsState):PyProof.Rows.seen (List.map (λx=>x.name) (recsOf q)) (ownsOf q) [] ⟨H1 w.2,#[],{},1515,os⟩=expectedOf q:=by rw[PySem.W.Fast.te5160383126252970620];kernel_rfl
theorem N5(w:World)(os:OsState):(H1 w.2).bltView=bltViewBooted:=by kernel_rfl
theorem N6(w:World)(os:OsState):(H1 w.2).keysOk (looseW q loose) (List.map (λx=>x.name) (recsOf q)) (List.map (λx=>x.fst) (litsOf q)) (List.map (λx=>x.name) (clssOf q (looseW q loose)))=true:=by rw[PySem.W.Fast.te10880121769531294198];kernel_rfl
theorem N7(w:World)(os:OsState):(H1 w.2).accountedOkI (importedModules p.main.body)=true:=by rw[PySem.W.Fast.te14722251495701143533];kernel_rfl
theorem N8(w:World)(os:OsState):((H1 w.2).isNs mainGlobals&&(H1 w.2).isNs builtinsNs)=true:=by kernel_rfl
theorem N9(w:World)(os:OsState):tablesOk q (H1 w.2)=true:=by rw[PySem.W.Fast.te10994771534591457954];kernel_rfl
theorem Oa(w:World)(os:OsState):Xt ⟨H1 w.2,#[],{},1515,os⟩=true:=by kernel_rfl
theorem Ob(w:World)(os:OsState):tabsOk q ⟨H1 w.2,#[],{},1515,os⟩=true:=by rw[PySem.W.Fast.te479339242167458305];kernel_rfl
theorem Oc(w:World)(os:OsState):pinSeenD q (drecsOf q) ⟨H1 w.2,#[],{},1515,os⟩=pinGoodD (drecsOf q):=by kernel_rfl
theorem Od(w:World)(os:OsState):plainSeenE q (looseW q loose) ⟨H1 w.2,#[],{},1515,os⟩=plainGoodE q (looseW q loose):=by rw[PySem.W.Fast.te2386780881361962483];kernel_rfl
theorem Oe(w:World)(os:OsState):plainSeenD q loose ⟨H1 w.2,#[],{},1515,os⟩=plainGoodD q loose:=by rw[PySem.W.Fast.te11698064438423848299];kernel_rfl
theorem Og(w:World)(os:OsState):wideSeen q ⟨H1 w.2,#[],{},1515,os⟩=wideGood q:=by rw[PySem.W.Fast.te7317090234206586261];kernel_rfl
theorem Oh(w:World)(os:OsState):clsSeenW q loose ⟨H1 w.2,#[],{},1515,os⟩=clsGoodW q loose:=by rw[PySem.W.Fast.te7369524293546568484];kernel_rfl
theorem qyi(w:World)(os):openSeen q loose (importedModules p.main.body) Xt true ⟨H1 w.2,#[],{},1515,os⟩=openGood q loose:=
 Wr (N4 w os) (N5 w os) (N6 w os) (N7 w os) (N8 w os) (N9 w os) (Oa w os) (Ob w os) (Oc w os) (Od w os) (Oe w os) (Og w os) (Oh w os)
theorem qyh(w:World)(os:OsState):Hk.obs ⟨H1 w.2,#[],{},1515,os⟩=Hk.val w:=by kernel_rfl
theorem left:LeftO p q loose Xt Hk.obs Hk.val NN:=
 LeftO.of_pieces (H₀:=boot_heap) (H₁:=H1) (gs₀:=#[]) (gs₁:=#[]) (d₀:=boot_drawn) (d₁:={}) (k₀:=boot_toks) (k₁:=1515) (m₀:=11) (ann:=ann) (M:=12+(1+(391+(315+(362+(214+(214+(388+(170+(11783+(118+(395+(10+(480+(238+(718+(10+(1162+(310+2))))))))))))))))))) (boot_open Ov ⋯ Ow) size_eq run_eq ⋯
  λw=>funext λos=>Prod.ext (qyj w os) (Prod.ext (qyi w os) (qyh w os))
end
end H20
namespace R
open PySem PySem.Spec PyProof.Rows L2
section
variable {Γ:G}{σ:bb}{M:RM}{Q:ao}{D:RD}{a b c d e t l h o k r it:T}{i n:Nat}{QB:Bool->RM->Prop}{QA:LR->RM->Prop}{QI:LR->(RM->Prop)->(RM->RM)->RM->Prop}{QP:Option Int->RM->Prop}
def z7(o:Option (Option RV))(Q:RV->Prop):Prop:=match o with|some (some v)=>Q v|_=>False
theorem qoA{v:RV}{Q:RV->Prop}:z7 (some (some v)) Q=Q v:=rfl
theorem t_v:(tr Γ (.v i)).E σ M Q=z7 σ[i]? (λv=>Q v M):=by
 show qe i σ M Q=_;unfold qe z7;rfl
theorem t_i{n:Int}:(tr Γ (.i n)).E σ M Q=Q (.int n) M:=rfl
theorem t_s{x:Str}:(tr Γ (.s x)).E σ M Q=Q (.str x) M:=rfl
theorem t_b{x:Bool}:(tr Γ (.b x)).E σ M Q=Q (.bl x) M:=rfl
theorem t_n:(tr Γ .n).E σ M Q=Q .au M:=rfl
theorem jw{x:Str}{i:Int}(h:Γ.S.gi.lookup x=some i):(tr Γ (.g x)).E σ M Q=Q (.int i) M:=by
 show(match Γ.S.gi.lookup x with|some i=>rC (.int i)|none=>gB) σ M Q=_
 rw[h];rfl
theorem qD8{x:String}:(tr Γ (.ty x)).E σ M Q=Q (.ty x) M:=rfl
theorem qEj{o:Operator}:(tr Γ (.op o a b)).E σ M Q=(tr Γ a).E σ M λx M1=>(tr Γ b).E σ M1 λy M2=>gg o x y M2 Q:=rfl
theorem qED{o:CmpOp}:(tr Γ (.cm o a b)).E σ M Q=(tr Γ a).E σ M λx M1=>(tr Γ b).E σ M1 λy M2=>ee o x y M2 Q:=rfl
def kB(Q:Bool->RM->Prop):ao:=λv M=>match v with| .bl k=>Q k M|_=>False
theorem nJ{k:Bool}:kB QB (.bl k) M=QB k M:=rfl
noncomputable def zX (p:CmpOp)(Γ:G)(c:T)(σ:bb)(y:RV)(Q:ao):ao:=λz f=>match z with
 | .bl k=>if k=true then(tr Γ c).E σ f λw g=>ee p y w g Q else Q (.bl false) f
 |_=>False
theorem pK{k:Bool}{A B:Prop}:((k=true->A)/\(k=false->B))=if k=true then A else B:=by cases k<;>simp
theorem qEE{o p:CmpOp}:(tr Γ (.ch o p a b c)).E σ M Q=(tr Γ a).E σ M λx M1=>(tr Γ b).E σ M1 λy M2=>ee o x y M2 (zX p Γ c σ y Q):=by
 show rG _ _ _ _ _ σ M Q=_;unfold rG zX;simp only[pK]<;>rfl
theorem quU{p:CmpOp}{y:RV}{k:Bool}:zX p Γ c σ y Q (.bl k) M=if k=true then(tr Γ c).E σ M λw f=>ee p y w f Q else Q (.bl false) M:=rfl
theorem T_v:(tr Γ (.v i)).T σ M QB=(tr Γ (.v i)).E σ M (kB QB):=rfl
theorem qGN{o:CmpOp}:(tr Γ (.cm o a b)).T σ M QB=(tr Γ (.cm o a b)).E σ M (kB QB):=rfl
theorem qGO{o p:CmpOp}:(tr Γ (.ch o p a b c)).T σ M QB=(tr Γ (.ch o p a b c)).E σ M (kB QB):=rfl
theorem qGL{c:Nat}{f:Str}:(tr Γ (.fl c f a)).T σ M QB=(tr Γ (.fl c f a)).E σ M (kB QB):=rfl
theorem qGP:(tr Γ (.ca f a)).T σ M QB=(tr Γ (.ca f a)).E σ M (kB QB):=rfl
theorem qGJ:(tr Γ (.me f o a)).T σ M QB=(tr Γ (.me f o a)).E σ M (kB QB):=rfl
theorem qGQ:(tr Γ (.bf f a)).T σ M QB=(tr Γ (.bf f a)).E σ M (kB QB):=rfl
theorem qGM:(tr Γ (.dn neg k d)).T σ M QB=(tr Γ (.dn neg k d)).E σ M (kB QB):=rfl
theorem qGK{x:Str}:(tr Γ (.ic neg a x)).T σ M QB=(tr Γ (.ic neg a x)).E σ M (kB QB):=rfl
theorem qGG{x:Str}:(tr Γ (.tn x a)).T σ M QB=(tr Γ (.tn x a)).E σ M (kB QB):=rfl
theorem T_b{x:Bool}:(tr Γ (.b x)).T σ M QB=QB x M:=rfl
theorem qGR:(tr Γ (.an a b)).T σ M QB=(tr Γ a).T σ M λc M1=>if c=true then(tr Γ b).T σ M1 QB else QB false M1:=by
 show yT _ _ σ M QB=_;unfold yT;simp only[pK]
theorem qGH:(tr Γ (.or a b)).T σ M QB=(tr Γ a).T σ M λc M1=>if c=true then QB true M1 else(tr Γ b).T σ M1 QB:=by
 show zj _ _ σ M QB=_;unfold zj;simp only[pK]
theorem qGI:(tr Γ (.no a)).T σ M QB=(tr Γ a).T σ M λc M1=>QB (!c) M1:=rfl
def wL(N:RM->Prop)(Q:ao):ao:=λx M=>match x with| .bl c=>if c=true then N M else Q (.bl false) M|_=>False
def zY(N:RM->Prop)(Q:ao):ao:=λx M=>match x with| .bl c=>if c=true then Q (.bl true) M else N M|_=>False
theorem mD{N:RM->Prop}{c:Bool}:wL N Q (.bl c) M=if c=true then N M else Q (.bl false) M:=rfl
theorem Vo{N:RM->Prop}{c:Bool}:zY N Q (.bl c) M=if c=true then Q (.bl true) M else N M:=rfl
theorem qEJ:(tr Γ (.an a b)).E σ M Q=(tr Γ a).E σ M (wL (λM1=>(tr Γ b).E σ M1 Q) Q):=by
 show yp _ _ σ M Q=_;unfold yp wL;simp only[pK]<;>rfl
theorem qEi:(tr Γ (.or a b)).E σ M Q=(tr Γ a).E σ M (zY (λM1=>(tr Γ b).E σ M1 Q) Q):=by
 show yK _ _ σ M Q=_;unfold yK zY;simp only[pK]<;>rfl
def Dc(Q:ao):ao:=λx M=>match x with| .bl c=>Q (.bl (!c)) M|_=>False
theorem quS{c:Bool}:Dc Q (.bl c) M=Q (.bl (!c)) M:=rfl
theorem qEk:(tr Γ (.no a)).E σ M Q=(tr Γ a).E σ M (Dc Q):=rfl
theorem qEr:(tr Γ (.ie t a b)).E σ M Q=(tr Γ t).T σ M λc M1=>if c=true then(tr Γ a).E σ M1 Q else(tr Γ b).E σ M1 Q:=by
 show zi _ _ _ σ M Q=_;unfold zi;simp only[pK]
theorem qEa:(tr Γ (.tu a)).E σ M Q=(tr Γ a).A σ M λrs M1=>rs.length<=sizeLine/\Q (.tup rs) M1:=rfl
theorem qEo:(tr Γ (.ll a)).E σ M Q=(tr Γ a).A σ M λrs M1=>rs.length<=sizeLine/\Q (.ls rs) M1:=rfl
theorem qEn:(tr Γ (.lm a)).E σ M Q=(tr Γ a).A σ M λrs M1=>rs.length<=sizeLine/\∀p,M1 p=none->Q (.ref p) (put M1 p (.lst rs)):=rfl
theorem qEu:(tr Γ .e0).A σ M QA=QA [] M:=rfl
theorem qEt:(tr Γ (.ec a r)).A σ M QA=(tr Γ a).E σ M λx M1=>(tr Γ r).A σ M1 λxs M2=>QA (x::xs) M2:=rfl
theorem qEq:(tr Γ (.ix a b)).E σ M Q=(tr Γ a).E σ M λx M1=>(tr Γ b).E σ M1 λy M2=>bM x y M2 Q:=rfl
theorem qEd:(tr Γ (.sl a l h)).E σ M Q=(tr Γ a).E σ M λx M1=>(tr Γ l).P σ M1 λlo M2=>(tr Γ h).P σ M2 λu f=>mJ x lo u f Q:=rfl
theorem qEh:(tr Γ .p0).P σ M QP=QP none M:=rfl
def kP(Q:Option Int->RM->Prop):ao:=λx M=>match x with| .int i=>Q (some i) M|_=>False
theorem quR{i:Int}:kP QP (.int i) M=QP (some i) M:=rfl
theorem qEg:(tr Γ (.p1 a)).P σ M QP=(tr Γ a).E σ M (kP QP):=rfl
theorem qEs{c:Nat}{f:Str}:(tr Γ (.fl c f a)).E σ M Q=(tr Γ a).E σ M (qS (Γ.C c) f Q):=rfl
theorem qEF:(tr Γ (.ca f a)).E σ M Q=(tr Γ a).A σ M λrs M1=>Γ.fn f rs M1 Q:=rfl
theorem cI{f:Nat}{d:FD}(h:Γ.S.fd[f]? =some d):(tr Γ (.me f o a)).E σ M Q=(tr Γ o).E σ M (pf (Γ.C d.cls) d.name (Γ.fn f) (tr Γ a).A σ Q):=by
 show(match Γ.S.fd[f]? with|some d=>qC (Γ.C d.cls) d.name (Γ.fn f) (tr Γ o).E (tr Γ a).A|none=>gB) σ M Q=_
 rw[h];rfl
theorem vA{f:Nat}{d:FD}(h:Γ.S.fd[f]? =some d):(tr Γ (.mk f a)).E σ M Q=(tr Γ a).A σ M λrs M1=>∀x,M1 x=none->Γ.lW f (.ref x::rs) (put M1 x (.ins (Γ.C d.cls) [])) λv M2=>v= .au/\Q (.ref x) M2:=by
 show(match Γ.S.fd[f]? with|some d=>rN (Γ.C d.cls) (Γ.lW f) (tr Γ a).A|none=>gB) σ M Q=_
 rw[h];rfl
theorem qEH:(tr Γ (.bf f a)).E σ M Q=(tr Γ a).A σ M λrs M1=>fv f rs M1 Q:=rfl
theorem qEG:(tr Γ (.bt f a)).E σ M Q=(tr Γ a).A σ M λrs M1=>wu f rs M1 Q:=rfl
theorem qEz:(tr Γ (.dg d k)).E σ M Q=(tr Γ d).E σ M λx M1=>(tr Γ k).E σ M1 λy M2=>vq Q x y M2:=rfl
theorem qEw:(tr Γ (.dn neg k d)).E σ M Q=(tr Γ k).E σ M λy M1=>(tr Γ d).E σ M1 λx M2=>zo neg Q x y M2:=rfl
theorem qEA:(tr Γ (.d1 d k)).E σ M Q=(tr Γ d).E σ M λx M1=>sV M1 x/\(tr Γ k).E σ M1 λy M2=>uW Q x y .au M2:=rfl
theorem qEx:(tr Γ .dk).E σ M Q= ∀p,M p=none->Q (.ref p) (put M p (.dk [])):=rfl
theorem qEv:(tr Γ .dt).E σ M Q= ∀p,M p=none->Q (.ref p) (put M p (.dt [])):=rfl
theorem qh{x:Str}(h:Γ.S.gt.lookup x=some f):(tr Γ (.ic neg a x)).E σ M Q=(tr Γ a).E σ M λx M1=>aB 15 x=true/\Q (.bl (if neg then !inR x (f.map RV.str)else inR x (f.map RV.str))) M1:=by
 show(match Γ.S.gt.lookup x with|some f=>rU neg f (tr Γ a).E|none=>gB) σ M Q=_
 rw[h];rfl
theorem d8:(tr Γ (.se a b)).S D σ M=(tr Γ a).S { D with nx:=(tr Γ b).S D } σ M:=rfl
theorem Oz:(tr Γ .en).S D σ M=D.nx σ M:=rfl
theorem fj:(tr Γ (.set i a)).S D σ M=(tr Γ a).E σ M λx M1=>D.nx (σ.set i (some x)) M1:=rfl
theorem qE8:(tr Γ (.re a)).S D σ M=(tr Γ a).E σ M D.rt:=rfl
theorem qFb:(tr Γ (.bp t a b)).S D σ M=(tr Γ t).T σ M λc M1=>if c=true then(tr Γ a).S D σ M1 else(tr Γ b).S D σ M1:=by
 show yQ _ _ _ D σ M=_;unfold yQ;simp only[pK]
theorem Oy:(tr Γ (.ex a)).S D σ M=(tr Γ a).E σ M λ_ M1=>D.nx σ M1:=rfl
theorem qE7{c:Nat}{f:Str}:(tr Γ (.sf c f o a)).S D σ M=(tr Γ a).E σ M λy M1=>(tr Γ o).E σ M1 (qT (Γ.C c) f y (D.nx σ)):=rfl
theorem qFd:(tr Γ (.dp d k a)).S D σ M=(tr Γ a).E σ M λv M1=>(tr Γ d).E σ M1 λx M2=>(tr Γ k).E σ M2 λy f=>sR f x y v (D.nx σ):=rfl
def Dg(is:List Nat)(σ:bb)(N:bb->RM->Prop):ao:=λx M=>match x with| .tup xs=>xs.length=is.length/\N (rD σ is xs) M|_=>False
theorem qrw{is:List Nat}:Dg is σ N (.tup xs) M=(xs.length=is.length/\N (rD σ is xs) M):=rfl
theorem qE4{is:List Nat}:(tr Γ (.un is a)).S D σ M=(tr Γ a).E σ M (Dg is σ D.nx):=rfl
theorem f7{i j:Int}:gg .Add (.int i) (.int j) M Q=Q (.int (i+j)) M:=rfl
theorem Lk{i j:Int}:gg .Sub (.int i) (.int j) M Q=Q (.int (i-j)) M:=rfl
theorem qGn{i j:Int}:ee .Lt (.int i) (.int j) M Q=Q (.bl (decide (i<j))) M:=rfl
theorem qGo{i j:Int}:ee .LtE (.int i) (.int j) M Q=Q (.bl (decide (i<=j))) M:=rfl
theorem qGq{i j:Int}:ee .Gt (.int i) (.int j) M Q=Q (.bl (decide (j<i))) M:=rfl
theorem qGr{i j:Int}:ee .GtE (.int i) (.int j) M Q=Q (.bl (decide (j<=i))) M:=rfl
theorem qGp{x:RV}:ee .Is x .au M Q=Q (.bl (iq x)) M:=rfl
theorem qsg{x:RV}:ee .IsNot x .au M Q=Q (.bl (!iq x)) M:=rfl
theorem qy0{i j:Int}:ee .Eq (.int i) (.int j) M Q=Q (.bl (i==j)) M:=by
 show(_/\_/\Q (.bl (aY (.int i) (.int j))) M)=_;simp[cz,aB,aY]
theorem qyY{i j:Str}:ee .Eq (.str i) (.str j) M Q=Q (.bl (i==j)) M:=by
 show(_/\_/\Q (.bl (aY (.str i) (.str j))) M)=_;simp[cz,aB,aY]
theorem qyV{i j:Int}:ee .NotEq (.int i) (.int j) M Q=Q (.bl (!(i==j))) M:=by
 show(_/\_/\Q (.bl (!aY (.int i) (.int j))) M)=_;simp[cz,aB,aY]
theorem qyS{i j:Str}:ee .NotEq (.str i) (.str j) M Q=Q (.bl (!(i==j))) M:=by
 show(_/\_/\Q (.bl (!aY (.str i) (.str j))) M)=_;simp[cz,aB,aY]
end
section
variable {Γ:G}{σ:bb}{M:RM}{Q:ao}{D:RD}{a b c d e t l h o k r it:T}{i n:Nat}{QB:Bool->RM->Prop}{QA:LR->RM->Prop}{QI:LR->(RM->Prop)->(RM->RM)->RM->Prop}{x:Addr}{f:Str}{C:Addr}{N:RM->Prop}{y v z:RV}
def wO(o:Option α)(Q:α->Prop):Prop:=match o with|some v=>Q v|none=>False
theorem uL{v:α}{Q:α->Prop}:wO (some v) Q=Q v:=rfl
def fO(C:Addr)(f:Str)(Q:ao)(M:RM)(o:Option RO):Prop:=match o with
 |some (.ins C' fs)=>C'=C/\wO (fs.lookup f) λv=>Q v M
 |_=>False
theorem qrG:qS C f Q (.ref x) M=fO C f Q M (M x):=by
 show(match M x with|some (.ins j g)=>j=C/\(match g.lookup f with|some v=>Q v M|none=>False)|_=>False)=_
 unfold fO;cases M x with
 |none=>rfl
 |some u=>
  cases u<;>first|rfl|skip
  rename_i j g;show(j=C/\(match g.lookup f with|some v=>Q v M|none=>False))=(j=C/\wO (g.lookup f) λv=>Q v M)
  cases g.lookup f<;>rfl
theorem YF:fO C f Q M (some (.ins C fs))=wO (fs.lookup f) λv=>Q v M:=by
 show(C=C/\_)=_;rw[eq_self_iff_true,true_and]
def sO(C:Addr)(f:Str)(y:RV)(N:RM->Prop)(x:Addr)(M:RM)(o:Option RO):Prop:=match o with
 |some (.ins C' fs)=>C'=C/\fs.length<1000/\N (put M x (.ins C (jL f y fs)))
 |_=>False
theorem qrz:qT C f y N (.ref x) M=sO C f y N x M (M x):=rfl
theorem Xr:sO C f y N x M (some (.ins C fs))=(fs.length<1000/\N (put M x (.ins C (jL f y fs)))):=by
 show(C=C/\_)=_;rw[eq_self_iff_true,true_and]
def mO(C:Addr)(m:Str)(sp:bX)(t:bD)(σ:bb)(Q:ao)(x:Addr)(M:RM)(o:Option RO):Prop:=match o with
 |some (.ins C' fs)=>C'=C/\fs.lookup m=none/\t σ M λrs M2=>sp (.ref x::rs) M2 Q
 |_=>False
theorem qrC{sp:bX}{t:bD}:pf C m sp t σ Q (.ref x) M=mO C m sp t σ Q x M (M x):=rfl
theorem Yv{sp:bX}{t:bD}:mO C m sp t σ Q x M (some (.ins C fs))=(fs.lookup m=none/\t σ M λrs M2=>sp (.ref x::rs) M2 Q):=by
 show(C=C/\_)=_;rw[eq_self_iff_true,true_and]
def gO(Q:ao)(y:RV)(M:RM)(o:Option RO):Prop:=match o.bind (rY . y)with
 |some (some v)=>Q v M
 |_=>False
theorem qnv:vq Q (.ref x) y M=gO Q y M (M x):=rfl
def iO(neg:Bool)(Q:ao)(y:RV)(M:RM)(o:Option RO):Prop:=match o.bind (rY . y)with
 |some r=>Q (.bl (if neg then !r.isSome else r.isSome)) M
 |none=>False
theorem qqg:zo neg Q (.ref x) y M=iO neg Q y M (M x):=rfl
def dO(Q:ao)(y z:RV)(M:RM)(o:Option RO):Prop:=match o.bind (rY . y)with
 |some r=>Q (r.getD z) M
 |none=>False
theorem qkJ:uW Q (.ref x) y z M=dO Q y z M (M x):=rfl
def qO(o:Option RO):Prop:=match o with
 |some (.dk _)=>True
 |some (.dt _)=>True
 |some (.fk _)=>True
 |some (.ft _)=>True
 |_=>False
theorem qrX:sV M (.ref x)=qO (M x):=rfl
theorem qxQ:qO (some (.dk kvs))=True:=rfl
theorem qxP:qO (some (.dt kvs))=True:=rfl
theorem qyz:gO Q (.int m) M (some (.dk kvs))=wO (lk kvs (.inl m)) λv=>Q v M:=by
 show(match some (lk kvs (.inl m))with|some (some v)=>Q v M|_=>False)=_
 cases lk kvs (.inl m)<;>rfl
theorem qys:iO neg Q (.int m) M (some (.dk kvs))=Q (.bl (if neg then !(lk kvs (.inl m)).isSome else(lk kvs (.inl m)).isSome)) M:=rfl
theorem qyK:dO Q (.int m) z M (some (.dk kvs))=Q ((lk kvs (.inl m)).getD z) M:=rfl
theorem BK{s:TK}(h:fe y=some s):dO Q y z M (some (.dt kvs))=Q ((lk kvs s).getD z) M:=by
 show(match(fe y).map (lk kvs)with|some r=>Q (r.getD z) M|none=>False)=_
 rw[h];rfl
def pO(y v:RV)(N:RM->Prop)(x:Addr)(M:RM)(o:Option RO):Prop:=match o with
 |some (.dk kvs)=>match fq y with
  |some k=>kvs.length<sizeLine/\N (put M x (.dk (pt kvs k v)))
  |none=>False
 |some (.dt kvs)=>match fe y with
  |some k=>kvs.length<sizeLine/\N (put M x (.dt (pt kvs k v)))
  |none=>False
 |_=>False
noncomputable def wK (y:RV)(N:RM->Prop)(x:Addr)(M:RM):Option RO->Prop
 |some (.dk kvs)=>match fq y with
  |some k=>(lk kvs k).isSome=true/\N (put M x (.dk (dr kvs k)))
  |none=>False
 |some (.dt kvs)=>match fe y with
  |some k=>(lk kvs k).isSome=true/\N (put M x (.dt (dr kvs k)))
  |none=>False
 |_=>False
theorem qsa:qQ M (.ref x) y N=wK y N x M (M x):=rfl
theorem qve:wK (.int m) N x M (some (.dk kvs))=((lk kvs (.inl m)).isSome=true/\N (put M x (.dk (dr kvs (.inl m))))):=rfl
theorem Bs{s:TK}(h:fe y=some s):wK y N x M (some (.dt kvs))=((lk kvs s).isSome=true/\N (put M x (.dt (dr kvs s)))):=by
 unfold wK;simp only[h]
theorem qr6:sR M (.ref x) y v N=pO y v N x M (M x):=rfl
theorem qx2:pO (.int m) v N x M (some (.dk kvs))=(kvs.length<sizeLine/\N (put M x (.dk (pt kvs (.inl m) v)))):=rfl
theorem va{s:TK}(h:fe y=some s):pO y v N x M (some (.dt kvs))=(kvs.length<sizeLine/\N (put M x (.dt (pt kvs s v)))):=by
 show(match fe y with|some k=>kvs.length<sizeLine/\N (put M x (.dt (pt kvs k v)))|none=>False)=_
 rw[h]
def aO(t:bD)(σ:bb)(Q:ao)(x:Addr)(M:RM)(o:Option RO):Prop:=match o with
 |some (.lst _)=>t σ M λrs M2=>∃g y,rs= [y]/\M2 x=some (.lst g)/\g.length<sizeLine/\Q .au (put M2 x (.lst (g++ [y])))
 |_=>False
def C7(t:bD)(σ:bb)(Q:ao):ao:=λv M=>match v with
 | .ref x=>aO t σ Q x M (M x)
 |_=>False
theorem qEI:(tr Γ (.ap o a)).E σ M Q=(tr Γ o).E σ M (C7 (tr Γ a).A σ Q):=by
 show yS _ _ σ M Q=_;unfold yS;congr 1;funext v M1;cases v<;>try rfl
 rename_i p;show((∃g,M1 p=some (.lst g))/\_)=aO _ _ _ p M1 (M1 p);cases e:M1 p with
 |none=>exact propext ⟨λz=>(by obtain⟨⟨_,z⟩,_⟩:=z;cases z),λz=>z.elim⟩
 |some u=>cases u<;>first|exact propext ⟨λz=>(by obtain⟨⟨_,z⟩,_⟩:=z;cases z),λz=>z.elim⟩|exact propext ⟨λz=>z.2,λz=>⟨⟨_,rfl⟩,z⟩⟩
def Dj(t:bD)(σ:bb)(Q:ao)(x:Addr)(M:RM)(o:Option RO):Prop:=match o with
 |some (.lst _)=>t σ M λrs M2=>∃y g,rs= [.int 0]/\M2 x=some (.lst (y::g))/\Q y (put M2 x (.lst g))
 |_=>False
theorem Pu{x:Addr}(h:∀K:ao,(tr Γ o).E σ M K=K (.ref x) M):(tr Γ (.po o a)).E σ M Q=Dj (tr Γ a).A σ Q x M (M x):=by
 show(tr Γ o).E σ M _=_;rw[h];show((∃g,M x=some (.lst g))/\_)=Dj _ _ _ x M (M x);cases e:M x with
 |none=>exact propext ⟨λz=>(by obtain⟨⟨_,z⟩,_⟩:=z;cases z),λz=>z.elim⟩
 |some u=>cases u<;>first|exact propext ⟨λz=>(by obtain⟨⟨_,z⟩,_⟩:=z;cases z),λz=>z.elim⟩|exact propext ⟨λz=>z.2,λz=>⟨⟨_,rfl⟩,z⟩⟩
def C0(t:bD)(σ:bb)(Q:ao)(x:Addr)(M:RM)(o:Option RO):Prop:=match o with
 |some (.lst _)=>t σ M λrs M2=>∃i g y,rs= [.int i,y]/\M2 x=some (.lst g)/\0<=i/\i<=g.length/\g.length<sizeLine/\Q .au (put M2 x (.lst (g.take i.toNat++y::g.drop i.toNat)))
 |_=>False
theorem Pw{x:Addr}(h:∀K:ao,(tr Γ o).E σ M K=K (.ref x) M):(tr Γ (.li o a)).E σ M Q=C0 (tr Γ a).A σ Q x M (M x):=by
 show(tr Γ o).E σ M _=_;rw[h];show((∃g,M x=some (.lst g))/\_)=C0 _ _ _ x M (M x);cases e:M x with
 |none=>exact propext ⟨λz=>(by obtain⟨⟨_,z⟩,_⟩:=z;cases z),λz=>z.elim⟩
 |some u=>cases u<;>first|exact propext ⟨λz=>(by obtain⟨⟨_,z⟩,_⟩:=z;cases z),λz=>z.elim⟩|exact propext ⟨λz=>z.2,λz=>⟨⟨_,rfl⟩,z⟩⟩
theorem O9{i j k:Nat}:(tr Γ (.u3 i j k a)).S D σ M=(tr Γ a).E σ M λx M1=>vC i j k x σ M1 D.nx:=rfl
theorem qrI{t:bD}:C7 t σ Q (.ref x) M=aO t σ Q x M (M x):=rfl
theorem qvN{t:bD}:aO t σ Q x M (some (.lst xs))=t σ M λrs M2=>∃g y,rs= [y]/\M2 x=some (.lst g)/\g.length<sizeLine/\Q .au (put M2 x (.lst (g++ [y]))):=rfl
theorem bq:bM (.tup xs) (.int m) M Q=wO (bK xs m) λv=>Q v M:=by
 show(match bK xs m with|some v=>Q v M|none=>False)=_
 cases bK xs m<;>rfl
theorem Li:bM (.ls xs) (.int m) M Q=wO (bK xs m) λv=>Q v M:=by
 show(match bK xs m with|some v=>Q v M|none=>False)=_
 cases bK xs m<;>rfl
def xO(m:Int)(Q:ao)(M:RM)(o:Option RO):Prop:=match o with
 |some (.lst xs)=>wO (bK xs m) λv=>Q v M
 |_=>False
theorem Vp:bM (.ref x) (.int m) M Q=xO m Q M (M x):=by
 show(match M x with|some (.lst g)=>(match bK g m with|some v=>Q v M|none=>False)|_=>False)=_
 unfold xO;cases M x with
 |none=>rfl
 |some u=>
  cases u<;>first|rfl|skip
  rename_i g;show(match bK g m with|some v=>Q v M|none=>False)=wO (bK g m) λv=>Q v M
  cases bK g m<;>rfl
theorem JC:xO m Q M (some (.lst xs))=wO (bK xs m) λv=>Q v M:=rfl
theorem Vn{lo hi:Option Int}:mJ (.tup xs) lo hi M Q=Q (.tup (fy xs lo hi)) M:=rfl
theorem qyN{lo hi:Option Int}:mJ (.ls xs) lo hi M Q=Q (.ls (fy xs lo hi)) M:=rfl
theorem qEl:(tr Γ (.lv md a)).E σ M Q=(tr Γ a).E σ M (sY md Q):=rfl
def vO(md:Bool)(Q:ao)(M:RM)(o:Option RO):Prop:=wO (o.bind vk) λxs=>jQ md xs M Q
theorem qrD:sY md Q (.ref x) M=vO md Q M (M x):=by
 show(match(M x).bind vk with|some g=>jQ md g M Q|none=>False)=_
 unfold vO;cases(M x).bind vk<;>rfl
theorem qwG:vO md Q M (some (.dk kvs))=jQ md (kvs.map (·.2)) M Q:=rfl
theorem qwF:vO md Q M (some (.dt kvs))=jQ md (kvs.map (·.2)) M Q:=rfl
theorem yg:jQ false xs M Q=Q (.ls xs) M:=rfl
theorem Vm:jQ true xs M Q= ∀p,M p=none->Q (.ref p) (put M p (.lst xs)):=rfl
def Df(i j:Nat)(σ:bb)(N:bb->RM->Prop):LR->RM->Prop:=λrs M1=>match rs with
 | [v,w]=>N ((σ.set i (some v)).set j (some w)) M1
 |_=>False
theorem qFa:(tr Γ (.pr i j a)).S D σ M=(tr Γ a).A σ M (Df i j σ D.nx):=rfl
theorem qrB{j:Nat}{N:bb->RM->Prop}:Df i j σ N [v,y] M=N ((σ.set i (some v)).set j (some y)) M:=rfl
theorem Qc{c:Nat}:(tr Γ (.af c f o a)).S D σ M=(tr Γ o).E σ M (sW (Γ.C c) f (tr Γ a).E σ (D.nx σ)):=rfl
theorem qE6:(tr Γ (.sp l k a)).S D σ M=(tr Γ a).E σ M λv M1=>(tr Γ l).E σ M1 λo M2=>(tr Γ k).E σ M2 λi M3=>p7 o i v M3 λM4=>D.nx σ M4:=rfl
theorem qFc{tup:Bool}{is:List Nat}:(tr Γ (.fo tup is it b)).S D σ M=(tr Γ it).I σ M λxs ok un M1=>i6 (match tup,is with|true,is=>vM is|false,[i]=>i7 i|_,_=>λ_ _ _ _=>False) (tr Γ b).S D ok un xs σ M1:=rfl
noncomputable def kS (Q:LR->(RM->Prop)->(RM->RM)->RM->Prop):ao:=λv M1=>match v with
 | .tup xs=>Q xs ej id M1
 | .ls xs=>Q xs ej id M1
 | .ref a=>match M1 a with
  |some (.lst xs)=>Q xs (λM=>M a=some (.lst xs)) id M1
  |_=>False
 |_=>False
theorem qFZ:(tr Γ (.is a)).I σ M QI=(tr Γ a).E σ M (kS QI):=rfl
theorem Lj:kS QI (.ls xs) M=QI xs ej id M:=rfl
theorem quP:kS QI (.tup xs) M=QI xs ej id M:=rfl
theorem qFX:(tr Γ (.r1 a)).I σ M QI=(tr Γ a).E σ M λv M1=>rM QI [v] M1:=rfl
theorem XM:rM QI [.int m] M=(-(2 ^ 62)<=m/\m<2 ^ 62/\QI (nums m.toNat) ej id M):=rfl
theorem qFY:(tr Γ (.iv a)).I σ M QI=(tr Γ a).E σ M (rV false QI):=rfl
theorem qF0:(tr Γ (.im a)).I σ M QI=(tr Γ a).E σ M (qj QI):=rfl
theorem qEC{md tup:Bool}{nm:aA}:(tr Γ (.cp md tup nm cap it t a)).E σ M Q=(tr Γ it).I σ M λxs ok un M1=>xs.length<sizeLine/\gj (gv tup nm.length) md ok un (tr Γ t).T (tr Γ a).E ((cap.map Prod.fst).map λi=>(σ[i]?).join) xs [] M1 Q:=rfl
theorem Mq{md tup:Bool}{nm:aA}:(tr Γ (.sc i md tup nm cap it t a)).S D σ M=(tr Γ (.cp md tup nm cap it t a)).E σ M λx M1=>D.nx (σ.set i (some x)) M1:=rfl
theorem jJ{un:RM->RM}{tt:c7}{te:aq}{base:List (Option RV)}{Q:ao}(p:RV->Bool)(g:RV->RV)(av:ok M):∀(xs acc:LR),
 (∀x∈xs,∃bs,bd x=some bs/\(∀K:Bool->RM->Prop,K (p x) M->tt (bs.map some++base) M K)/\(p x=true->∀K:ao,K (g x) M->te (bs.map some++base) M K))->
 jQ md (acc++(xs.filter p).map g) (un M) Q->gj bd md ok un tt te base xs acc M Q
 | [],acc,_,h=>⟨av,by simpa using h⟩
 |x::xs,acc,hx,h=>by
  obtain⟨bs,h1,h2,h3⟩:=hx x (.head _);have hx':=λy hy=>hx y (gw x hy)
  refine⟨av,?_⟩;rw[h1];refine h2 _ ⟨λhp=>h3 hp _ (jJ p g av xs _ hx' ?_),λhp=>jJ p g av xs _ hx' ?_⟩
  . rw[List.filter_cons_of_pos hp,bQ]at h
    simpa using h
  . rw[List.filter_cons_of_neg (by simp[hp])]at h
    exact h
theorem AQ{g:iN}{tb:cU}{ok:RM->Prop}{un:RM->RM}(I:LR->bb->RM->Prop)(av:∀xs σ M,I xs σ M->ok M)(hend:∀σ M,I [] σ M->D.nx σ (un M))
 (hstep:∀x xs σ M (W:LR->bb->RM->Prop),I (x::xs) σ M->(∀σ' M',I xs σ' M'->W xs σ' M')->g x σ M λσ2 M2=>tb { D with nx:=W xs,ct:=W xs,bk:=λσ M=>ok M/\D.nx σ (un M),rt:=λv M=>ok M/\D.rt v (un M) } σ2 M2):∀xs σ M,I xs σ M->i6 g tb D ok un xs σ M
 | [],σ,M,h=>⟨av _ _ _ h,hend _ _ h⟩
 |x::xs,σ,M,h=>⟨av _ _ _ h,hstep x xs σ M (λxs=>i6 g tb D ok un xs) h λσ' M' h'=>AQ I av hend hstep xs σ' M' h'⟩
theorem qvG{i:Int}:fv "isinstance" [.int i,.ty "int"] M Q=Q (.bl true) M:=rfl
theorem qvH{i:Int}:fv "isinstance" [.int i,.ty "bool"] M Q=Q (.bl false) M:=rfl
theorem qsr{b:Bool}:fv "isinstance" [.bl b,.ty "bool"] M Q=Q (.bl true) M:=rfl
theorem qvF{x:Str}:fv "isinstance" [.str x,.ty "str"] M Q=Q (.bl true) M:=rfl
theorem qvE:fv "isinstance" [.tup xs,.ty "tuple"] M Q=Q (.bl true) M:=rfl
theorem qso:fv "len" [.tup xs] M Q=Q (.int xs.length) M:=rfl
theorem qsp{x:Str}:fv "len" [.str x] M Q=(x.length<=sizeLine/\Q (.int x.length) M):=rfl
theorem qsq:fv "len" [.ls xs] M Q=Q (.int xs.length) M:=rfl
theorem qvD{i j:Int}:fv "max" [.int i,.int j] M Q=Q (.int (if j > i then j else i)) M:=rfl
theorem qvC{x:Str}:fv "ord" [.str x] M Q=(x.length=1/\Q (.int (x.cps.getD 0 0:Nat)) M):=rfl
theorem Kl{bs:List Bool}:fv "all" [.ls (bs.map RV.bl)] M Q=Q (.bl (bs.all id)) M:=by
 refine propext ⟨λh=>?_,λh=>⟨bs,rfl,h⟩⟩
 obtain⟨g,e,h⟩:=h;have e:bs.map RV.bl=g.map RV.bl:=by injection e with e1 _;injection e1
 have:bs=g:=List.map_inj_right (λa b z=>by cases z;rfl)|>.mp e
 subst this;exact h
theorem L9{a b:Bool}:(if a=true then Q (.bl b) M else Q (.bl false) M)=Q (.bl (a&&b)) M:=by cases a<;>rfl
theorem qE9:(tr Γ .ra).S D σ M=False:=rfl
theorem Yz{bs:List Bool}:fv "any" [.ls (bs.map RV.bl)] M Q=Q (.bl (bs.any id)) M:=by
 refine propext ⟨λh=>?_,λh=>⟨bs,rfl,h⟩⟩
 obtain⟨g,e,h⟩:=h;have e:bs.map RV.bl=g.map RV.bl:=by injection e with e1 _;injection e1
 have:bs=g:=List.map_inj_right (λa b z=>by cases z;rfl)|>.mp e
 subst this;exact h
theorem qFW:(tr Γ (.st a)).I σ M QI=(tr Γ a).E σ M λv M1=>match v with| .str x=>QI (mx x) ej id M1|_=>False:=rfl
theorem qrT:iq .au=true:=rfl
theorem qrR{x:Str}:iq (.str x)=false:=rfl
theorem qrU{i:Int}:iq (.int i)=false:=rfl
theorem qrS:iq (.ref x)=false:=rfl
theorem qrQ:iq (.tup xs)=false:=rfl
theorem qny{x:Str}:(x==x)=true:=by simp
theorem qvt{x:Str}:ee .Eq .au (.str x) M Q=Q (.bl false) M:=by
 show(_/\_/\Q (.bl (aY .au (.str x))) M)=_;simp[cz,aB,aY]
theorem i0{g:Type}{xs:List g}{k:Nat}{v:g}(h:xs[k]? =some v):bK xs (k:Int)=some v:=by
 have j:k<xs.length:=(jT.mp h).1;have e:fC xs.length (k:Int)=some k:=by
  unfold fC;simp;omega
 unfold bK;rw[e];exact h
theorem B1{j:Type}{g:j}{r:List j}:bK (g::r) 0=some g:=i0 (k:=0) rfl
theorem Mt{j:Type}{m g:j}{r:List j}:bK (m::g::r) 1=some g:=i0 (k:=1) rfl
theorem Ms{j:Type}{m s g:j}{r:List j}:bK (m::s::g::r) 2=some g:=i0 (k:=2) rfl
theorem B0{j:Type}{m s u g:j}{r:List j}:bK (m::s::u::g::r) 3=some g:=i0 (k:=3) rfl
theorem Mr{j:Type}{m s u w g:j}{r:List j}:bK (m::s::u::w::g::r) 4=some g:=i0 (k:=4) rfl
theorem OC{j:Type}{m s u w A g:j}{r:List j}:bK (m::s::u::w::A::g::r) 5=some g:=i0 (k:=5) rfl
theorem OB{j:Type}{m s u w A E g:j}{r:List j}:bK (m::s::u::w::A::E::g::r) 6=some g:=i0 (k:=6) rfl
theorem OA{j:Type}{m s u w A E F g:j}{r:List j}:bK (m::s::u::w::A::E::F::g::r) 7=some g:=i0 (k:=7) rfl
theorem z_0:(0<=sizeLine)=True:=eq_true ⋯
theorem qDG:(0<sizeLine)=True:=eq_true ⋯
theorem qGm:((0:Nat):Int)=0:=rfl
theorem z_1:(1<=sizeLine)=True:=eq_true ⋯
theorem qDF:(1<sizeLine)=True:=eq_true ⋯
theorem qGl:((1:Nat):Int)=1:=rfl
theorem z_2:(2<=sizeLine)=True:=eq_true ⋯
theorem qDE:(2<sizeLine)=True:=eq_true ⋯
theorem qGk:((2:Nat):Int)=2:=rfl
theorem z_3:(3<=sizeLine)=True:=eq_true ⋯
theorem qDD:(3<sizeLine)=True:=eq_true ⋯
theorem qGj:((3:Nat):Int)=3:=rfl
theorem z_4:(4<=sizeLine)=True:=eq_true ⋯
theorem qDC:(4<sizeLine)=True:=eq_true ⋯
theorem qGi:((4:Nat):Int)=4:=rfl
theorem z_5:(5<=sizeLine)=True:=eq_true ⋯
theorem qDB:(5<sizeLine)=True:=eq_true ⋯
theorem qGh:((5:Nat):Int)=5:=rfl
theorem z_6:(6<=sizeLine)=True:=eq_true ⋯
theorem qDA:(6<sizeLine)=True:=eq_true ⋯
theorem qGg:((6:Nat):Int)=6:=rfl
theorem z_7:(7<=sizeLine)=True:=eq_true ⋯
theorem qDz:(7<sizeLine)=True:=eq_true ⋯
theorem qGf:((7:Nat):Int)=7:=rfl
theorem z_8:(8<=sizeLine)=True:=eq_true ⋯
theorem qDy:(8<sizeLine)=True:=eq_true ⋯
theorem qGe:((8:Nat):Int)=8:=rfl
theorem z_9:(9<=sizeLine)=True:=eq_true ⋯
theorem qDx:(9<sizeLine)=True:=eq_true ⋯
theorem qGd:((9:Nat):Int)=9:=rfl
theorem XY{k:Nat}:(((k+1:Nat):Int)==0)=false:=by simp;omega
theorem Gx{x:RV}{r:LR}:fy (x::r) (some 1) none=r:=by
 unfold fy;rw[show HT.aQ (x::r).length 0 (some 1)=1 from by show min 1 (r.length+1)=1;omega,HT.jv]
 simp
def tO(g:Option Key)(kvs:bV)(Q:ao)(M:RM):Prop:=match g with
 |some k=>wO (cW kvs k) λv=>Q v M
 |none=>False
theorem qD9{x:Str}:(tr Γ (.tx x a)).E σ M Q=(tr Γ a).E σ M λy M1=>tO (fq y) (Γ.tb x) Q M1:=by
 show yJ (Γ.tb x) _ σ M Q=_;unfold yJ;congr 1;funext y M1;unfold tO wO;generalize fq y=q;cases q with
 |none=>rfl
 |some k=>
  dsimp only;cases cW (Γ.tb x) k<;>rfl
theorem qs1{x:Str}:tO (fq (.str x)) kvs Q M=wO (cW kvs (.inr x)) λv=>Q v M:=rfl
theorem qEb{x:Str}:(tr Γ (.tn x a)).E σ M Q=(tr Γ a).E σ M (xS (Γ.tb x) Q):=rfl
theorem qrx{x:Str}:xS kvs Q (.str x) M=Q (.bl (!(cW kvs (.inr x)).isSome)) M:=rfl
noncomputable def C8 (g:List (Addr×bX))(t:bD)(σ:bb)(Q:ao):ao:=λv M1=>match v with
 | .ref f=>∃sp,(f,sp)∈g/\t σ M1 λrs M2=>sp rs M2 Q
 |_=>False
theorem qEB:(tr Γ (.cv i a)).E σ M Q=(tr Γ (.v i)).E σ M (C8 Γ.ik (tr Γ a).A σ Q):=rfl
theorem TQ{t:bD}:C8 ik t σ Q (.ref x) M= ∃sp,(x,sp)∈ik/\t σ M λrs M2=>sp rs M2 Q:=rfl
theorem qEm:(tr Γ (.lr a b)).E σ M Q=(tr Γ a).E σ M λx M1=>(tr Γ b).E σ M1 λy M2=>sX Q [x,y] M2:=rfl
theorem qrE{i j:Int}:sX Q [.int i,.int j] M=((-1000000<=i/\i<=1000000/\-1000000<=j/\j<=1000000)/\(j-i).toNat<=1000/\Q (.ls (xQ i (j-i).toNat)) M):=rfl
theorem qEe{c:Nat}{f:Str}{a:T}:(tr Γ (.sk c f a)).E σ M Q=(tr Γ a).E σ M (zZ (Γ.C c) f Γ.lP Γ.S.lp Γ.S.lq Q):=rfl
theorem qFe:(tr Γ (.dd d k)).S D σ M=(tr Γ d).E σ M λx M1=>(tr Γ k).E σ M1 λy M2=>qQ M2 x y (D.nx σ):=rfl
theorem qup:gg .Add (.ls xs) (.ls ys) M Q=(xs.length+ys.length<=sizeLine/\Q (.ls (xs++ys)) M):=rfl
theorem JP:gg .Add (.tup xs) (.tup ys) M Q=(xs.length+ys.length<=sizeLine/\Q (.tup (xs++ys)) M):=rfl
theorem WK:fv "sorted" [.ls xs] M Q=qr xs M Q:=rfl
theorem TN{g:List TK}(m:g.length<64)(j:pU g=true)(s:Q (.ls ((mF g).map cE)) M):qr (g.map cE) M Q:=by
 have e:∀g:List TK,rowsOf (g.map cE)=some g:=by
  intro g
  induction g with
  |nil=>rfl
  |cons r rs ih=>
   have kt:∀k:TK,gI (k.map oR)=some k:=by
    intro k
    induction k with
    |nil=>rfl
    |cons o k ihk=>
     have e1:nQ (oR o)=some o:=by cases o with|none=>rfl|some z=>cases z<;>rfl
     show(match nQ (oR o),gI (k.map oR)with|some k,some ks=>some (k::ks)|_,_=>none)=_
     rw[e1,ihk]
   show(match fe (cE r),rowsOf (rs.map cE)with|some k,some ks=>some (k::ks)|_,_=>none)=_
   rw[show fe (cE r)=some r from kt r,ih]
 unfold qr;rw[e];exact⟨m,j,s⟩
theorem qyb{i j:Int}:gg .Mod (.int i) (.int j) M Q=(0<j/\Q (.int (i % j)) M):=rfl
theorem qyc{i j:Int}:gg .FloorDiv (.int i) (.int j) M Q=((0<j/\j<1073741824)/\Q (.int (i / j)) M):=rfl
theorem qx9{i j:Int}:gg .Pow (.int i) (.int j) M Q=((0<=j/\j<=1000000/\i.natAbs<2 ^ 64)/\Q (.int (i ^ j.toNat)) M):=rfl
theorem qya{i j:Int}:gg .Mult (.int i) (.int j) M Q=(ig i j/\Q (.int (i*j)) M):=rfl
def lO(k:Int)(v:RV)(N:RM->Prop)(x:Addr)(M:RM)(o:Option RO):Prop:=match o with
 |some (.lst xs)=>wO (fC xs.length k) λj=>N (put M x (.lst (xs.set j v)))
 |_=>False
theorem qqq:p7 (.ref x) (.int m) v M N=lO m v N x M (M x):=by
 show(match M x with|some (.lst g)=>(match fC g.length m with|some j=>N (put M x (.lst (g.set j v)))|none=>False)|_=>False)=_
 unfold lO;cases M x with
 |none=>rfl
 |some u=>
  cases u<;>first|rfl|skip
  rename_i g;show(match fC g.length m with|some j=>N (put M x (.lst (g.set j v)))|none=>False)=wO (fC g.length m) λj=>N (put M x (.lst (g.set j v)))
  cases fC g.length m<;>rfl
theorem quF:lO m v N x M (some (.lst xs))=wO (fC xs.length m) λj=>N (put M x (.lst (xs.set j v))):=rfl
theorem qyo:fC 3 0=some 0:=rfl
theorem qyn:fC 3 1=some 1:=rfl
theorem qym:fC 3 2=some 2:=rfl
end
end R
namespace K20
open PySem PySem.Spec PyProof.Rows L2 R
def top(i:Nat):Stmt:=PySem.Challenge.pw_lentgate_k20_whole_no_answer_astray.main.body.getD i (.Pass ⟨0,0,0,0⟩)
section
local macro_rules | `($a ^ $b) => `(T.ec $a $b)
local macro_rules | `($a >=> $b) => `(T.se $a $b)
noncomputable def xE:FD:=⟨0,0,"is_whole",["thing"],["thing"],.re (.an (.bf "isinstance" (.v 0^.ty "int"^.e0)) (.no (.bf "isinstance" (.v 0^.ty "bool"^.e0))))>=>.en⟩
noncomputable def xI:FD:=⟨0,0,"is_house",["thing"],["thing"],.re (.ca 46 (.v 0^.i 0^.g "GREATEST_HOUSE"^.e0))>=>.en⟩
noncomputable def xr:FD:=⟨0,0,"is_door",["thing"],["thing"],.re (.ca 46 (.v 0^.i 1^.g "GREATEST_DOOR"^.e0))>=>.en⟩
noncomputable def xH:FD:=⟨0,0,"is_place",["thing"],["thing"],.re (.ca 46 (.v 0^.i 0^.g "GREATEST_PLACE"^.e0))>=>.en⟩
noncomputable def wX:FD:=⟨0,0,"is_outer_place",["thing"],["thing"],.re (.ca 46 (.v 0^.i 1^.g "GREATEST_PLACE"^.e0))>=>.en⟩
noncomputable def xG:FD:=⟨0,0,"is_ticks",["thing"],["thing"],.re (.ca 46 (.v 0^.i 0^.g "GREATEST_TICKS"^.e0))>=>.en⟩
noncomputable def xp:FD:=⟨0,0,"is_kind",["thing"],["thing"],.re (.ic false (.v 0) "KINDS")>=>.en⟩
noncomputable def IG:FD:=⟨0,0,"is_sign",["sign"],["sign","at"],.set 1 (.bf "ord" (.v 0^.e0))>=>.re (.an (.ch .LtE .LtE (.g "FIRST_SIGN") (.v 1) (.g "LAST_SIGN")) (.cm .NotEq (.v 1) (.g "PERCENT_SIGN")))>=>.en⟩
noncomputable def xD:FD:=⟨0,0,"is_text",["thing"],["thing"],.bp (.or (.no (.bf "isinstance" (.v 0^.ty "str"^.e0))) (.cm .Gt (.bf "len" (.v 0^.e0)) (.g "MOST_SIGNS"))) (.re (.b false)>=>.en) .en>=>.re (.bf "all" (.cp false false ["sign"] [] (.st (.v 0)) (.b true) (.ca 7 (.v 0^.e0))^.e0))>=>.en⟩
noncomputable def uA:FD:=⟨0,0,"is_out",["parts"],["parts","kind","house","door","place","far","word","text"],.bp (.cm .NotEq (.bf "len" (.v 0^.e0)) (.i 7)) (.re (.b false)>=>.en) .en>=>.un [1,2,3,4,5,6,7] (.v 0)>=>.re (.an (.ca 1 (.v 2^.e0)) (.an (.ca 2 (.v 3^.e0)) (.an (.ca 3 (.v 4^.e0)) (.an (.ca 2 (.v 5^.e0)) (.ca 47 (.v 1^.v 6^.v 7^.e0))))))>=>.en⟩
noncomputable def uI:FD:=⟨0,0,"is_come",["parts"],["parts","kind","place","far","number","word","text"],.bp (.cm .NotEq (.bf "len" (.v 0^.e0)) (.i 6)) (.re (.b false)>=>.en) .en>=>.un [1,2,3,4,5,6] (.v 0)>=>.re (.an (.ca 4 (.v 2^.e0)) (.an (.ca 2 (.v 3^.e0)) (.an (.ca 2 (.v 4^.e0)) (.ca 47 (.v 1^.v 5^.v 6^.e0)))))>=>.en⟩
noncomputable def uH:FD:=⟨0,0,"is_wait",["parts"],["parts"],.re (.an (.cm .Eq (.bf "len" (.v 0^.e0)) (.i 1)) (.ca 5 (.ix (.v 0) (.i 0)^.e0)))>=>.en⟩
noncomputable def xB:FD:=⟨0,0,"name_of",["thing"],["thing"],.bp (.or (.no (.bf "isinstance" (.v 0^.ty "tuple"^.e0))) (.or (.cm .Eq (.bf "len" (.v 0^.e0)) (.i 0)) (.no (.bf "isinstance" (.ix (.v 0) (.i 0)^.ty "str"^.e0))))) (.re .n>=>.en) .en>=>.re (.ix (.v 0) (.i 0))>=>.en⟩
noncomputable def xt:FD:=⟨0,0,"is_deed",["thing"],["thing","name","has_parts"],.set 1 (.ca 12 (.v 0^.e0))>=>.bp (.tn "DEEDS" (.v 1)) (.re (.b false)>=>.en) .en>=>.set 2 (.tx "DEEDS" (.v 1))>=>.re (.cv 2 (.sl (.v 0) (.p1 (.i 1)) .p0^.e0))>=>.en⟩
noncomputable def xF:FD:=⟨0,0,"is_times",["thing"],["thing","lives"],.bp (.or (.no (.bf "isinstance" (.v 0^.ty "tuple"^.e0))) (.cm .NotEq (.bf "len" (.v 0^.e0)) (.i 4))) (.re (.b false)>=>.en) .en>=>.set 1 (.bf "all" (.cp false false ["time"] [] (.is (.sl (.v 0) .p0 (.p1 (.i 3)))) (.b true) (.ca 46 (.v 0^.i 1^.g "GREATEST_TIME"^.e0))^.e0))>=>.re (.an (.v 1) (.ca 46 (.ix (.v 0) (.i 3)^.i 0^.g "GREATEST_TIME"^.e0)))>=>.en⟩
def FZ:T:=.re (.an (.ca 23 (.v 1^.v 2^.e0)) (.ca 14 (.v 8^.e0)))>=>.en
noncomputable def F0:T:=.bp (.or (.no (.ca 46 (.v 6^.i 1^.g "GREATEST_MOST"^.e0))) (.no (.bf "isinstance" (.v 7^.ty "bool"^.e0)))) (.re (.b false)>=>.en) .en>=>FZ
noncomputable def Ga:T:=.bp (.or (.ic true (.v 3) "LENDINGS") (.or (.ic true (.v 4) "SIEVES") (.ic true (.v 5) "PICKS"))) (.re (.b false)>=>.en) .en>=>F0
noncomputable def Gb:T:=.un [1,2,3,4,5,6,7,8] (.v 0)>=>Ga
def Ge:T:=.bp (.or (.no (.bf "isinstance" (.v 0^.ty "tuple"^.e0))) (.cm .NotEq (.bf "len" (.v 0^.e0)) (.i 8))) (.re (.b false)>=>.en) .en>=>Gb
noncomputable def xq:FD:=⟨0,0,"is_form",["thing"],["thing","low","high","lending","sieve","pick","most","renew","times"],Ge⟩
noncomputable def tL:FD:=⟨2,0,"__init__",["self"],["self"],.sf 0 "many_told" (.v 0) (.i 0)>=>.sf 0 "standing" (.v 0) .dk>=>.en⟩
noncomputable def ue:FD:=⟨1,1,"from_mark",["self"],["self"],.re (.op .Add (.lr (.fl 1 "mark" (.v 0)) (.op .Add (.fl 1 "high" (.v 0)) (.i 1))) (.lr (.fl 1 "low" (.v 0)) (.fl 1 "mark" (.v 0))))>=>.en⟩
noncomputable def tS:FD:=⟨1,3,"living",["self"],["self"],.re (.lv false (.fl 3 "by_inner" (.v 0)))>=>.en⟩
noncomputable def t7:FD:=⟨1,4,"moment",["self"],["self"],.re (.fl 3 "now" (.fl 4 "table" (.v 0)))>=>.en⟩
noncomputable def tM:FD:=⟨1,4,"lends",["self"],["self"],.re (.bf "sorted" (.cp false true ["number","holder"] [] (.im (.fl 3 "holders" (.fl 4 "table" (.v 0)))) (.b true) (.op .Add (.tu (.v 0^.e0)) (.v 1))^.e0))>=>.en⟩
noncomputable def Ce:T:=.re (.an (.ca 63 (.v 5^.v 6^.op .Add (.me 19 (.v 5) .e0) (.op .Mult (.i 2) (.v 2))^.e0)) (.cm .Eq (.v 6) (.lm .e0)))>=>.en
noncomputable def Kn:T:=.bp (.no (.ca 71 (.v 1^.v 5^.v 3^.v 4^.v 6^.v 2^.e0))) (.re (.b false)>=>.en) .en>=>.en
noncomputable def Lg:T:=.bp (.no (.ca 63 (.v 5^.v 6^.op .Add (.me 19 (.v 5) .e0) (.ca 42 (.v 1^.i 7^.e0))^.e0))) (.re (.b false)>=>.en) .en>=>Kn
def By:T:=.set 1 (.ca 43 (.v 7^.v 8^.e0))>=>Lg
noncomputable def Cf:T:=.fo false [8] (.r1 (.bf "max" (.i 16^.bf "len" (.v 7^.e0)^.e0))) By>=>Ce
noncomputable def GJ:T:=.set 7 (.op .Add (.sl (.v 0) (.p1 (.i 2)) (.p1 (.i 63))) (.ll (.i 0^.e0)))>=>Cf
def GK:T:=.set 6 (.lm .e0)>=>GJ
def GL:T:=.set 5 (.mk 35 (.v 3^.e0))>=>GK
noncomputable def GN:T:=.set 4 (.ca 45 (.ca 41 (.ca 40 (.v 0^.i 1^.e0)^.i 0^.e0)^.v 3^.e0))>=>GL
def GO:T:=.set 3 (.ca 44 (.v 1^.v 2^.e0))>=>GN
def GP:T:=.set 2 (.op .Add (.i 1) (.ca 42 (.v 1^.i 9^.e0)))>=>GO
def GQ:T:=.set 1 (.ca 41 (.ca 40 (.v 0^.i 0^.e0)^.i 0^.e0))>=>GP
noncomputable def rR:FD:=⟨0,0,"law",["script"],["script","bag","road","form","world","gate","row","cells","k"],GQ⟩
noncomputable def xC:FD:=⟨0,0,"is_word",["kind","thing"],["kind","thing"],.bp (.cm .Eq (.v 0) (.s "note")) (.re (.ic false (.v 1) "NOTE_WORDS")>=>.en) .en>=>.re (.ic false (.v 1) "LINE_WORDS")>=>.en⟩
noncomputable def xo:FD:=⟨0,0,"is_pool",["low","high"],["low","high"],.re (.an (.ca 2 (.v 0^.e0)) (.an (.ca 2 (.v 1^.e0)) (.ch .LtE .LtE (.v 0) (.v 1) (.op .Add (.v 0) (.g "WIDEST_STEP")))))>=>.en⟩
def Mf:T:=.re (.tu (.v 3^.v 4^.v 5^.v 6^.v 7^.e0))>=>.en
noncomputable def Mg:T:=.bp (.cm .Eq (.v 2) (.s "place")) (.re (.tu (.v 3^.v 4^.v 5^.v 6^.n^.e0))>=>.en) .en>=>Mf
noncomputable def L6:T:=.bp (.cm .Eq (.v 2) (.s "door")) (.re (.tu (.v 3^.v 4^.v 5^.n^.n^.e0))>=>.en) .en>=>Mg
def L7:T:=.set 2 (.ix (.v 0) (.i 2))>=>L6
def L8:T:=.un [3,4,5,6,7] (.v 1)>=>L7
noncomputable def xh:FD:=⟨0,0,"holder_of",["form","inner"],["form","inner","lending","kind","house","door","place","far"],L8⟩
noncomputable def xA:FD:=⟨0,0,"time_of",["form","state"],["form","state","times"],.set 2 (.ix (.v 0) (.i 7))>=>.re (.ix (.v 2) (.tx "TIME_AT" (.v 1)))>=>.en⟩
noncomputable def xm:FD:=⟨0,0,"note_state",["state","word"],["state","word"],.bp (.an (.cm .Eq (.v 1) (.s "say")) (.or (.cm .Is (.v 0) .n) (.cm .Eq (.v 0) (.s "note")))) (.re (.s "note")>=>.en) .en>=>.re .n>=>.en⟩
noncomputable def uk:FD:=⟨1,1,"has",["self","number"],["self","number"],.re (.ch .LtE .LtE (.fl 1 "low" (.v 0)) (.v 1) (.fl 1 "high" (.v 0)))>=>.en⟩
noncomputable def uq:FD:=⟨1,1,"take",["self","number"],["self","number"],.dp (.fl 1 "taken" (.v 0)) (.v 1) (.b true)>=>.bp (.dn false (.v 1) (.fl 1 "until" (.v 0))) (.dd (.fl 1 "until" (.v 0)) (.v 1)>=>.en) .en>=>.sf 1 "mark" (.v 0) (.ie (.cm .Eq (.v 1) (.fl 1 "high" (.v 0))) (.fl 1 "low" (.v 0)) (.op .Add (.v 1) (.i 1)))>=>.en⟩
def Gi:T:=.sf 3 "numbers" (.v 0) .dt>=>.en
def Gj:T:=.sf 3 "holders" (.v 0) .dk>=>Gi
def Gk:T:=.sf 3 "by_number" (.v 0) .dk>=>Gj
def Gm:T:=.sf 3 "by_inner" (.v 0) .dt>=>Gk
def Gp:T:=.sf 3 "now" (.v 0) (.i 0)>=>Gm
noncomputable def Gq:T:=.sf 3 "pool" (.v 0) (.mk 49 (.ix (.v 1) (.i 0)^.ix (.v 1) (.i 1)^.e0))>=>Gp
def Fy:T:=.sf 3 "form" (.v 0) (.v 1)>=>Gq
noncomputable def tJ:FD:=⟨2,3,"__init__",["self","form"],["self","form"],Fy⟩
noncomputable def uc:FD:=⟨1,3,"of_inner",["self","inner"],["self","inner"],.re (.d1 (.fl 3 "by_inner" (.v 0)) (.v 1))>=>.en⟩
noncomputable def t9:FD:=⟨1,3,"number_of",["self","inner"],["self","inner"],.re (.d1 (.fl 3 "numbers" (.v 0)) (.ca 24 (.fl 3 "form" (.v 0)^.v 1^.e0)))>=>.en⟩
noncomputable def ua:FD:=⟨1,3,"holder_at",["self","number"],["self","number"],.re (.d1 (.fl 3 "holders" (.v 0)) (.v 1))>=>.en⟩
noncomputable def tK:FD:=⟨1,3,"held",["self","house"],["self","house"],.re (.cp false true ["number","holder"] [(1,"house")] (.im (.fl 3 "holders" (.v 0))) (.cm .Eq (.ix (.v 1) (.i 1)) (.v 2)) (.v 0))>=>.en⟩
noncomputable def aG:FD:=⟨1,3,"pass_by",["self","ticks"],["self","ticks","ended","talk"],.af 3 "now" (.v 0) (.v 1)>=>.sc 2 false false ["talk"] [(0,"self")] (.is (.me 18 (.v 0) .e0)) (.cm .LtE (.fl 2 "over" (.v 0)) (.fl 3 "now" (.v 1))) (.v 0)>=>.fo false [3] (.is (.sk 2 "over" (.v 2))) (.ex (.me 56 (.v 0) (.v 3^.fl 2 "over" (.v 3)^.e0))>=>.en)>=>.en⟩
def GR:T:=.sf 4 "wish" (.v 0) .n>=>.en
def FL:T:=.sf 4 "done" (.v 0) (.lm .e0)>=>GR
def FN:T:=.sf 4 "strangers" (.v 0) (.mk 16 .e0)>=>FL
def FO:T:=.sf 4 "table" (.v 0) (.mk 29 (.v 1^.e0))>=>FN
def FP:T:=.sf 4 "form" (.v 0) (.v 1)>=>FO
def FQ:T:=.bp (.no (.ca 15 (.v 1^.e0))) (.ra>=>.en) .en>=>FP
noncomputable def uy:FD:=⟨2,4,"__init__",["self","form"],["self","form"],FQ⟩
noncomputable def uz:FD:=⟨1,4,"deed",["self","deed"],["self","deed","answer"],.bp (.no (.ca 13 (.v 1^.e0))) (.ra>=>.en) .en>=>.set 2 (.me 57 (.v 0) (.ix (.v 1) (.i 0)^.sl (.v 1) (.p1 (.i 1)) .p0^.e0))>=>.ex (.ap (.fl 4 "done" (.v 0)) (.tu (.v 1^.v 2^.e0)^.e0))>=>.re (.v 2)>=>.en⟩
noncomputable def uw:FD:=⟨1,4,"wait",["self","ticks"],["self","ticks"],.re (.me 36 (.v 0) (.tu (.s "wait"^.v 1^.e0)^.e0))>=>.en⟩
noncomputable def ux:FD:=⟨1,4,"sent",["self","parts"],["self","parts","answer","number","kind","house","door","place","far","word","text"],.un [4,5,6,7,8,9,10] (.v 1)>=>.set 2 (.me 58 (.v 0) (.tu (.v 4^.v 5^.v 6^.v 7^.v 8^.e0)^.v 9^.e0))>=>.bp (.or (.cm .NotEq (.v 7) (.i 0)) (.cm .Eq (.ix (.v 2) (.i 0)) (.s "kept"))) (.re (.v 2)>=>.en) .en>=>.ra⟩
noncomputable def ub:FD:=⟨1,4,"picked_for",["self","door"],["self","door","pool","now"],.pr 2 3 (.fl 3 "pool" (.fl 4 "table" (.v 0))^.fl 3 "now" (.fl 4 "table" (.v 0))^.e0)>=>.bp (.an (.cm .IsNot (.fl 4 "wish" (.v 0)) .n) (.me 50 (.v 2) (.fl 4 "wish" (.v 0)^.v 3^.e0))) (.re (.fl 4 "wish" (.v 0))>=>.en) .en>=>.re (.me 65 (.v 2) (.ix (.fl 4 "form" (.v 0)) (.i 4)^.v 1^.v 3^.e0))>=>.en⟩
noncomputable def xj:FD:=⟨0,0,"_law_cell",["script","k"],["script","k"],.bp (.cm .Lt (.v 1) (.bf "len" (.v 0^.e0))) (.re (.ix (.v 0) (.v 1))>=>.en) .en>=>.re (.i 0)>=>.en⟩
noncomputable def xi:FD:=⟨0,0,"_law_well",["cell","turn"],["cell","turn"],.bp (.cm .GtE (.v 0) (.op .Pow (.i 10) (.i 18))) (.re (.lm (.op .Sub (.v 0) (.op .Pow (.i 10) (.i 18))^.op .Mod (.v 0) (.i 2305843009213693951)^.v 1^.e0))>=>.en) .en>=>.re (.lm (.i 0^.op .Mod (.v 0) (.i 2305843009213693951)^.v 1^.e0))>=>.en⟩
noncomputable def qY:FD:=⟨0,0,"_law_take",["bag","many"],["bag","many","p","n","found"],.bp (.cm .Gt (.ix (.v 0) (.i 0)) (.i 0)) (.set 4 (.op .Mod (.ix (.v 0) (.i 0)) (.v 1))>=>.sp (.v 0) (.i 0) (.op .FloorDiv (.ix (.v 0) (.i 0)) (.v 1))>=>.re (.v 4)>=>.en) .en>=>.sp (.v 0) (.i 2) (.op .Add (.ix (.v 0) (.i 2)) (.i 1))>=>.set 2 (.i 2305843009213693951)>=>.set 3 (.op .Mod (.op .Add (.ix (.v 0) (.i 1)) (.op .Mult (.i 1000003) (.ix (.v 0) (.i 2)))) (.v 2))>=>.set 3 (.op .Mod (.op .Add (.op .Add (.op .Mult (.v 3) (.v 3)) (.op .Mult (.i 7919) (.op .Pow (.ix (.v 0) (.i 2)) (.i 2)))) (.i 5)) (.v 2))>=>.re (.op .Mod (.op .FloorDiv (.op .Mod (.op .Pow (.v 3) (.i 3)) (.v 2)) (.i 13)) (.v 1))>=>.en⟩
noncomputable def xk:FD:=⟨0,0,"_law_bag_at",["cells","k"],["cells","k","bag"],.bp (.cm .Lt (.v 1) (.bf "len" (.v 0^.e0))) (.re (.ca 41 (.ix (.v 0) (.v 1)^.i 0^.e0))>=>.en) .en>=>.set 2 (.ca 41 (.op .Mod (.ix (.v 0) (.op .Mod (.v 1) (.bf "len" (.v 0^.e0)))) (.op .Pow (.i 10) (.i 18))^.i 0^.e0))>=>.sp (.v 2) (.i 1) (.op .Mod (.op .Add (.op .Add (.ix (.v 2) (.i 1)) (.op .Mult (.op .Mult (.i 7919) (.v 1)) (.v 1))) (.op .Mult (.i 31) (.v 1))) (.i 2305843009213693951))>=>.re (.v 2)>=>.en⟩
noncomputable def Hl:T:=.re (.tu (.v 3^.op .Sub (.op .Add (.v 3) (.v 2)) (.i 1)^.v 5^.v 6^.v 7^.op .Add (.i 1) (.ca 42 (.v 0^.i 4^.e0))^.cm .Eq (.ca 42 (.v 0^.i 2^.e0)) (.i 1)^.op .Add (.v 4) (.tu (.v 8^.e0))^.e0))>=>.en
noncomputable def Hm:T:=.set 8 (.op .Add (.op .Add (.op .Mult (.i 2) (.v 1)) (.i 1)) (.ix (.ll (.i 0^.i 0^.ca 42 (.v 0^.i 10^.e0)^.e0)) (.ca 42 (.v 0^.i 3^.e0))))>=>Hl
noncomputable def Hn:T:=.set 7 (.ix (.ll (.s "next"^.s "keep"^.e0)) (.ca 42 (.v 0^.i 2^.e0)))>=>Hm
def Ho:T:=.set 6 (.ix (.ll (.s "all"^.s "place"^.s "talk"^.e0)) (.ca 42 (.v 0^.i 3^.e0)))>=>Hn
def Hq:T:=.set 5 (.ix (.ll (.s "door"^.s "place"^.s "talk"^.e0)) (.ca 42 (.v 0^.i 3^.e0)))>=>Ho
noncomputable def Hr:T:=.set 4 (.bt "tuple" (.cp false false ["k"] [(0,"bag")] (.r1 (.i 3)) (.b true) (.op .Add (.i 1) (.ca 42 (.v 1^.i 8^.e0)))^.e0))>=>Hq
noncomputable def Ht:T:=.set 3 (.ix (.ll (.i 1^.op .Sub (.i 10000) (.v 2)^.op .Add (.i 1) (.ca 42 (.v 0^.op .Sub (.i 10000) (.v 2)^.e0))^.e0)) (.ca 42 (.v 0^.i 3^.e0)))>=>Hr
def Hu:T:=.set 2 (.op .Add (.i 1) (.ca 42 (.v 0^.i 4^.e0)))>=>Ht
noncomputable def xl:FD:=⟨0,0,"_law_a_form",["bag","road"],["bag","road","many","low","times","lending","sieve","pick","rest"],Hu⟩
noncomputable def Hf:T:=.re (.tu (.v 2^.v 3^.cp false false ["k"] [(0,"bag")] (.r1 (.i 2)) (.b true) (.op .Add (.i 1) (.ca 42 (.v 1^.i 9999^.e0)))^.e0))>=>.en
noncomputable def Hg:T:=.sc 3 false false ["k"] [(0,"bag")] (.r1 (.i 2)) (.b true) (.op .Add (.i 1) (.ca 42 (.v 1^.i 1000000^.e0)))>=>Hf
noncomputable def Hh:T:=.ex (.ap (.v 2) (.tu (.ix (.ix (.v 2) (.i 0)) (.i 0)^.op .Add (.ix (.v 1) (.i 0)) (.ca 42 (.v 0^.op .Add (.op .Sub (.ix (.v 1) (.i 1)) (.ix (.v 1) (.i 0))) (.i 1)^.e0))^.e0)^.e0))>=>Hg
noncomputable def Hi:T:=.sc 2 true false ["k"] [(0,"bag")] (.r1 (.i 3)) (.b true) (.tu (.ca 42 (.v 1^.i 100^.e0)^.op .Add (.i 1) (.ca 42 (.v 1^.i 9999^.e0))^.e0))>=>Hh
noncomputable def wV:FD:=⟨0,0,"_law_a_world",["bag","form"],["bag","form","doors","places"],Hi⟩
noncomputable def wW:FD:=⟨0,0,"is_whole_within",["thing","least","greatest"],["thing","least","greatest"],.re (.an (.ca 0 (.v 0^.e0)) (.ch .LtE .LtE (.v 1) (.v 0) (.v 2)))>=>.en⟩
noncomputable def xg:FD:=⟨0,0,"is_letter",["kind","word","text"],["kind","word","text"],.re (.an (.ca 6 (.v 0^.e0)) (.an (.ca 22 (.v 0^.v 1^.e0)) (.ca 8 (.v 2^.e0))))>=>.en⟩
noncomputable def wZ:FD:=⟨0,0,"line_state",["state","side","word"],["state","side","word"],.bp (.cm .Eq (.v 2) (.s "break")) (.re (.ie (.ic false (.v 0) "BREAKABLE") (.s "shut") .n)>=>.en) .en>=>.re (.tg "LINE_STEPS" (.tu (.v 1^.v 0^.v 2^.e0)))>=>.en⟩
noncomputable def ur:FD:=⟨2,1,"__init__",["self","low","high"],["self","low","high"],.sf 1 "low" (.v 0) (.v 1)>=>.sf 1 "high" (.v 0) (.v 2)>=>.sf 1 "mark" (.v 0) (.v 1)>=>.sf 1 "taken" (.v 0) .dk>=>.sf 1 "until" (.v 0) .dk>=>.en⟩
noncomputable def tV:FD:=⟨1,1,"is_free",["self","number","moment"],["self","number","moment"],.bp (.or (.no (.me 27 (.v 0) (.v 1^.e0))) (.dn false (.v 1) (.fl 1 "taken" (.v 0)))) (.re (.b false)>=>.en) .en>=>.re (.or (.dn true (.v 1) (.fl 1 "until" (.v 0))) (.cm .LtE (.dg (.fl 1 "until" (.v 0)) (.v 1)) (.v 2)))>=>.en⟩
noncomputable def uu:FD:=⟨1,1,"give",["self","number","until"],["self","number","until"],.dd (.fl 1 "taken" (.v 0)) (.v 1)>=>.dp (.fl 1 "until" (.v 0)) (.v 1) (.v 2)>=>.en⟩
noncomputable def tP:FD:=⟨1,3,"is_with",["self","number","place"],["self","number","place"],.re (.bf "any" (.cp false false ["talk"] [(2,"place")] (.iv (.dg (.fl 3 "by_number" (.v 0)) (.v 1))) (.b true) (.cm .Eq (.ix (.fl 2 "inner" (.v 0)) (.i 3)) (.v 1))^.e0))>=>.en⟩
def Gf:T:=.dp (.fl 3 "numbers" (.v 0)) (.v 3) (.v 1)>=>.en
def Cj:T:=.dp (.fl 3 "holders" (.v 0)) (.v 1) (.v 3)>=>Gf
def Gg:T:=.ex (.me 28 (.fl 3 "pool" (.v 0)) (.v 1^.e0))>=>Cj
def Gh:T:=.set 3 (.ca 24 (.fl 3 "form" (.v 0)^.v 2^.e0))>=>Gg
noncomputable def tH:FD:=⟨1,3,"lend",["self","number","inner"],["self","number","inner","holder"],Gh⟩
noncomputable def pC:FD:=⟨1,3,"lead",["self","talk","state"],["self","talk","state"],.bp (.cm .Eq (.v 2) (.s "shut")) (.ex (.me 56 (.v 0) (.v 1^.fl 3 "now" (.v 0)^.e0))>=>.r0>=>.en) .en>=>.sf 2 "state" (.v 1) (.v 2)>=>.sf 2 "over" (.v 1) (.op .Add (.fl 3 "now" (.v 0)) (.ca 25 (.fl 3 "form" (.v 0)^.v 2^.e0)))>=>.en⟩
noncomputable def ud:FD:=⟨1,3,"end_lend",["self","number","moment"],["self","number","moment"],.dd (.fl 3 "numbers" (.v 0)) (.dg (.fl 3 "holders" (.v 0)) (.v 1))>=>.dd (.fl 3 "holders" (.v 0)) (.v 1)>=>.ex (.me 51 (.fl 3 "pool" (.v 0)) (.v 1^.op .Add (.v 2) (.ix (.ix (.fl 3 "form" (.v 0)) (.i 7)) (.i 3))^.e0))>=>.en⟩
noncomputable def GW:T:=.bp (.dn false (.v 3) (.fl 3 "holders" (.v 0))) (.ex (.me 55 (.v 0) (.v 3^.v 2^.e0))>=>.en) .en>=>.en
def GX:T:=.dd (.fl 3 "by_number" (.v 0)) (.v 3)>=>GW
def yM:T:=.bp (.cm .Gt (.bf "len" (.dg (.fl 3 "by_number" (.v 0)) (.v 3)^.e0)) (.i 0)) (.r0>=>.en) .en>=>GX
def GY:T:=.dd (.dg (.fl 3 "by_number" (.v 0)) (.v 3)) (.tu (.v 4^.v 7^.v 8^.e0))>=>yM
def GZ:T:=.dd (.fl 3 "by_inner" (.v 0)) (.fl 2 "inner" (.v 1))>=>GY
def Ha:T:=.set 3 (.fl 2 "number" (.v 1))>=>GZ
def Hb:T:=.un [4,5,6,7,8] (.fl 2 "inner" (.v 1))>=>Ha
noncomputable def uo:FD:=⟨1,3,"end",["self","talk","moment"],["self","talk","moment","number","kind","house","door","place","far"],Hb⟩
noncomputable def FH:T:=.bp (.cm .Eq (.v 1) (.s "wait")) (.ex (.me 34 (.fl 4 "table" (.v 0)) (.ix (.v 2) (.i 0)^.e0))>=>.re .n>=>.en) .en>=>.ra
def Cp:T:=.bp (.cm .Eq (.v 1) (.s "lost")) .ra .en>=>FH
noncomputable def Cq:T:=.bp (.cm .Eq (.v 1) (.s "come")) (.un [3,4,5,6,7,8] (.v 2)>=>.re (.me 70 (.v 0) (.v 3^.v 4^.v 5^.v 6^.v 7^.e0))>=>.en) .en>=>Cp
def yL:T:=.bp (.cm .Eq (.v 1) (.s "out")) (.re (.me 38 (.v 0) (.v 2^.e0))>=>.en) .en>=>Cq
noncomputable def ma:FD:=⟨1,4,"answered",["self","name","parts"],["self","name","parts","kind","place","far","number","word","text"],yL⟩
def FC:T:=.re (.tu (.s "led"^.fl 2 "number" (.v 3)^.e0))>=>.en
def FE:T:=.ex (.me 54 (.fl 4 "table" (.v 0)) (.v 3^.v 4^.e0))>=>FC
def Ck:T:=.bp (.cm .Is (.v 3) .n) (.re (.me 59 (.v 0) (.v 1^.v 4^.e0))>=>.en) .en>=>FE
noncomputable def zg:T:=.bp (.cm .Is (.v 4) .n) (.re (.tu (.s "kept"^.s "astray"^.e0))>=>.en) .en>=>Ck
noncomputable def Cm:T:=.set 4 (.ca 64 (.ix (.v 1) (.i 0)^.ie (.cm .Is (.v 3) .n) .n (.fl 2 "state" (.v 3))^.s "house"^.v 2^.e0))>=>zg
def FF:T:=.set 3 (.me 30 (.fl 4 "table" (.v 0)) (.v 1^.e0))>=>Cm
noncomputable def tQ:FD:=⟨1,4,"lead_out",["self","inner","word"],["self","inner","word","talk","state"],FF⟩
noncomputable def Cs:T:=.re (.tu (.s "led"^.v 3^.e0))>=>.en
noncomputable def Ct:T:=.ex (.me 66 (.fl 4 "table" (.v 0)) (.v 1^.v 3^.v 2^.e0))>=>Cs
noncomputable def Cu:T:=.bp (.cm .Is (.v 3) .n) (.bp (.cm .GtE (.bf "len" (.me 33 (.fl 4 "table" (.v 0)) (.ix (.v 1) (.i 1)^.e0)^.e0)) (.ix (.fl 4 "form" (.v 0)) (.i 5))) (.re (.tu (.s "kept"^.s "most"^.e0))>=>.en) .en>=>.set 3 (.me 39 (.v 0) (.ix (.v 1) (.i 2)^.e0))>=>.bp (.cm .Is (.v 3) .n) (.re (.tu (.s "kept"^.s "full"^.e0))>=>.en) .en>=>.ex (.me 53 (.fl 4 "table" (.v 0)) (.v 3^.v 1^.e0))>=>.en) .en>=>Ct
noncomputable def GV:T:=.set 3 (.me 31 (.fl 4 "table" (.v 0)) (.v 1^.e0))>=>Cu
noncomputable def tN:FD:=⟨1,4,"begin_out",["self","inner","state"],["self","inner","state","number"],GV⟩
def FI:T:=.re (.tu (.s "in"^.v 6^.v 7^.e0))>=>.en
noncomputable def FJ:T:=.bp (.or (.v 4) (.cm .NotEq (.v 3) (.fl 2 "state" (.v 1)))) (.ex (.me 54 (.fl 4 "table" (.v 0)) (.v 1^.v 3^.e0))>=>.en) .en>=>FI
def FK:T:=.set 4 (.ix (.fl 4 "form" (.v 0)) (.i 6))>=>FJ
def Cr:T:=.bp (.cm .Is (.v 3) .n) (.re (.tu (.s "kept"^.s "astray"^.e0))>=>.en) .en>=>FK
def GS:T:=.set 3 (.ca 64 (.v 5^.fl 2 "state" (.v 1)^.s "far"^.v 2^.e0))>=>Cr
def GU:T:=.un [5,6,7,8,9] (.fl 2 "inner" (.v 1))>=>GS
noncomputable def tX:FD:=⟨1,4,"lead_in",["self","talk","word"],["self","talk","word","state","renew","kind","house","door","place","far"],GU⟩
noncomputable def t8:FD:=⟨1,4,"lets_note_in",["self","place","number"],["self","place","number","sieve"],.set 3 (.ix (.fl 4 "form" (.v 0)) (.i 3))>=>.re (.or (.cm .Eq (.v 3) (.s "all")) (.an (.cm .Eq (.v 3) (.s "place")) (.me 52 (.fl 4 "table" (.v 0)) (.v 2^.v 1^.e0))))>=>.en⟩
def GD:T:=.ex (.li (.v 0) (.v 3^.tu (.v 1^.v 2^.e0)^.e0))>=>.en
noncomputable def GF:T:=.set 3 (.bf "len" (.cp false false ["one"] [(1,"moment")] (.is (.v 0)) (.cm .LtE (.ix (.v 0) (.i 0)) (.v 1)) (.v 0)^.e0))>=>GD
noncomputable def xa:FD:=⟨0,0,"_law_later",["row","moment","thing"],["row","moment","thing","at"],GF⟩
def GG:T:=.re (.b true)>=>.en
def Cd:T:=.ex (.me 37 (.v 0) (.op .Sub (.v 2) (.me 19 (.v 0) .e0)^.e0))>=>GG
noncomputable def Bv:T:=.bp (.an (.cm .NotEq (.v 3) (.op .Add (.tu (.s "in"^.e0)) (.v 6))) (.cm .NotIn (.v 3) (.ll (.tu (.s "kept"^.s "nobody"^.e0)^.tu (.s "kept"^.s "sieve"^.e0)^.tu (.s "kept"^.s "astray"^.e0)^.e0)))) (.re (.b false)>=>.en) .en>=>.en
def Km:T:=.set 3 (.me 36 (.v 0) (.v 5^.e0))>=>Bv
def Bw:T:=.ex (.me 37 (.v 0) (.op .Sub (.v 4) (.me 19 (.v 0) .e0)^.e0))>=>Km
def Bx:T:=.u3 4 5 6 (.po (.v 1) (.i 0^.e0))>=>Bw
def GH:T:=.wh (.an (.cm .NotEq (.v 1) (.ll .e0)) (.cm .LtE (.ix (.ix (.v 1) (.i 0)) (.i 0)) (.v 2))) Bx>=>Cd
noncomputable def wY:FD:=⟨0,0,"_law_gone_on",["gate","row","till"],["gate","row","till","found","moment","deed","asker"],GH⟩
noncomputable def xn:FD:=⟨0,0,"next_state",["kind","state","side","word"],["kind","state","side","word"],.bp (.cm .Eq (.v 0) (.s "note")) (.re (.ca 26 (.v 1^.v 3^.e0))>=>.en) .en>=>.re (.ca 48 (.v 1^.v 2^.v 3^.e0))>=>.en⟩
noncomputable def tZ:FD:=⟨1,1,"picked",["self","pick","door","moment"],["self","pick","door","moment","number"],.bp (.an (.cm .Eq (.v 1) (.s "keep")) (.me 50 (.v 0) (.v 2^.v 3^.e0))) (.re (.v 2)>=>.en) .en>=>.fo false [4] (.is (.me 17 (.v 0) .e0)) (.bp (.me 50 (.v 0) (.v 4^.v 3^.e0)) (.re (.v 4)>=>.en) .en>=>.en)>=>.re .n>=>.en⟩
def Cv:T:=.dp (.dg (.fl 3 "by_number" (.v 0)) (.v 2)) (.tu (.v 5^.v 8^.v 9^.e0)) (.v 4)>=>.en
def Cw:T:=.bp (.dn true (.v 2) (.fl 3 "by_number" (.v 0))) (.dp (.fl 3 "by_number" (.v 0)) (.v 2) .dt>=>.en) .en>=>Cv
def Cy:T:=.dp (.fl 3 "by_inner" (.v 0)) (.v 1) (.v 4)>=>Cw
noncomputable def Cz:T:=.set 4 (.mk 68 (.v 1^.v 2^.v 3^.op .Add (.fl 3 "now" (.v 0)) (.ca 25 (.fl 3 "form" (.v 0)^.v 3^.e0))^.e0))>=>Cy
def CA:T:=.un [5,6,7,8,9] (.v 1)>=>Cz
noncomputable def pG:FD:=⟨1,3,"begin",["self","inner","number","state"],["self","inner","number","state","talk","kind","house","door","place","far"],CA⟩
noncomputable def t6:FD:=⟨1,4,"sifted",["self","kind","place","number"],["self","kind","place","number","holder"],.set 4 (.me 32 (.fl 4 "table" (.v 0)) (.v 3^.e0))>=>.bp (.or (.cm .Is (.v 4) .n) (.cm .NotEq (.ix (.v 4) (.i 0)) (.v 1))) (.re (.tu (.s "kept"^.s "nobody"^.e0))>=>.en) .en>=>.bp (.or (.cm .Eq (.v 1) (.s "line")) (.no (.me 61 (.v 0) (.v 2^.v 3^.e0)))) (.re (.tu (.s "kept"^.s "sieve"^.e0))>=>.en) .en>=>.re (.tu (.s "in"^.ix (.v 4) (.i 1)^.ix (.v 4) (.i 2)^.e0))>=>.en⟩
noncomputable def pE:FD:=⟨2,2,"__init__",["self","inner","number","state","over"],["self","inner","number","state","over"],.sf 2 "inner" (.v 0) (.v 1)>=>.sf 2 "number" (.v 0) (.v 2)>=>.sf 2 "state" (.v 0) (.v 3)>=>.sf 2 "over" (.v 0) (.v 4)>=>.en⟩
noncomputable def pF:FD:=⟨1,3,"of_outer",["self","kind","number","place","far"],["self","kind","number","place","far"],.bp (.dn true (.v 2) (.fl 3 "by_number" (.v 0))) (.re .n>=>.en) .en>=>.re (.d1 (.dg (.fl 3 "by_number" (.v 0)) (.v 2)) (.tu (.v 1^.v 3^.v 4^.e0)))>=>.en⟩
noncomputable def Hc:T:=.bp (.me 27 (.fl 3 "pool" (.fl 4 "table" (.v 0))) (.v 4^.e0)) (.re (.me 67 (.v 0) (.v 1^.v 2^.v 4^.e0))>=>.en) .en>=>.ra
def CB:T:=.bp (.cm .IsNot (.v 6) .n) (.re (.me 60 (.v 0) (.v 6^.v 5^.e0))>=>.en) .en>=>Hc
def He:T:=.set 6 (.me 69 (.fl 4 "table" (.v 0)) (.v 1^.v 4^.v 2^.v 3^.e0))>=>CB
noncomputable def tY:FD:=⟨1,4,"come_in",["self","kind","place","far","number","word"],["self","kind","place","far","number","word","talk"],He⟩
def yu:T:=.re (.b true)>=>.en
noncomputable def A7:T:=.ex (.ca 62 (.v 4^.op .Add (.op .Add (.v 12) (.i 1)) (.ca 42 (.v 0^.v 5^.e0))^.tu (.v 18^.sl (.v 8) (.p1 (.i 1)) (.p1 (.i 3))^.e0)^.e0))>=>.en
noncomputable def A8:T:=.set 18 (.tu (.s "come"^.v 6^.ix (.v 8) (.i 3)^.ix (.v 8) (.i 4)^.ix (.v 10) (.i 1)^.v 17^.s ""^.e0))>=>A7
noncomputable def ya:T:=.set 17 (.ix (.ll (.v 7^.v 7^.ie (.cm .Eq (.v 6) (.s "line")) (.s "break") (.s "say")^.e0)) (.ca 42 (.v 0^.i 3^.e0)))>=>A8
noncomputable def vn:T:=.fo false [13] (.r1 (.ix (.ll (.i 1^.i 1^.i 2^.i 0^.e0)) (.ca 42 (.v 0^.i 4^.e0)))) ya>=>yu
def yw:T:=.set 12 (.op .Add (.op .Add (.me 19 (.v 1) .e0) (.i 1)) (.ca 42 (.v 0^.v 5^.e0)))>=>vn
noncomputable def y7:T:=.bp (.cm .NotEq (.cp false false ["one"] [(10,"found"),(8,"inner"),(11,"seen")] (.is (.v 9)) (.an (.cm .Eq (.ix (.v 0) (.i 0)) (.ix (.v 1) (.i 1))) (.cm .NotEq (.sl (.v 0) (.p1 (.i 1)) (.p1 (.op .Add (.i 1) (.v 3)))) (.sl (.v 2) .p0 (.p1 (.v 3))))) (.v 0)) (.ll .e0)) (.re (.b false)>=>.en) .en>=>yw
noncomputable def y8:T:=.set 11 (.di [("door",3),("place",4),("talk",5)] (.ix (.v 2) (.i 2)))>=>y7
noncomputable def GI:T:=.bp (.or (.no (.bf "isinstance" (.v 10^.ty "tuple"^.e0))) (.or (.cm .NotEq (.bf "len" (.v 10^.e0)) (.i 2)) (.cm .NotEq (.ix (.v 10) (.i 0)) (.s "led")))) (.re (.b false)>=>.en) .en>=>y8
noncomputable def qx:T:=.bp (.cm .In (.v 10) (.ll (.tu (.s "kept"^.s "full"^.e0)^.tu (.s "kept"^.s "most"^.e0)^.tu (.s "kept"^.s "astray"^.e0)^.e0))) (.re (.b true)>=>.en) .en>=>GI
noncomputable def y9:T:=.set 10 (.me 72 (.v 1) (.ix (.v 8) (.i 0)^.ix (.v 8) (.i 1)^.ix (.v 8) (.i 2)^.ix (.v 8) (.i 3)^.ix (.v 8) (.i 4)^.v 7^.s ""^.e0))>=>qx
def za:T:=.set 9 (.me 20 (.v 1) .e0)>=>y9
noncomputable def zb:T:=.set 8 (.op .Add (.op .Add (.tu (.v 6^.e0)) (.ix (.v 14) (.ca 42 (.v 0^.i 4^.e0)))) (.tu (.ix (.v 15) (.ca 42 (.v 0^.i 2^.e0))^.ix (.v 16) (.ca 42 (.v 0^.i 2^.e0))^.e0)))>=>za
def vH:T:=.set 7 (.ie (.cm .Eq (.v 6) (.s "note")) (.s "say") (.s "open"))>=>zb
def zc:T:=.set 6 (.ix (.ll (.s "note"^.s "line"^.s "note"^.e0)) (.ca 42 (.v 0^.i 3^.e0)))>=>vH
def zd:T:=.un [14,15,16] (.v 3)>=>zc
noncomputable def w5:FD:=⟨0,0,"_law_wrote",["bag","gate","form","world","row","road"],["bag","gate","form","world","row","road","kind","word","inner","ahead","found","seen","there","turn","doors","places","fars","said","deed"],zd⟩
noncomputable def um:FD:=⟨1,4,"out",["self","kind","house","door","place","far","word","text"],["self","kind","house","door","place","far","word","text"],.re (.me 36 (.v 0) (.tu (.s "out"^.v 1^.v 2^.v 3^.v 4^.v 5^.v 6^.v 7^.e0)^.e0))>=>.en⟩
end
noncomputable def S:SI where
 gi:=[("GREATEST_HOUSE",99),("GREATEST_DOOR",9999),("GREATEST_PLACE",1000000),("GREATEST_TICKS",1000000),("MOST_SIGNS",40),("FIRST_SIGN",32),("LAST_SIGN",126),("PERCENT_SIGN",37),("WIDEST_STEP",199),("GREATEST_MOST",200),("GREATEST_TIME",1000000)]
 gt:=[("KINDS",["note","line"]),("NOTE_WORDS",["say"]),("LINE_WORDS",["open","say","close","break"]),("LENDINGS",["door","place","talk"]),("SIEVES",["all","place","talk"]),("PICKS",["next","keep"]),("BREAKABLE",["asked","called","up","near","far"])]
 tb:=["DEEDS","TIME_AT"]
 tt:=[("LINE_STEPS",[([some (.inr "house"),none,some (.inr "open")],"asked"),([some (.inr "house"),some (.inr "asked"),some (.inr "open")],"asked"),([some (.inr "house"),some (.inr "called"),some (.inr "open")],"up"),([some (.inr "house"),some (.inr "up"),some (.inr "say")],"up"),([some (.inr "house"),some (.inr "far"),some (.inr "say")],"far"),([some (.inr "house"),some (.inr "up"),some (.inr "close")],"near"),([some (.inr "house"),some (.inr "far"),some (.inr "close")],"shut"),([some (.inr "far"),none,some (.inr "open")],"called"),([some (.inr "far"),some (.inr "called"),some (.inr "open")],"called"),([some (.inr "far"),some (.inr "asked"),some (.inr "open")],"up"),([some (.inr "far"),some (.inr "up"),some (.inr "say")],"up"),([some (.inr "far"),some (.inr "near"),some (.inr "say")],"near"),([some (.inr "far"),some (.inr "up"),some (.inr "close")],"far"),([some (.inr "far"),some (.inr "near"),some (.inr "close")],"shut")])]
 cl:=["Rules","Pool","Talk","Talks","Gate"]
 fs:=[(0,"many_told"),(0,"standing"),(1,"low"),(1,"high"),(1,"mark"),(1,"taken"),(1,"until"),(2,"inner"),(2,"number"),(2,"state"),(2,"over"),(3,"form"),(3,"pool"),(3,"now"),(3,"by_inner"),(3,"by_number"),(3,"holders"),(3,"numbers"),(4,"form"),(4,"table"),(4,"strangers"),(4,"done"),(4,"wish")]
 bl:=["all","any","bool","int","isinstance","len","list","max","ord","range","sorted","str","tuple"]
 fd:=[xE,xI,xr,xH,wX,xG,xp,IG,xD,uA,uI,uH,xB,xt,xF,xq,tL,ue,tS,t7,tM,rR,xC,xo,xh,xA,xm,uk,uq,tJ,uc,t9,ua,tK,aG,uy,uz,uw,ux,ub,xj,xi,qY,xk,xl,wV,wW,xg,wZ,ur,tV,uu,tP,tH,pC,ud,uo,ma,tQ,tN,tX,t8,xa,wY,xn,tZ,pG,t6,pE,pF,tY,w5,um]
 ln:=aG.N
 lp:=⟨302,38,302,58⟩
 lq:="Talks.pass_by.<locals>.<lambda>"
abbrev Sh:Stmt:=top 24
abbrev R5:Stmt:=top 49
abbrev Rg:Stmt:=inClass (top 67) 10
abbrev ZT:Stmt:=top 78
abbrev Rf:Stmt:=inClass (top 65) 8
abbrev Q3:Stmt:=inClass (top 65) 15
abbrev Q5:Stmt:=top 73
abbrev Q8:Stmt:=top 76
abbrev Q4:Stmt:=inClass (top 65) 3
abbrev Rc:Stmt:=top 74
abbrev Rb:Stmt:=top 77
structure Env where
 tb:Str->bV
 C:Nat->Addr
 cv:List (Addr×Nat)
 lP:Addr:=0
def P(e:Env):iL:=⟨S,e.tb,e.C,e.cv,e.lP⟩
def rd(Q:ao):RD:={ nx:=λ_ a=>Q .au a,rt:=Q }
section
variable {e:Env}{n:Nat}{M:RM}{Q:ao}{σ:bb}{rs:LR}
theorem qxw{x:RV}:iZ (y::N) (x::rs)=some x::iZ N rs:=by unfold iZ;rw[bG,bG,Nat.add_sub_add_right];rfl
theorem qxu:iZ (y::N) []=none::iZ N []:=rfl
theorem qxv:iZ [] []= []:=rfl
theorem Lo{A B C:Prop}(h:A)(k:B=C):(A/\B)=C:=by rw[eq_true h,true_and,k]
theorem qxG:(rd Q).nx σ M=Q .au M:=rfl
theorem qxF:(rd Q).rt=Q:=rfl
theorem qF6{i:Nat}:((P e).Gn n).fn i rs M Q=aw (P e) n i rs M Q:=rfl
theorem qyx{i:Nat}:((P e).Gn (n+1)).lW i rs M Q=aw (P e) n i rs M Q:=rfl
theorem qF4{x:Str}:((P e).Gn n).tb x=e.tb x:=rfl
theorem qyy:((P e).Gn n).ik=e.cv.map λq=>(q.1,aw (P e) n q.2):=rfl
theorem g_C{i:Nat}:((P e).Gn n).C i=e.C i:=rfl
theorem qF5:((P e).Gn n).lP=e.lP:=rfl
theorem us{i:Nat}{rs:LR}(h:S.fd[i]? =some d):aw (P e) (n+1) i rs M Q=(rs.length=d.ps.length/\(tr ((P e).Gn n) d.body).S (rd Q) (iZ d.N rs) M):=by rw[Jn (p:=P e) h];rfl
end
def nq(e:Env)(a b:RV):RO:=.ins (e.C 0) [("many_told",a),("standing",b)]
def eD(e:Env)(a b c d f:RV):RO:=.ins (e.C 1) [("low",a),("high",b),("mark",c),("taken",d),("until",f)]
noncomputable def gk (e:Env)(a b c d:RV):RO:=.ins (e.C 2) [("inner",a),("number",b),("state",c),("over",d)]
noncomputable def bP (e:Env)(a b c d f g h:RV):RO:=.ins (e.C 3) [("form",a),("pool",b),("now",c),("by_inner",d),("by_number",f),("holders",g),("numbers",h)]
noncomputable def bL (e:Env)(a b c d f:RV):RO:=.ins (e.C 4) [("form",a),("table",b),("strangers",c),("done",d),("wish",f)]
section
variable {e:Env}{n:Nat}{M:RM}{Q:ao}{σ:bb}{rs:LR}{x:Addr}{y:RV}{N:RM->Prop}{t:bD}{sp:bX}{o a:T}
theorem lI{e:Env}{v:RV}{b:List (Str×RV)}(h:b.lookup f=some v):fO (e.C c) f Q M (some (.ins (e.C c) b))=Q v M:=by rw[YF,h];rfl
theorem wI{b:List (Str×RV)}(h:Nat.ble (b.length+1) 1000=true):sO (e.C c) f y N x M (some (.ins (e.C c) b))=N (put M x (.ins (e.C c) (jL f y b))):=by rw[Xr];exact Lo (Nat.le_of_ble_eq_true h) rfl
theorem mI{b:List (Str×RV)}(h:b.lookup f=none):mO (e.C c) f sp t σ Q x M (some (.ins (e.C c) b))=t σ M λrs M2=>sp (.ref x::rs) M2 Q:=by rw[Yv];exact Lo h rfl
abbrev lT(e:Env)(c:Nat)(r:RO)(f:Str)(v:RV):Prop:=∀{Q:ao} {M:RM},fO (e.C c) f Q M (some r)=Q v M
abbrev wT(e:Env)(c:Nat)(y:RV)(r r1:RO)(f:Str):Prop:=∀{N:RM->Prop} {x:Addr} {M:RM},sO (e.C c) f y N x M (some r)=N (put M x r1)
abbrev mT(e:Env)(c:Nat)(r:RO)(f:Str):Prop:=∀{sp:bX} {t:bD} {σ:bb} {Q:ao} {x:Addr} {M:RM},mO (e.C c) f sp t σ Q x M (some r)=t σ M λrs M2=>sp (.ref x::rs) M2 Q
abbrev tT(i c:Nat)(f:Str):Prop:=∀{e:Env} {n:Nat} {M:RM} {Q:ao} {σ:bb} {o a:T},(tr ((P e).Gn n) (.me i o a)).E σ M Q=(tr ((P e).Gn n) o).E σ M (pf (e.C c) f (aw (P e) n i) (tr ((P e).Gn n) a).A σ Q)
abbrev kT(i c:Nat):Prop:=∀{e:Env} {n:Nat} {M:RM} {Q:ao} {σ:bb} {a:T},(tr ((P e).Gn (n+1)) (.mk i a)).E σ M Q=(tr ((P e).Gn (n+1)) a).A σ M λrs M1=>∀x,M1 x=none->aw (P e) n i (.ref x::rs) (put M1 x (.ins (e.C c) [])) λv M2=>v= .au/\Q (.ref x) M2
abbrev gT(f:Str)(i:Int):Prop:=∀{e:Env} {n:Nat} {M:RM} {Q:ao} {σ:bb},(tr ((P e).Gn n) (.g f)).E σ M Q=Q (.int i) M
abbrev cT(f:Str)(l:aA):Prop:=∀{e:Env} {n:Nat} {M:RM} {Q:ao} {σ:bb} {a:T} {neg:Bool},(tr ((P e).Gn n) (.ic neg a f)).E σ M Q=(tr ((P e).Gn n) a).E σ M λx M1=>aB 15 x=true/\Q (.bl (if neg then !inR x (l.map RV.str)else inR x (l.map RV.str))) M1
theorem qdv:lT e 0 (nq e v0 v1) "many_told" v0:=lI rfl
theorem qdd:wT e 0 y (nq e v0 v1) (nq e y v1) "many_told":=wI rfl
theorem qdY:lT e 0 (nq e v0 v1) "standing" v1:=lI rfl
theorem qdL:wT e 0 y (nq e v0 v1) (nq e v0 y) "standing":=wI rfl
theorem qkr:wT e 0 y (.ins (e.C 0) []) (.ins (e.C 0) [("many_told",y)]) "many_told":=wI rfl
theorem qkq:wT e 0 y (.ins (e.C 0) [("many_told",v0)]) (nq e v0 y) "standing":=wI rfl
theorem qrv:kT 16 0:=vA (d:=tL) rfl
theorem qke:lT e 1 (eD e v0 v1 v2 v3 v4) "low" v0:=lI rfl
theorem qjV:wT e 1 y (eD e v0 v1 v2 v3 v4) (eD e y v1 v2 v3 v4) "low":=wI rfl
theorem qiI:lT e 1 (eD e v0 v1 v2 v3 v4) "high" v1:=lI rfl
theorem qh8:wT e 1 y (eD e v0 v1 v2 v3 v4) (eD e v0 y v2 v3 v4) "high":=wI rfl
theorem qiH:lT e 1 (eD e v0 v1 v2 v3 v4) "mark" v2:=lI rfl
theorem qh7:wT e 1 y (eD e v0 v1 v2 v3 v4) (eD e v0 v1 y v3 v4) "mark":=wI rfl
theorem qhs:lT e 1 (eD e v0 v1 v2 v3 v4) "taken" v3:=lI rfl
theorem qgN:wT e 1 y (eD e v0 v1 v2 v3 v4) (eD e v0 v1 v2 y v4) "taken":=wI rfl
theorem qhr:lT e 1 (eD e v0 v1 v2 v3 v4) "until" v4:=lI rfl
theorem qgM:wT e 1 y (eD e v0 v1 v2 v3 v4) (eD e v0 v1 v2 v3 y) "until":=wI rfl
theorem qmw:wT e 1 y (.ins (e.C 1) []) (.ins (e.C 1) [("low",y)]) "low":=wI rfl
theorem qmv:wT e 1 y (.ins (e.C 1) [("low",v0)]) (.ins (e.C 1) [("low",v0),("high",y)]) "high":=wI rfl
theorem qmu:wT e 1 y (.ins (e.C 1) [("low",v0),("high",v1)]) (.ins (e.C 1) [("low",v0),("high",v1),("mark",y)]) "mark":=wI rfl
theorem qmt:wT e 1 y (.ins (e.C 1) [("low",v0),("high",v1),("mark",v2)]) (.ins (e.C 1) [("low",v0),("high",v1),("mark",v2),("taken",y)]) "taken":=wI rfl
theorem qms:wT e 1 y (.ins (e.C 1) [("low",v0),("high",v1),("mark",v2),("taken",v3)]) (eD e v0 v1 v2 v3 y) "until":=wI rfl
theorem QX:mT e 1 (eD e v0 v1 v2 v3 v4) "from_mark":=mI rfl
theorem qdQ:tT 17 1 "from_mark":=cI (d:=ue) rfl
theorem qhk:mT e 1 (eD e v0 v1 v2 v3 v4) "has":=mI rfl
theorem qj0:tT 27 1 "has":=cI (d:=uk) rfl
theorem qgg:mT e 1 (eD e v0 v1 v2 v3 v4) "take":=mI rfl
theorem qif:tT 28 1 "take":=cI (d:=uq) rfl
theorem quN:kT 49 1:=vA (d:=ur) rfl
theorem qdU:mT e 1 (eD e v0 v1 v2 v3 v4) "is_free":=mI rfl
theorem qfd:tT 50 1 "is_free":=cI (d:=tV) rfl
theorem qgh:mT e 1 (eD e v0 v1 v2 v3 v4) "give":=mI rfl
theorem qig:tT 51 1 "give":=cI (d:=uu) rfl
theorem qeF:mT e 1 (eD e v0 v1 v2 v3 v4) "picked":=mI rfl
theorem qfU:tT 65 1 "picked":=cI (d:=tZ) rfl
theorem qhq:lT e 2 (gk e v0 v1 v2 v3) "inner" v0:=lI rfl
theorem qgL:wT e 2 y (gk e v0 v1 v2 v3) (gk e y v1 v2 v3) "inner":=wI rfl
theorem qgn:lT e 2 (gk e v0 v1 v2 v3) "number" v1:=lI rfl
theorem qfR:wT e 2 y (gk e v0 v1 v2 v3) (gk e v0 y v2 v3) "number":=wI rfl
theorem qhp:lT e 2 (gk e v0 v1 v2 v3) "state" v2:=lI rfl
theorem qgK:wT e 2 y (gk e v0 v1 v2 v3) (gk e v0 v1 y v3) "state":=wI rfl
theorem qiG:lT e 2 (gk e v0 v1 v2 v3) "over" v3:=lI rfl
theorem qh6:wT e 2 y (gk e v0 v1 v2 v3) (gk e v0 v1 v2 y) "over":=wI rfl
theorem qmr:wT e 2 y (.ins (e.C 2) []) (.ins (e.C 2) [("inner",y)]) "inner":=wI rfl
theorem qmq:wT e 2 y (.ins (e.C 2) [("inner",v0)]) (.ins (e.C 2) [("inner",v0),("number",y)]) "number":=wI rfl
theorem qmp:wT e 2 y (.ins (e.C 2) [("inner",v0),("number",v1)]) (.ins (e.C 2) [("inner",v0),("number",v1),("state",y)]) "state":=wI rfl
theorem qmo:wT e 2 y (.ins (e.C 2) [("inner",v0),("number",v1),("state",v2)]) (gk e v0 v1 v2 y) "over":=wI rfl
theorem quM:kT 68 2:=vA (d:=pE) rfl
theorem qho:lT e 3 (bP e v0 v1 v2 v3 v4 v5 v6) "form" v0:=lI rfl
theorem qgJ:wT e 3 y (bP e v0 v1 v2 v3 v4 v5 v6) (bP e y v1 v2 v3 v4 v5 v6) "form":=wI rfl
theorem qhn:lT e 3 (bP e v0 v1 v2 v3 v4 v5 v6) "pool" v1:=lI rfl
theorem qgI:wT e 3 y (bP e v0 v1 v2 v3 v4 v5 v6) (bP e v0 y v2 v3 v4 v5 v6) "pool":=wI rfl
theorem qiF:lT e 3 (bP e v0 v1 v2 v3 v4 v5 v6) "now" v2:=lI rfl
theorem qh5:wT e 3 y (bP e v0 v1 v2 v3 v4 v5 v6) (bP e v0 v1 y v3 v4 v5 v6) "now":=wI rfl
theorem qdX:lT e 3 (bP e v0 v1 v2 v3 v4 v5 v6) "by_inner" v3:=lI rfl
theorem qdK:wT e 3 y (bP e v0 v1 v2 v3 v4 v5 v6) (bP e v0 v1 v2 y v4 v5 v6) "by_inner":=wI rfl
theorem qdu:lT e 3 (bP e v0 v1 v2 v3 v4 v5 v6) "by_number" v4:=lI rfl
theorem qdc:wT e 3 y (bP e v0 v1 v2 v3 v4 v5 v6) (bP e v0 v1 v2 v3 y v5 v6) "by_number":=wI rfl
theorem qeN:lT e 3 (bP e v0 v1 v2 v3 v4 v5 v6) "holders" v5:=lI rfl
theorem qeh:wT e 3 y (bP e v0 v1 v2 v3 v4 v5 v6) (bP e v0 v1 v2 v3 v4 y v6) "holders":=wI rfl
theorem qeM:lT e 3 (bP e v0 v1 v2 v3 v4 v5 v6) "numbers" v6:=lI rfl
theorem qeg:wT e 3 y (bP e v0 v1 v2 v3 v4 v5 v6) (bP e v0 v1 v2 v3 v4 v5 y) "numbers":=wI rfl
theorem qkp:wT e 3 y (.ins (e.C 3) []) (.ins (e.C 3) [("form",y)]) "form":=wI rfl
theorem qko:wT e 3 y (.ins (e.C 3) [("form",v0)]) (.ins (e.C 3) [("form",v0),("pool",y)]) "pool":=wI rfl
theorem qkn:wT e 3 y (.ins (e.C 3) [("form",v0),("pool",v1)]) (.ins (e.C 3) [("form",v0),("pool",v1),("now",y)]) "now":=wI rfl
theorem qkm:wT e 3 y (.ins (e.C 3) [("form",v0),("pool",v1),("now",v2)]) (.ins (e.C 3) [("form",v0),("pool",v1),("now",v2),("by_inner",y)]) "by_inner":=wI rfl
theorem qkl:wT e 3 y (.ins (e.C 3) [("form",v0),("pool",v1),("now",v2),("by_inner",v3)]) (.ins (e.C 3) [("form",v0),("pool",v1),("now",v2),("by_inner",v3),("by_number",y)]) "by_number":=wI rfl
theorem qkk:wT e 3 y (.ins (e.C 3) [("form",v0),("pool",v1),("now",v2),("by_inner",v3),("by_number",v4)]) (.ins (e.C 3) [("form",v0),("pool",v1),("now",v2),("by_inner",v3),("by_number",v4),("holders",y)]) "holders":=wI rfl
theorem qkj:wT e 3 y (.ins (e.C 3) [("form",v0),("pool",v1),("now",v2),("by_inner",v3),("by_number",v4),("holders",v5)]) (bP e v0 v1 v2 v3 v4 v5 y) "numbers":=wI rfl
theorem qdT:mT e 3 (bP e v0 v1 v2 v3 v4 v5 v6) "living":=mI rfl
theorem qfc:tT 18 3 "living":=cI (d:=tS) rfl
theorem qru:kT 29 3:=vA (d:=tJ) rfl
theorem qcQ:mT e 3 (bP e v0 v1 v2 v3 v4 v5 v6) "of_inner":=mI rfl
theorem qdO:tT 30 3 "of_inner":=cI (d:=uc) rfl
theorem qcv:mT e 3 (bP e v0 v1 v2 v3 v4 v5 v6) "number_of":=mI rfl
theorem qdf:tT 31 3 "number_of":=cI (d:=t9) rfl
theorem qcw:mT e 3 (bP e v0 v1 v2 v3 v4 v5 v6) "holder_at":=mI rfl
theorem qdg:tT 32 3 "holder_at":=cI (d:=ua) rfl
theorem qfn:mT e 3 (bP e v0 v1 v2 v3 v4 v5 v6) "held":=mI rfl
theorem qgX:tT 33 3 "held":=cI (d:=tK) rfl
theorem qdp:mT e 3 (bP e v0 v1 v2 v3 v4 v5 v6) "pass_by":=mI rfl
theorem qei:tT 34 3 "pass_by":=cI (d:=aG) rfl
theorem qdq:mT e 3 (bP e v0 v1 v2 v3 v4 v5 v6) "is_with":=mI rfl
theorem qej:tT 52 3 "is_with":=cI (d:=tP) rfl
theorem qfl:mT e 3 (bP e v0 v1 v2 v3 v4 v5 v6) "lend":=mI rfl
theorem qgV:tT 53 3 "lend":=cI (d:=tH) rfl
theorem qfm:mT e 3 (bP e v0 v1 v2 v3 v4 v5 v6) "lead":=mI rfl
theorem qgW:tT 54 3 "lead":=cI (d:=pC) rfl
theorem qcR:mT e 3 (bP e v0 v1 v2 v3 v4 v5 v6) "end_lend":=mI rfl
theorem qdP:tT 55 3 "end_lend":=cI (d:=ud) rfl
theorem qgf:mT e 3 (bP e v0 v1 v2 v3 v4 v5 v6) "end":=mI rfl
theorem qie:tT 56 3 "end":=cI (d:=uo) rfl
theorem qeE:mT e 3 (bP e v0 v1 v2 v3 v4 v5 v6) "begin":=mI rfl
theorem qfT:tT 66 3 "begin":=cI (d:=pG) rfl
theorem qcP:mT e 3 (bP e v0 v1 v2 v3 v4 v5 v6) "of_outer":=mI rfl
theorem qdN:tT 69 3 "of_outer":=cI (d:=pF) rfl
theorem qiK:lT e 4 (bL e v0 v1 v2 v3 v4) "form" v0:=lI rfl
theorem qia:wT e 4 y (bL e v0 v1 v2 v3 v4) (bL e y v1 v2 v3 v4) "form":=wI rfl
theorem qht:lT e 4 (bL e v0 v1 v2 v3 v4) "table" v1:=lI rfl
theorem qgO:wT e 4 y (bL e v0 v1 v2 v3 v4) (bL e v0 y v2 v3 v4) "table":=wI rfl
theorem qdZ:lT e 4 (bL e v0 v1 v2 v3 v4) "strangers" v2:=lI rfl
theorem qdM:wT e 4 y (bL e v0 v1 v2 v3 v4) (bL e v0 v1 y v3 v4) "strangers":=wI rfl
theorem qiL:lT e 4 (bL e v0 v1 v2 v3 v4) "done" v3:=lI rfl
theorem qib:wT e 4 y (bL e v0 v1 v2 v3 v4) (bL e v0 v1 v2 y v4) "done":=wI rfl
theorem qiJ:lT e 4 (bL e v0 v1 v2 v3 v4) "wish" v4:=lI rfl
theorem qh9:wT e 4 y (bL e v0 v1 v2 v3 v4) (bL e v0 v1 v2 v3 y) "wish":=wI rfl
theorem qmB:wT e 4 y (.ins (e.C 4) []) (.ins (e.C 4) [("form",y)]) "form":=wI rfl
theorem qmA:wT e 4 y (.ins (e.C 4) [("form",v0)]) (.ins (e.C 4) [("form",v0),("table",y)]) "table":=wI rfl
theorem qmz:wT e 4 y (.ins (e.C 4) [("form",v0),("table",v1)]) (.ins (e.C 4) [("form",v0),("table",v1),("strangers",y)]) "strangers":=wI rfl
theorem qmy:wT e 4 y (.ins (e.C 4) [("form",v0),("table",v1),("strangers",v2)]) (.ins (e.C 4) [("form",v0),("table",v1),("strangers",v2),("done",y)]) "done":=wI rfl
theorem qmx:wT e 4 y (.ins (e.C 4) [("form",v0),("table",v1),("strangers",v2),("done",v3)]) (bL e v0 v1 v2 v3 y) "wish":=wI rfl
theorem qeH:mT e 4 (bL e v0 v1 v2 v3 v4) "moment":=mI rfl
theorem qfW:tT 19 4 "moment":=cI (d:=t7) rfl
theorem qfo:mT e 4 (bL e v0 v1 v2 v3 v4) "lends":=mI rfl
theorem qgY:tT 20 4 "lends":=cI (d:=tM) rfl
theorem quO:kT 35 4:=vA (d:=uy) rfl
theorem qgk:mT e 4 (bL e v0 v1 v2 v3 v4) "deed":=mI rfl
theorem qij:tT 36 4 "deed":=cI (d:=uz) rfl
theorem qgi:mT e 4 (bL e v0 v1 v2 v3 v4) "wait":=mI rfl
theorem qih:tT 37 4 "wait":=cI (d:=uw) rfl
theorem qgj:mT e 4 (bL e v0 v1 v2 v3 v4) "sent":=mI rfl
theorem qii:tT 38 4 "sent":=cI (d:=ux) rfl
theorem qcx:mT e 4 (bL e v0 v1 v2 v3 v4) "picked_for":=mI rfl
theorem qdh:tT 39 4 "picked_for":=cI (d:=ub) rfl
theorem qds:mT e 4 (bL e v0 v1 v2 v3 v4) "answered":=mI rfl
theorem qel:tT 57 4 "answered":=cI (d:=ma) rfl
theorem qdr:mT e 4 (bL e v0 v1 v2 v3 v4) "lead_out":=mI rfl
theorem qek:tT 58 4 "lead_out":=cI (d:=tQ) rfl
theorem qcS:mT e 4 (bL e v0 v1 v2 v3 v4) "begin_out":=mI rfl
theorem qdR:tT 59 4 "begin_out":=cI (d:=tN) rfl
theorem qdV:mT e 4 (bL e v0 v1 v2 v3 v4) "lead_in":=mI rfl
theorem qfe:tT 60 4 "lead_in":=cI (d:=tX) rfl
theorem qca:mT e 4 (bL e v0 v1 v2 v3 v4) "lets_note_in":=mI rfl
theorem qcu:tT 61 4 "lets_note_in":=cI (d:=t8) rfl
theorem qeG:mT e 4 (bL e v0 v1 v2 v3 v4) "sifted":=mI rfl
theorem qfV:tT 67 4 "sifted":=cI (d:=t6) rfl
theorem qdW:mT e 4 (bL e v0 v1 v2 v3 v4) "come_in":=mI rfl
theorem qff:tT 70 4 "come_in":=cI (d:=tY) rfl
theorem qhl:mT e 4 (bL e v0 v1 v2 v3 v4) "out":=mI rfl
theorem qj1:tT 72 4 "out":=cI (d:=um) rfl
theorem qd3:gT "GREATEST_HOUSE" 99:=jw rfl
theorem qeX:gT "GREATEST_DOOR" 9999:=jw rfl
theorem qd2:gT "GREATEST_PLACE" 1000000:=jw rfl
theorem qd1:gT "GREATEST_TICKS" 1000000:=jw rfl
theorem qhJ:gT "MOST_SIGNS" 40:=jw rfl
theorem qhK:gT "FIRST_SIGN" 32:=jw rfl
theorem qiZ:gT "LAST_SIGN" 126:=jw rfl
theorem qft:gT "PERCENT_SIGN" 37:=jw rfl
theorem qgw:gT "WIDEST_STEP" 199:=jw rfl
theorem qeW:gT "GREATEST_MOST" 200:=jw rfl
theorem qeV:gT "GREATEST_TIME" 1000000:=jw rfl
theorem qsi:cT "KINDS" ["note","line"]:=qh rfl
theorem qhY:cT "NOTE_WORDS" ["say"]:=qh rfl
theorem qhZ:cT "LINE_WORDS" ["open","say","close","break"]:=qh rfl
theorem qkC:cT "LENDINGS" ["door","place","talk"]:=qh rfl
theorem qoZ:cT "SIEVES" ["all","place","talk"]:=qh rfl
theorem qsh:cT "PICKS" ["next","keep"]:=qh rfl
theorem qjc:cT "BREAKABLE" ["asked","called","up","near","far"]:=qh rfl
end
local macro_rules | `(tactic| walk_at "ev") => do
 let f:=fun(t:String)=>(t.splitOn "|").toArray.map fun s=>Lean.mkIdent s.toName
 let a<-(f "qdv|qdd|qdY|qdL|qkr|qkq|qrv|qke|qjV|qiI|qh8|qiH|qh7|qhs|qgN|qhr|qgM|qmw|qmv|qmu|qmt|qms|QX|qdQ|qhk|qj0|qgg|qif|quN|qdU|qfd|qgh|qig|qeF|qfU|qhq|qgL|qgn|qfR|qhp|qgK|qiG|qh6|qmr|qmq|qmp|qmo|quM|qho|qgJ|qhn|qgI|qiF|qh5|qdX|qdK|qdu|qdc|qeN|qeh|qeM|qeg|qkp|qko|qkn|qkm|qkl|qkk|qkj|qdT|qfc|qru|qcQ|qdO|qcv|qdf|qcw|qdg|qfn|qgX|qdp|qei|qdq|qej|qfl|qgV|qfm|qgW|qcR|qdP|qgf|qie|qeE|qfT|qcP|qdN|qiK|qia|qht|qgO|qdZ|qdM|qiL|qib|qiJ|qh9|qmB|qmA|qmz|qmy|qmx|qeH|qfW|qfo|qgY|quO|qgk|qij|qgi|qih|qgj|qii|qcx|qdh|qds|qel|qdr|qek|qcS|qdR|qdV|qfe|qca|qcu|qeG|qfV|qdW|qff|qhl|qj1|qd3|qeX|qd2|qd1|qhJ|qhK|qiZ|qft|qgw|qeW|qeV|qsi|qhY|qhZ|qkC|qoZ|qsh|qjc|qxw|qxu|qxv|qxG|qxF|qF6|qyx|g_C|qF5|qF4|qyy|uL|qrG|qrz|qrC|qnv|qqg|qkJ|qrX|qxQ|qxP|qyz|qys|qyK|qr6|qx2|qsa|qve|qEe|qEI|qrI|qvN|bq|Li|Vp|JC|Vn|qyN|qEl|qrD|qwG|qwF|yg|Vm|qFa|qrB|qE6|qFc|qFZ|Lj|quP|qFX|XM|qF0|qEC|Mq|qvG|qvH|qsr|qvF|qvE|qso|qsp|qsq|qvD|qvC|qE9|qFW|qrT|qrR|qrU|qrS|qrQ|qvt|B1|Mt|Ms|B0|Mr|OC|OB|OA|qD9|qs1|qEb|qrx|qEB|TQ|qEm|qrE|qFe|qup|JP|qyb|qyc|qx9|qya|qqq|quF|qyo|qyn|qym|reduceIte|qFY|qoA|t_v|t_i|t_s|t_b|t_n|qD8|qEj|qED|nJ|qEE|quU|T_v|qGN|qGO|qGL|qGP|qGJ|qGQ|qGM|qGK|qGG|T_b|qGR|qGH|qGI|mD|Vo|qEJ|qEi|quS|qEk|qEr|qEa|qEo|qEn|qEu|qEt|qEq|qEd|qEh|quR|qEg|qEs|qEF|qEH|qEG|qEz|qEw|qEA|qEx|qEv|Oz|fj|qE8|qFb|Oy|qE7|qFd|qrw|qE4|f7|Lk|qGn|qGo|qGq|qGr|qGp|qsg|qy0|qyY|qyV|qyS|d8").mapM fun s=>`(Lean.Parser.Tactic.simpLemma| ↓$s:ident)
 let b<-(f "List.getElem?_cons_zero|List.getElem?_cons_succ|true_and|Bool.not_true|Bool.not_false|jA|Bool.true_and|Bool.false_and|Bool.and_true|Bool.true_or|Bool.false_or|List.set_cons_zero|List.set_cons_succ|rD|bG|vR|bQ|oh|List.cons_append|List.nil_append|Option.join_some|Option.isSome_some|Option.isSome_none|bJ|eZ|qny|Nat.reduceAdd|iI|Int.reduceBEq|beq_self_eq_true|Int.reduceLE|Int.reduceLT|decide_true|decide_false|z_0|qDG|qGm|z_1|qDF|qGl|z_2|qDE|qGk|z_3|qDD|qGj|z_4|qDC|qGi|z_5|qDB|qGh|z_6|qDA|qGg|z_7|qDz|qGf|z_8|qDy|qGe|z_9|qDx|qGd|and_true").mapM fun s=>`(Lean.Parser.Tactic.simpLemma| $s:ident)
 let c:=a++b
 `(tactic|simp -implicitDefEqProofs only[$c,*])
local macro_rules | `(tactic| walk_at "evs") => do
 let some s<-Lean.Macro.expandMacro? (<-`(tactic|walk_at "ev"))|Lean.Macro.throwUnsupported
 match s with
 | `(tactic|simp -implicitDefEqProofs only[$ls,*])=>`(tactic|simp -implicitDefEqProofs only[*,put_ne,ne_eq,not_false_eq_true,$ls,*])
 |_=>Lean.Macro.throwUnsupported
local macro_rules | `(tactic| walk_at "evl") => do
 let some s<-Lean.Macro.expandMacro? (<-`(tactic|walk_at "ev"))|Lean.Macro.throwUnsupported
 let a<-#["lg","lp","lo","lop","Nat.reduceLT","put_ne","ne_eq","not_false_eq_true"].mapM fun s=>`(Lean.Parser.Tactic.simpLemma| $(Lean.mkIdent s.toName):ident)
 match s with
 | `(tactic|simp -implicitDefEqProofs only[$ls,*])=>
  let c:=a++ls.getElems
  `(tactic|simp -implicitDefEqProofs only[*,$c,*])
 |_=>Lean.Macro.throwUnsupported
local macro_rules | `(tactic| walk_at "z") => `(tactic| (rw [d8, fj]; dsimp only [List.set_cons_zero, List.set_cons_succ]; walk_at "ev"))
section
variable {e:Env}{n:Nat}{M:RM}{Q:ao}
theorem SJ{i:Int}:aw (P e) (n+1) 0 [.int i] M Q=Q (.bl true) M:=by
 rw[us (i:=0) (d:=xE) rfl];simp only[xE];walk_at "ev"
theorem ni{i j k:Int}:aw (P e) (n+2) 46 [.int i,.int j,.int k] M Q=Q (.bl (decide (j<=i)&&decide (i<=k))) M:=by
 rw[us (i:=46) (d:=wW) rfl];simp only[wW];walk_at "ev";simp only[↓SJ];walk_at "ev";simp only[L9]
theorem SN{i:Int}:aw (P e) (n+3) 1 [.int i] M Q=Q (.bl (decide (0<=i)&&decide (i<=99))) M:=by
 rw[us (i:=1) (d:=xI) rfl];simp only[xI];walk_at "ev";rw[ni]
theorem xu{i:Int}:aw (P e) (n+3) 2 [.int i] M Q=Q (.bl (decide (1<=i)&&decide (i<=9999))) M:=by
 rw[us (i:=2) (d:=xr) rfl];simp only[xr];walk_at "ev";rw[ni]
theorem SK{i:Int}:aw (P e) (n+3) 3 [.int i] M Q=Q (.bl (decide (0<=i)&&decide (i<=1000000))) M:=by
 rw[us (i:=3) (d:=xH) rfl];simp only[xH];walk_at "ev";rw[ni]
theorem SM{i:Int}:aw (P e) (n+3) 4 [.int i] M Q=Q (.bl (decide (1<=i)&&decide (i<=1000000))) M:=by
 rw[us (i:=4) (d:=wX) rfl];simp only[wX];walk_at "ev";rw[ni]
theorem yo{x:Str}:(aB k (.str x)=true)=True:=by cases k<;>exact eq_true rfl
def Kd(k:Str):Prop:=k= "note"∨k= "line"
def Kw(k w:Str):Prop:=k= "note"/\w= "say"∨k= "line"/\(w= "open"∨w= "break")
theorem Kw.kd(h:Kw k w):Kd k:=h.elim (λh=>.inl h.1) λh=>.inr h.1
theorem S9(h:Kd k):aw (P e) (n+1) 6 [.str k] M Q=Q (.bl true) M:=by
 rw[us (i:=6) (d:=xp) rfl];simp only[xp];walk_at "ev";rw[show inR (.str k) [.str "note",.str "line"]=true by rcases h with rfl|rfl<;>decide+kernel,yo,true_and]
theorem S6(h:Kw k w):aw (P e) (n+1) 22 [.str k,.str w] M Q=Q (.bl true) M:=by
 rw[us (i:=22) (d:=xC) rfl];simp only[xC];walk_at "ev";rcases h with⟨rfl,rfl⟩|⟨rfl,h⟩
 . rw[ai (by decide+kernel),show inR (.str "say") [.str "say"]=true by decide+kernel,yo,true_and]
 . rw[ae (by decide+kernel),show inR (.str w) [.str "open",.str "say",.str "close",.str "break"]=true by rcases h with rfl|rfl<;>decide+kernel,yo,true_and]
theorem iz:ej M:=trivial
theorem S8(h:Q (.bl true) M):aw (P e) (n+2) 8 [.str ""] M Q:=by
 rw[us (i:=8) (d:=xD) rfl];simp only[xD];walk_at "ev";refine⟨by decide+kernel,?_⟩
 rw[ae (by decide+kernel),show mx "" = [] by decide+kernel]
 refine⟨⋯,jJ (bd:=gv false 1) (λ_=>true) (λ_=>.bl true) iz _ _ (λy a=>by cases a) ?_⟩
 exact(Kl (bs:=[])).mpr h
theorem HR(l:Kw k w)(h:Q (.bl true) M):aw (P e) (n+3) 47 [.str k,.str w,.str ""] M Q:=by
 rw[us (i:=47) (d:=xg) rfl];simp only[xg];walk_at "ev";rw[S9 l.kd,mD,ai rfl,S6 l,mD,ai rfl];exact S8 h
theorem iY{a b c d:Int}(f:a<=b)(g:c<=d):(decide (a<=b)&&decide (c<=d))=true:=by simp[f,g]
theorem Uj{a b c d:Int}(l:Kw k w)(f:0<=a/\a<=99)(g:1<=b/\b<=9999)(j:0<=c/\c<=1000000)(m:1<=d/\d<=9999)(h:Q (.bl true) M):aw (P e) (n+4) 9 [.tup [.str k,.int a,.int b,.int c,.int d,.str w,.str ""]] M Q:=by
 rw[us (i:=9) (d:=uA) rfl];simp only[uA];walk_at "ev";simp only[↓SN,↓xu,↓SK,↓mD,iY f.1 f.2,iY g.1 g.2,iY j.1 j.2,iY m.1 m.2,↓reduceIte];exact HR l h
theorem Tx{x:Str}:aw (P e) (n+1) 12 [.tup (.str x::r)] M Q=Q (.str x) M:=by
 rw[us (i:=12) (d:=xB) rfl];simp only[xB];walk_at "ev";simp only[XY,jA,↓reduceIte]
def Dd(e:Env)(x:Str)(i:Nat):Prop:=∃a,cW (e.tb "DEEDS") (.inr x)=some (.ref a)/\(a,i)∈e.cv
structure Tb(e:Env):Prop where
 out:Dd e "out" 9
 come:Dd e "come" 10
 wait:Dd e "wait" 11
 t0:cW (e.tb "TIME_AT") (.inr "note")=some (.int 0)
 t1:cW (e.tb "TIME_AT") (.inr "asked")=some (.int 1)
 t2:cW (e.tb "TIME_AT") (.inr "called")=some (.int 1)
 t3:cW (e.tb "TIME_AT") (.inr "up")=some (.int 2)
 t4:cW (e.tb "TIME_AT") (.inr "near")=some (.int 2)
 t5:cW (e.tb "TIME_AT") (.inr "far")=some (.int 2)
theorem Bl{x:Str}{i:Nat}(d:Dd e x i)(h:aw (P e) (n+4) i [.tup ps] M Q):aw (P e) (n+5) 13 [.tup (.str x::ps)] M Q:=by
 rw[us (i:=13) (d:=xt) rfl];simp only[xt];walk_at "ev";rw[Tx];walk_at "ev";obtain⟨f,a,b⟩:=d;rw[a,uL,TQ,ae (by simp)]
 refine⟨_,aV.mpr ⟨_,b,rfl⟩,?_⟩;walk_at "ev";rw[Gx];exact h
theorem Tc{a b c:Int}(l:Kw k w)(f:1<=a/\a<=1000000)(g:1<=b/\b<=9999)(j:1<=c/\c<=9999)(h:Q (.bl true) M):aw (P e) (n+4) 10 [.tup [.str k,.int a,.int b,.int c,.str w,.str ""]] M Q:=by
 rw[us (i:=10) (d:=uI) rfl];simp only[uI];walk_at "ev";simp only[↓SM,↓xu,↓mD,iY f.1 f.2,iY g.1 g.2,iY j.1 j.2,↓reduceIte];exact HR l h
theorem S7(a:0<=k)(b:k<=1000000)(h:Q (.bl true) M):aw (P e) (n+4) 11 [.tup [.int k]] M Q:=by
 rw[us (i:=11) (d:=uH) rfl];simp only[uH];walk_at "ev";rw[us (i:=5) (d:=xG) rfl];simp only[xG];walk_at "ev";rw[ni];simp only[a,b,decide_true,Bool.and_true];exact h
def Ws(s:Str):Prop:=s= "note"∨s= "asked"∨s= "called"∨s= "up"∨s= "near"∨s= "far"
theorem XI(tb:Tb e){l h le j g f re:RV}{st:Str}(h0:1<=t0)(c:1<=t1)(b:1<=t2)(z:Ws st)(a:∀x:Int,1<=x->Q (.int x) M):aw (P e) (n+1) 25 [.tup [l,h,le,j,g,f,re,.tup [.int t0,.int t1,.int t2,.int t3]],.str st] M Q:=by
 rw[us (i:=25) (d:=xA) rfl];simp only[xA];walk_at "ev";rcases z with rfl|rfl|rfl|rfl|rfl|rfl
 . rw[tb.t0];walk_at "ev";exact a _ h0
 . rw[tb.t1];walk_at "ev";exact a _ c
 . rw[tb.t2];walk_at "ev";exact a _ c
 . rw[tb.t3];walk_at "ev";exact a _ b
 . rw[tb.t4];walk_at "ev";exact a _ b
 . rw[tb.t5];walk_at "ev";exact a _ b
def oS:Option Str->RV
 |some x=>.str x
 |none=>.au
def steps:List (TK×Str):=(S.tt.lookup ("LINE_STEPS":Str)).getD []
noncomputable def tm (st:Option Str)(sd w:Str):Option Str:=if w= "break" then(if inR (oS st) [.str "asked",.str "called",.str "up",.str "near",.str "far"]=true then some ("shut":Str)else none)else(steps.find? λp=>decide (p.1= [some (.inr sd),st.map Sum.inr,some (.inr w)])).map (·.2)
theorem WA{l:List (TK×Str)}:jM l k=oS ((l.find? λp=>decide (p.1=k)).map (·.2)):=by unfold jM;split<;>rename_i h<;>rw[h]<;>rfl
theorem Pt{b:G}{x:Str}{a:T}{l:List (TK×Str)}(h:b.S.tt.lookup x=some l):(tr b (.tg x a)).E σ M Q=(tr b a).E σ M (yd l Q):=by
 show(match b.S.tt.lookup x with|some l=>xW l (tr b a).E|none=>gB) σ M Q=_
 rw[h];rfl
theorem Rt{st:Option Str}:aw (P e) (n+1) 48 [oS st,.str sd,.str w] M Q=Q (oS (tm st sd w)) M:=by
 rw[us (i:=48) (d:=wZ) rfl];simp only[wZ];walk_at "ev";have o1:aB 15 (oS st)=true:=by cases st<;>rfl
 have a:gI [.str sd,oS st,.str w]=some [some (.inr sd),st.map Sum.inr,some (.inr w)]:=by cases st<;>rfl
 unfold tm
 by_cases h:w= "break"
 . rw[ai (by simpa using h),ai h,o1,eq_self_iff_true,true_and]
   split<;>rfl
 . rw[ae (by simpa using h),ae h]
   rw[Pt (l:=steps) (by rfl)]
   walk_at "ev";show(match gI [.str sd,oS st,.str w]with|some ks=>Q (jM steps ks) M|none=>False)=_
   rw[a];dsimp only;rw[WA]
noncomputable def nx (k:Str)(st:Option Str)(sd w:Str):Option Str:=if k= "note" then(if w=("say":Str)/\(st=none∨st=some ("note":Str))then some ("note":Str)else none)else tm st sd w
theorem HF{st:Option Str}:aw (P e) (n+2) 64 [.str k,oS st,.str sd,.str w] M Q=Q (oS (nx k st sd w)) M:=by
 rw[us (i:=64) (d:=xn) rfl];simp only[xn];walk_at "ev";unfold nx
 by_cases h:k= "note"
 . rw[ai (by simpa using h),ai h];rw[us (i:=26) (d:=xm) rfl];simp only[xm];walk_at "ev"
   by_cases a:w= "say"
   . subst a
     cases st with
     |none=>rw[show oS none= .au from rfl];walk_at "ev";rw[ai (Or.inl trivial)];rfl
     |some s=>
      rw[show oS (some s)= .str s from rfl];walk_at "ev"
      by_cases b:s= "note"
      . subst b;walk_at "ev";rw[ai (Or.inr trivial)];rfl
      . rw[ae (by simpa using b),ae (λz=>z.elim (λz=>by cases z) λz=>b (dH z))];rfl
   . rw[ae (by simpa using a),ae (λz=>a z.1)];rfl
 . rw[ae (by simpa using h),ae h]
   exact Rt
theorem qyE:aw (P e) (n+2) 64 [.str k,.au,.str sd,.str w] M Q=Q (oS (nx k none sd w)) M:=HF (st:=none)
theorem Mh{k st sd w:Str}:aw (P e) (n+2) 64 [.str k,.str st,.str sd,.str w] M Q=Q (oS (nx k (some st) sd w)) M:=HF (st:=some st)
theorem UL{a:Str}{l h r o m re s g f j pl k:RV}:aw (P e) (n+1) 24 [.tup [l,h,.str a,r,o,m,re,s],.tup [g,f,j,pl,k]] M Q=
 Q (if a= "door" then .tup [g,f,j,.au,.au]else if a= "place" then .tup [g,f,j,pl,.au]else .tup [g,f,j,pl,k]) M:=by
 rw[us (i:=24) (d:=xh) rfl];simp only[xh];unfold L8;walk_at "ev";unfold L7;walk_at "ev";unfold L6;walk_at "ev";simp only[eX]
 by_cases b:a= "door"
 . rw[ai b,ai b]
 . rw[ae b,ae b]
   unfold Mg;walk_at "ev";simp only[eX]
   by_cases c:a= "place"
   . rw[ai c,ai c]
   . rw[ae c,ae c]
     unfold Mf;walk_at "ev"
theorem Tz{l h:Int}(a:1<=l)(b:l<=h)(c:h<=9999)(f:h<=l+199):aw (P e) (n+4) 23 [.int l,.int h] M Q=Q (.bl true) M:=by
 rw[us (i:=23) (d:=xo) rfl];simp only[xo];walk_at "ev";rw[xu,iY a ∅,mD,ai rfl,xu,iY ∅ c,mD,ai rfl]
 rw[fg b,fg f];rfl
theorem R7{a b c d:Int}(k:1<=a/\a<=1000000)(l:1<=b/\b<=1000000)(m:1<=c/\c<=1000000)(f:0<=d/\d<=1000000)(h:Q (.bl true) M):aw (P e) (n+3) 14 [.tup [.int a,.int b,.int c,.int d]] M Q:=by
 rw[us (i:=14) (d:=xF) rfl];simp only[xF];walk_at "ev";rw[show fy [RV.int a,RV.int b,RV.int c,RV.int d] none (some 3)= [RV.int a,RV.int b,RV.int c]from rfl]
 refine⟨(by decide:3<sizeLine),jJ (bd:=gv false 1) (λ_=>true) (λ_=>.bl true) iz _ _ (λx hx=>⟨[x],rfl,λK h=>h,λ_ K h=>?_⟩) ?_⟩
 . have:∃i:Int,x= .int i/\1<=i/\i<=1000000:=by
    simp only[dh,sE,or_false]at hx;rcases hx with rfl|rfl|rfl
    . exact⟨a,rfl,k⟩
    . exact⟨b,rfl,l⟩
    . exact⟨c,rfl,m⟩
   obtain⟨i,rfl,g,j⟩:=this;walk_at "ev";rw[ni,iY g j];exact h
 . refine(Kl (bs:=[true,true,true])).mpr ?_
   show wL _ Q (.bl true) M;rw[mD,ai rfl,ni,iY f.1 f.2];exact h
theorem WC{x:Str}(h:x= "door"∨x= "place"∨x= "talk"):inR (.str x) [.str "door",.str "place",.str "talk"]=true:=by rcases h with rfl|rfl|rfl<;>decide+kernel
theorem T9{x:Str}(h:x= "all"∨x= "place"∨x= "talk"):inR (.str x) [.str "all",.str "place",.str "talk"]=true:=by rcases h with rfl|rfl|rfl<;>decide+kernel
theorem Vr{x:Str}(h:x= "next"∨x= "keep"):inR (.str x) [.str "next",.str "keep"]=true:=by rcases h with rfl|rfl<;>decide+kernel
structure Fm where
 low:Int
 high:Int
 lend:Str
 sieve:Str
 pick:Str
 most:Int
 renew:Bool
 t0:Int
 t1:Int
 t2:Int
 t3:Int
def Fm.times(f:Fm):RV:=.tup [.int f.t0,.int f.t1,.int f.t2,.int f.t3]
noncomputable def Fm.r (f:Fm):RV:=.tup [.int f.low,.int f.high,.str f.lend,.str f.sieve,.str f.pick,.int f.most,.bl f.renew,f.times]
structure Fm.Ok(f:Fm):Prop where
 lo:1<=f.low
 le:f.low<=f.high
 hi:f.high<=9999
 wide:f.high<=f.low+199
 lend:f.lend= "door"∨f.lend= "place"∨f.lend= "talk"
 sieve:f.sieve= "all"∨f.sieve= "place"∨f.sieve= "talk"
 pick:f.pick= "next"∨f.pick= "keep"
 most:1<=f.most/\f.most<=200
 t0:1<=f.t0/\f.t0<=1000000
 t1:1<=f.t1/\f.t1<=1000000
 t2:1<=f.t2/\f.t2<=1000000
 t3:0<=f.t3/\f.t3<=1000000
theorem Ta{f:Fm}(a:f.Ok)(h:Q (.bl true) M):aw (P e) (n+5) 15 [f.r] M Q:=by
 unfold Fm.r;rw[us (i:=15) (d:=xq) rfl];simp only[xq];unfold Ge;walk_at "ev";unfold Gb;walk_at "ev";unfold Ga;walk_at "ev";simp only[WC a.lend,T9 a.sieve,Vr a.pick,yo,↓reduceIte,Bool.not_true,jA,true_and];unfold F0;walk_at "ev";rw[ni,iY a.most.1 a.most.2];walk_at "ev";unfold FZ;walk_at "ev";rw[Tz a.lo a.le a.hi a.wide,mD,ai rfl];exact R7 a.t0 a.t1 a.t2 a.t3 h
end
section
variable {M:RM}
theorem BP{x a:Addr}(hx:M x=none)(h:M a=some o):a≠x:=λz=>by
 rw[z,hx]at h;cases h
theorem xN{x a:Addr}(h:put M a o x=none):M x=none/\x≠a:=by
 unfold put at h
 by_cases z:x=a
 . rw[ai z]at h;cases h
 . rw[ae z]at h;exact⟨h,z⟩
theorem uF{a b:Addr}(h:a≠b):put (put M a o) b o'=put (put M b o') a o:=by
 funext c;unfold put
 by_cases d:c=b
 . rw[ai d,ae (by rw[d];exactλz=>h z.symm),ai d]
 . rw[ae d,ae d]
end
section
def lay(ad:Nat->Addr):Nat->List RO->RM->RM
 |_,[],M=>M
 |k,o::r,M=>put (lay ad (k+1) r M) (ad k) o
def Ij(ad:Nat->Addr)(n:Nat):Prop:=∀i j,i<n->j<n->ad i=ad j->i=j
variable {ad:Nat->Addr}{M:RM}{os:List RO}{o:RO}{i k:Nat}{x:Addr}
theorem JI:∀{os k i},Ij ad (k+os.length)->i<os.length->lay ad k os M (ad (k+i))=os[i]?
 |o::r,k,0,_,_=>bJ
 |o::r,k,i+1,H,h=>by
  have h:i<r.length:=Nat.lt_of_succ_lt_succ h;have e1:k+(i+1)=k+1+i:=by omega
  have a:Ij ad (k+1+r.length):=by rw[bG]at H;rwa [show k+1+r.length=k+(r.length+1) by omega]
  rw[e1];refine(put_ne λz=>?_).trans ((JI a h).trans rfl)
  have:=a _ _ ∅ ∅ z
  omega
theorem JT:∀{os k i},Ij ad (k+os.length)->i<os.length->put (lay ad k os M) (ad (k+i)) o=lay ad k (os.set i o) M
 |_::r,k,0,_,_=>eZ
 |u::r,k,i+1,H,h=>by
  have h:i<r.length:=Nat.lt_of_succ_lt_succ h;have e1:k+(i+1)=k+1+i:=by omega
  have a:Ij ad (k+1+r.length):=by rw[bG]at H;rwa [show k+1+r.length=k+(r.length+1) by omega]
  rw[e1];show put (put (lay ad (k+1) r M) (ad k) u) (ad (k+1+i)) o=put (lay ad (k+1) (r.set i o) M) (ad k) u;rw[uF λz=>by have:=a _ _ ∅ ∅ z;omega,JT a h]
theorem Kr:∀{os k},(∀i,i<os.length->ad (k+i)≠x)->lay ad k os M x=M x
 | [],_,_=>rfl
 |o::r,k,h=>(put_ne (bZ (h 0 (Nat.succ_pos _)))).trans (Kr λi hi=>by
  have:=h (i+1) (Nat.succ_lt_succ hi)
  rwa [show k+1+i=k+(i+1) by omega])
abbrev laid(ad:Nat->Addr)(os:List RO)(M:RM):RM:=lay ad 0 os M
theorem lg(H:Ij ad os.length)(h:i<os.length):lay ad 0 os M (ad i)=os[i]?:=by
 have:=JI (M:=M) (k:=0) (i:=i) (by rwa [iI]) h
 rwa [iI]at this
theorem lp(H:Ij ad os.length)(h:i<os.length):put (lay ad 0 os M) (ad i) o=lay ad 0 (os.set i o) M:=by
 have:=JT (M:=M) (o:=o) (k:=0) (i:=i) (by rwa [iI]) h
 rwa [iI]at this
theorem Be:∀{os k},(∀j,j<k+os.length->ad j=ad' j)->lay ad k os M=lay ad' k os M
 | [],_,_=>rfl
 |o::r,k,h=>by
  show put (lay ad (k+1) r M) (ad k) o=put (lay ad' (k+1) r M) (ad' k) o;rw[Be (os:=r) (k:=k+1) λj a=>h j (by rw[bG];omega),h k (by rw[bG];omega)]
theorem nv:∀{os k},lay ad k (os++ [o]) M=lay ad k os (put M (ad (k+os.length)) o)
 | [],_=>rfl
 |u::r,k=>by
  show put (lay ad (k+1) (r++ [o]) M) (ad k) u=put (lay ad (k+1) r (put M (ad (k+(r.length+1))) o)) (ad k) u;rw[nv,show k+1+r.length=k+(r.length+1) by omega]
theorem AS:∀{os k},(∀i,i<os.length->ad (k+i)≠x)->put (lay ad k os M) x o=lay ad k os (put M x o)
 | [],_,_=>rfl
 |u::r,k,h=>by
  show put (put (lay ad (k+1) r M) (ad k) u) x o=put (lay ad (k+1) r (put M x o)) (ad k) u;rw[uF (a:=ad k) (h 0 (Nat.succ_pos _)),AS λi hi=>by
   have:=h (i+1) (Nat.succ_lt_succ hi)
   rwa [show k+1+i=k+(i+1) by omega]]
theorem AK:∀{os k},lay ad k os M x=none->M x=none
 | [],_,h=>h
 |_::_,_,h=>AK (xN h).1
theorem Ks(H:Ij ad os.length)(h:i<os.length):∃u,lay ad 0 os M (ad i)=some u:=⟨os[i],by rw[lg H h];simp[h]⟩
theorem Oi(H:Ij ad k)(g:os.length=k)(hx:lay ad 0 os M x=none):∃a,(∀j,j<k->ad j=a j)/\a k=x/\Ij a (k+1)/\∀o,put (lay ad 0 os M) x o=lay a 0 (os++ [o]) M:=by
 subst g;have c:∀j,j<os.length->ad j≠x:=λj b z=>by
  obtain⟨u,e⟩:=Ks (M:=M) H b;rw[z,hx]at e;cases e
 have d:∀j,j<os.length->ad j=(λj=>if j=os.length then x else ad j) j:=λj b=>by
  show _=if j=os.length then x else ad j
  rw[ae ∅]
 have f:(λj=>if j=os.length then x else ad j) os.length=x:=ai rfl
 refine⟨λj=>if j=os.length then x else ad j,d,f,λi j hi b z=>?_,λo=>?_⟩
 . dsimp only at z
   by_cases p:i=os.length<;>by_cases q:j=os.length
   . omega
   . rw[ai p,ae q]at z;exact ba z.symm (c j ∅)
   . rw[ae p,ai q]at z;exact ba z (c i ∅)
   . rw[ae p,ae q]at z;exact H i j ∅ ∅ z
 . rw[nv,iI,ai rfl,AS λj b=>by rw[iI];exact c j b]
   exact Be λj b=>d j ∅
end
section
variable {κ κ' β:Type}[DecidableEq κ][DecidableEq κ']{g:κ->κ'}{v:β->RV}
def enc(g:κ->κ')(v:β->RV)(l:List (κ×β)):List (κ'×RV):=l.map λx=>(g x.1,v x.2)
theorem pQ(c:∀a b,g a=g b->a=b):∀{l:List (κ×β)},lk (enc g v l) (g k)=(lk l k).map v
 | []=>rfl
 |(j,x)::r=>by
  show lk ((g j,v x)::enc g v r) (g k)=_;rw[fG,fG]
  by_cases h:j=k
  . rw[ai h,ai (by rw[h])];rfl
  . rw[ae h,ae (λz=>h (c _ _ z))];exact pQ c
theorem nz(hg:∀a b,g a=g b->a=b){l:List (κ×β)}:pt (enc g v l) (g k) (v y)=enc g v (pt l k y):=by
 have e1:((enc g v l).any λkv=>decide (kv.1=g k))=(l.any λkv=>decide (kv.1=k)):=by
  unfold enc;rw[List.any_map];congr 1;funext x;exact vY.mpr ⟨λz=>hg _ _ z,λz=>by show g x.1=g k;rw[z]⟩
 unfold pt;rw[e1];split
 . unfold enc
   rw[bT,bT];refine mS λx _=>?_
   show(if g x.1=g k then(g x.1,v y)else(g x.1,v x.2))=(g (if x.1=k then(x.1,y)else x).1,v (if x.1=k then(x.1,y)else x).2)
   by_cases h:x.1=k
   . rw[ai h,ai (by rw[h])]
   . rw[ae h,ae (λz=>h (hg _ _ z))]
 . unfold enc;rw[eW];rfl
theorem pP(c:∀a b,g a=g b->a=b){l:List (κ×β)}:dr (enc g v l) (g k)=enc g v (dr l k):=by
 unfold dr enc;rw[List.filter_map];congr 2;funext x;exact vY.mpr ⟨λz q=>z (by rw[<-q]),λz q=>z (c _ _ q)⟩
theorem J2{l:List (κ×β)}(h:lk l k=none):dr l k=l:=by
 unfold dr;refine zt.mpr λx hx=>?_
 unfold lk at h;rw[Option.map_eq_none_iff,List.find?_eq_none]at h;have:=h x hx;simpa using this
theorem iW{l:List (κ×β)}:(enc g v l).length=l.length:=by simp[enc]
theorem Xh{l:List (κ×β)}:(pt l k y).length<=l.length+1:=by
 unfold pt;split<;>simp
theorem mz{l:List (κ×β)}(h:lk l k=none):pt l k y=l++ [(k,y)]:=by
 unfold pt;rw[ae];intro z;obtain⟨x,hx,e⟩:=List.any_eq_true.mp z;unfold lk at h;rw[Option.map_eq_none_iff,List.find?_eq_none]at h;exact h x hx e
theorem iV(a b)(h:(Sum.inl a:Key)= .inl b):a=b:=Sum.inl.inj h
theorem mC(a b:TK)(h:id a=id b):a=b:=h
end
section
variable {e:Env}{n:Nat}{M:RM}{Q:ao}
structure aR where
 low:Int
 high:Int
 mark:Int
 taken:List (Int×Unit)
 qD:List (Int×Int)
def eT(l:List (Int×Unit)):bV:=enc Sum.inl (λ_=>.bl true) l
def eU(l:List (Int×Int)):bV:=enc Sum.inl RV.int l
structure yk(e:Env)(M:RM)(a ta un:Addr)(p:aR):Prop where
 o:M a=some (eD e (.int p.low) (.int p.high) (.int p.mark) (.ref ta) (.ref un))
 t:M ta=some (.dk (eT p.taken))
 u:M un=some (.dk (eU p.qD))
def aR.has(p:aR)(i:Int):Bool:=decide (p.low<=i)&&decide (i<=p.high)
def aR.free(p:aR)(i m:Int):Bool:=p.has i&& !(lk p.taken i).isSome&&(match lk p.qD i with|none=>true|some u=>decide (u<=m))
theorem L0{l:List (Int×Unit)}{i:Int}:(lk (eT l) (.inl i)).isSome=(lk l i).isSome:=by
 unfold eT;rw[pQ iV];simp
theorem LZ{l:List (Int×Int)}{i:Int}:lk (eU l) (.inl i)=(lk l i).map RV.int:=pQ iV
theorem Mi{a:Addr}{l h i:Int}{mk b un:RV}(o:M a=some (eD e (.int l) (.int h) mk b un)):aw (P e) (n+1) 27 [.ref a,.int i] M Q=Q (.bl (decide (l<=i)&&decide (i<=h))) M:=by
 rw[us (i:=27) (d:=uk) rfl];simp only[uk];walk_at "ev";rw[o];walk_at "ev";rw[o];walk_at "ev";exact L9
theorem IH{a c un:Addr}{p:aR}{i m:Int}(h:yk e M a c un p):aw (P e) (n+2) 50 [.ref a,.int i,.int m] M Q=Q (.bl (p.free i m)) M:=by
 obtain⟨b,f,g⟩:=h;rw[us (i:=50) (d:=tV) rfl];simp only[tV];walk_at "evs";rw[Mi b];walk_at "evs";rw[L0,LZ];unfold aR.free aR.has;cases(decide (p.low<=i)&&decide (i<=p.high))<;>cases(lk p.taken i).isSome<;>cases lk p.qD i<;>simp[wO,Vo,ee]<;>rfl
noncomputable def aR.line (p:aR):List Int:=(List.range (p.high+1-p.mark).toNat).map (λ(i:Nat)=>p.mark+(i:Int))++(List.range (p.mark-p.low).toNat).map λ(i:Nat)=>p.low+(i:Int)
structure aR.Ok(p:aR):Prop where
 lo:1<=p.low
 mlo:p.low<=p.mark
 mhi:p.mark<=p.high
 hi:p.high<=9999
 wide:p.high<=p.low+199
theorem Jy{a:Int}:xQ a k=((List.range k).map λ(i:Nat)=>a+(i:Int)).map RV.int:=by unfold xQ;rw[bT];rfl
theorem Vc(p:aR)(a:p.Ok):p.line.length<=200:=by
 obtain⟨o1,b,c,d,f⟩:=a;unfold aR.line;simp;omega
theorem RI{a g un:Addr}{p:aR}(c:p.Ok)(h:yk e M a g un p)(f:Q (.ls (p.line.map RV.int)) M):aw (P e) (n+1) 17 [.ref a] M Q:=by
 have b:=Vc p c;obtain⟨j,k,l⟩:=h;obtain⟨o1,m,o,r,s⟩:=c;rw[us (i:=17) (d:=ue) rfl];simp only[ue];walk_at "evs";rw[Jy,Jy,<-eW];refine⟨∅,∅,∅,∅,?_,f⟩
 unfold aR.line at b;simp only[bu,eQ]at b ⊢;exact bR b ⋯
def aR.pick(p:aR)(b:Bool)(a m:Int):Option Int:=if(b&&p.free a m)=true then some a else p.line.find? λi=>p.free i m
def qp:Option Int->RV
 |some i=>.int i
 |none=>.au
theorem Ui{a ta un:Addr}{p:aR}{pick:Str}(ok:p.Ok)(h:yk e M a ta un p)(hq:Q (qp (p.pick (pick== "keep") d m)) M):aw (P e) (n+3) 65 [.ref a,.str pick,.int d,.int m] M Q:=by
 obtain⟨ho,ht,hu⟩:=id h;have rest:∀(xs:List Int) (z:Option RV),Q (qp (xs.find? λi=>p.free i m)) M->i6 (i7 4) (tr ((P e).Gn (n+2)) (.se (.bp (.me 50 (.v 0) (.ec (.v 4) (.ec (.v 3) .e0))) (.se (.re (.v 4)) .en) .en) .en)).S
  { nx:=(tr ((P e).Gn (n+2)) (.se (.re .n) .en)).S (rd Q),rt:=Q,bk:=(rd Q).bk,ct:=(rd Q).ct } ej id (xs.map RV.int) [some (.ref a),some (.str pick),some (.int d),some (.int m),z] M:=by
  intro xs
  induction xs with
  |nil=>intro z hq;refine⟨iz,?_⟩;show Q .au M;exact hq
  |cons x xs ih=>
   intro z hq;refine⟨iz,?_⟩;unfold i7;walk_at "evs";rw[IH h,nJ];rw[jy]at hq;cases e1:p.free x m with
   |true=>rw[e1]at hq;rw[ai rfl];first|exact hq|exact And.intro iz hq
   |false=>rw[e1]at hq;rw[ae (by simp)];exact ih _ hq
 have tail:Q (qp (p.line.find? λi=>p.free i m)) M->aw (P e) (n+2) 17 [.ref a] M (kS λxs ok un M1=>i6 (i7 4) (tr ((P e).Gn (n+2)) (.se (.bp (.me 50 (.v 0) (.ec (.v 4) (.ec (.v 3) .e0))) (.se (.re (.v 4)) .en) .en) .en)).S
  { nx:=(tr ((P e).Gn (n+2)) (.se (.re .n) .en)).S (rd Q),rt:=Q,bk:=(rd Q).bk,ct:=(rd Q).ct } ok un xs [some (.ref a),some (.str pick),some (.int d),some (.int m),none] M1):=λhq=>RI ok h (rest _ _ hq)
 rw[us (i:=65) (d:=tZ) rfl];simp only[tZ];walk_at "evs";unfold aR.pick at hq;cases e1:(pick== "keep")with
 |false=>
  rw[e1]at hq;simp only[Bool.false_and,jA,↓reduceIte]at hq ⊢;exact tail hq
 |true=>
  rw[e1]at hq;simp only[Bool.true_and,↓reduceIte]at hq ⊢;rw[IH h,nJ];cases e2:p.free d m with
  |true=>rw[e2]at hq;rw[ai rfl];exact hq
  |false=>
   rw[e2]at hq;simp only[jA,↓reduceIte]at hq ⊢;rw[ho,QX];exact tail hq
theorem uE{a:Addr}(h:M a=some o):put M a o=M:=by
 funext b;unfold put;by_cases z:b=a
 . rw[ai z,z,h]
 . rw[ae z]
end
section
theorem BR[DecidableEq κ]{l:List (κ×β)}:lk (pt l k y) k=some y:=by
 induction l with
 |nil=>show lk [(k,y)] k=_;rw[fG,ai rfl]
 |cons x r ih=>
  obtain⟨j,z⟩:=x;unfold pt at ih ⊢;rw[jW]
  by_cases h:j=k
  . rw[ai (by simp[h])]
    show lk ((if(j,z).1=k then((j,z).1,y)else(j,z))::_) k=_
    rw[ai h,fG,ai h]
  . rw[show(decide ((j,z).1=k)||r.any λkv=>decide (kv.1=k))=r.any λkv=>decide (kv.1=k) by simp[h]]
    split
    . rename_i h2
      rw[ai h2]at ih;show lk ((if(j,z).1=k then((j,z).1,y)else(j,z))::_) k=_
      rw[ae h,fG,ae h];exact ih
    . rename_i h2
      rw[ae h2]at ih;show lk ((j,z)::(r++ [(k,y)])) k=_;rw[fG,ae h];exact ih
theorem Bh[DecidableEq κ]:∀{l:List (κ×β)},(lk l k).isSome=decide (k∈l.map (·.1))
 | []=>by simp[lk]
 |(j,y)::l=>by
  rw[fG]
  by_cases h:j=k
  . rw[ai h];simp[h]
  . rw[ae h,Bh (l:=l)]
    simp[bZ h]
theorem vd[DecidableEq κ]:∀{l:List (κ×β)} {x:κ×β},(l.map (·.1)).Nodup->x∈l->lk l x.1=some x.2
 |(j,y)::l,x,nd,hx=>by
  rw[fG];rw[bQ,i8]at nd;rcases dh.mp hx with rfl|hx
  . rw[ai rfl]
  . have a:j∉l.map (·.1):=nd.1
    rw[ae (λ(z:j=x.1)=>a (by rw[z];exact List.mem_map_of_mem (f:=(·.1)) hx)),vd nd.2 hx]
theorem fY{g:α->β}:∀{l:List α} {a b:α},(l.map g).Nodup->a∈l->b∈l->g a=g b->a=b
 |z::l,a,b,nd,c,d,h=>by
  rw[bQ,i8]at nd;rcases dh.mp c with e|c<;>rcases dh.mp d with f|d
  . rw[e,f]
  . exact ba (aV.mpr ⟨b,d,by rw[<-h,e]⟩) nd.1
  . exact ba (aV.mpr ⟨a,c,by rw[h,f]⟩) nd.1
  . exact fY nd.2 c d h
theorem bz[DecidableEq κ]{l:List (κ×β)}:lk l k=none↔k∉l.map (·.1):=by
 have:=Bh (l:=l) (k:=k);cases e:lk l k with
 |none=>rw[e]at this;simpa using this.symm
 |some y=>rw[e]at this;simpa using this.symm
theorem gn[DecidableEq κ]:∀{l:List (κ×β)},lk l k=some y->(k,y)∈l
 |(j,z)::l,h=>by
  rw[fG]at h
  by_cases q:j=k
  . rw[ai q]at h;cases h;rw[q];exact .head _
  . rw[ae q]at h;exact .tail _ (gn h)
theorem Bi[DecidableEq κ]:∀{l:List (κ×β)} {r:List (κ×β)},lk (l++r) k=match lk l k with|some y=>some y|none=>lk r k
 | [],r=>rfl
 |(j,y)::l,r=>by
  show lk ((j,y)::(l++r)) k=_;rw[fG,fG]
  by_cases h:j=k
  . rw[ai h,ai h]
  . rw[ae h,ae h];exact Bi
theorem qZ{l:List α}{a:α}(h:l.Nodup)(b:a∉l):(l++ [a]).Nodup:=by
 rw[List.nodup_append];refine⟨h,by simp,λx hx y c=>?_⟩
 cases ib.mp c;exactλz=>b (z ▸ hx)
theorem yj{κ β b:Type}[DecidableEq κ]{a:Type}[DecidableEq a]{g:β->a}{h:β->b}{l:List β}{k:a}:dr (l.map λx=>(g x,h x)) k=(l.filter λx=>decide (g x≠k)).map λx=>(g x,h x):=by
 unfold dr;rw[List.filter_map];rfl
theorem yh[DecidableEq κ]{l:List (κ×β)}(h:k∈l.map (·.1)):(lk l k).isSome=true:=by
 cases q:lk l k with
 |none=>exact ba h (bz.mp q)
 |some _=>rfl
theorem uh{g:α->β}{l:List α}{p:α->Bool}(h:(l.map g).Nodup):((l.filter p).map g).Nodup:=h.sublist (List.filter_sublist.map _)
theorem qyl[DecidableEq κ]{l:List (κ×β)}(h:j≠k):lk (dr l k) j=lk l j:=by
 unfold dr
 induction l with
 |nil=>rfl
 |cons p l ih=>
  rw[iK];split
  . rw[fG,fG,ih]
  . rename_i z
    have:p.1=k:=by simpa using z
    rw[fG,ae (λq=>h (q.symm.trans this)),ih]
theorem HS{g:α->β}:∀{c:List β} {l:List α},c.Perm (l.map g)->∃l2:List α,l2.Perm l/\l2.map g=c
 | [],l,h=>by
  have:l= []:=by simpa using h.nil_eq
  exact⟨[],by rw[this],rfl⟩
 |b::c,l,h=>by
  obtain⟨a,e,rfl⟩:=aV.mp (h.mem_iff.mp (.head _));obtain⟨s,t,rfl⟩:=List.append_of_mem e;have d:c.Perm ((s++t).map g):=by
   refine List.Perm.cons_inv (a:=g a) (h.trans ?_);rw[eW,bQ,eW];exact List.perm_middle
  obtain⟨l2,f,rfl⟩:=HS d;exact⟨a::l2,(f.cons a).trans List.perm_middle.symm,rfl⟩
theorem Vb[DecidableEq κ](h:j≠k):∀{l:List (κ×β)},lk (pt l k y) j=lk l j:=by
 intro l;unfold pt;split
 . rename_i a
   clear a
   induction l with
   |nil=>rfl
   |cons p l ih=>
    rw[bQ,fG]
    by_cases z:p.1=k
    . rw[ai z]
      show(if p.1=j then _ else _)=_
      rw[ae (λq=>h (q.symm.trans z)),fG,ae (λq=>h (q.symm.trans z))]
      exact ih
    . rw[ae z,fG]
      split
      . rfl
      . exact ih
 . rw[Bi]
   cases lk l j with
   |some y=>rfl
   |none=>show lk [(k,y)] j=none;rw[fG,ae (bZ h)];rfl
end
section
structure bH where
 kind:Str
 house:Int
 door:Int
 place:Int
 far:Int
noncomputable def bH.k (i:bH):TK:=[some (.inr i.kind),some (.inl i.house),some (.inl i.door),some (.inl i.place),some (.inl i.far)]
def bH.r(i:bH):RV:=.tup [.str i.kind,.int i.house,.int i.door,.int i.place,.int i.far]
def oK(k:Str)(p f:Int):TK:=[some (.inr k),some (.inl p),some (.inl f)]
abbrev bE(i:bH):TK:=oK i.kind i.place i.far
noncomputable def bg (f:Fm)(i:bH):TK:=if f.lend= "door" then [some (.inr i.kind),some (.inl i.house),some (.inl i.door),none,none]else if f.lend= "place" then [some (.inr i.kind),some (.inl i.house),some (.inl i.door),some (.inl i.place),none]else i.k
theorem JN:∀k,gI (k.map oR)=some k
 | []=>rfl
 |x::r=>by
  have e1:nQ (oR x)=some x:=by cases x with|none=>rfl|some k=>cases k<;>rfl
  show(match nQ (oR x),gI (r.map oR)with|some k,some ks=>some (k::ks)|_,_=>none)=_
  rw[e1,JN r]
theorem As(k):fe (cE k)=some k:=JN k
variable {e:Env}{n:Nat}{M:RM}{Q:ao}{ad:Nat->Addr}{f:Fm}{i j:bH}{now mk ov u m:Int}{st sr:RV}{ds:LR}{os:List RO}{o:RO}{x:Addr}
theorem HG:aw (P e) (n+1) 24 [f.r,i.r] M Q=Q (cE (bg f i)) M:=by
 unfold Fm.r bH.r bg;rw[UL]
 by_cases a:f.lend= "door"
 . rw[ai a,ai a];rfl
 . rw[ae a,ae a]
   by_cases b:f.lend= "place"
   . rw[ai b,ai b];rfl
   . rw[ae b,ae b];rfl
def Of(ad:Nat->Addr)(n:Nat)(x:Addr):Prop:=∀j,j<n->ad j≠x
theorem lo(h:Of ad os.length x):lay ad 0 os M x=M x:=Kr λi hi=>by rw[iI];exact h i hi
theorem lop(h:Of ad os.length x):put (lay ad 0 os M) x o=lay ad 0 os (put M x o):=AS λi hi=>by rw[iI];exact h i hi
theorem of_none(H:Ij ad k)(c:os.length=k)(hx:lay ad 0 os M x=none):Of ad k x/\M x=none:=by
 subst c;refine⟨λj b z=>?_,AK hx⟩
 obtain⟨u,a⟩:=Ks (M:=M) H b;rw[z,hx]at a;cases a
abbrev cG(e:Env)(ad:Nat->Addr)(f:Fm):RO:=bL e f.r (.ref (ad 1)) (.ref (ad 10)) (.ref (ad 9)) .au
abbrev cA(e:Env)(ad:Nat->Addr)(f:Fm)(now:Int):RO:=bP e f.r (.ref (ad 2)) (.int now) (.ref (ad 5)) (.ref (ad 6)) (.ref (ad 7)) (.ref (ad 8))
abbrev cP(e:Env)(ad:Nat->Addr)(f:Fm)(mk:Int):RO:=eD e (.int f.low) (.int f.high) (.int mk) (.ref (ad 3)) (.ref (ad 4))
abbrev cR(e:Env)(ad:Nat->Addr):RO:=nq e (.int 0) (.ref (ad 11))
def eA(l:List (TK×Addr)):List (TK×RV):=enc id RV.ref l
def eB(l:List (Int×Addr)):bV:=enc Sum.inl RV.ref l
def eH(l:List (Int×TK)):bV:=enc Sum.inl cE l
def eN(l:List (TK×Int)):List (TK×RV):=enc id RV.int l
theorem yD{l:List (TK×Addr)}:lk (eA l) k=(lk l k).map RV.ref:=pQ (g:=id) mC
theorem mG{l:List (Int×Addr)}{i:Int}:lk (eB l) (.inl i)=(lk l i).map RV.ref:=pQ iV
theorem L5{l:List (TK×Int)}:lk (eN l) k=(lk l k).map RV.int:=pQ (g:=id) mC
theorem LQ{l:List (Int×TK)}{i:Int}:lk (eH l) (.inl i)=(lk l i).map cE:=pQ iV
def vF:Option Addr->RV
 |some a=>.ref a
 |none=>.au
theorem Ko{a:Addr}:vF (some a)= .ref a:=rfl
theorem Kp:vF none= .au:=rfl
theorem Le{a:Int}:qp (some a)= .int a:=rfl
theorem Lf:qp none= .au:=rfl
structure Cn where
 now:Int
 mr:Int
 T:List (Int×Unit)
 U:List (Int×Int)
 B:List (TK×Addr)
 N:List (Int×Addr)
 H:List (Int×TK)
 K:List (TK×Int)
 ds:LR
noncomputable abbrev LG (e:Env) (ad:Nat->Addr) (f:Fm) (c:Cn) (M:RM):RM:=laid ad [cG e ad f,cA e ad f c.now,cP e ad f c.mr,.dk (eT c.T),.dk (eU c.U),.dt (eA c.B),.dk (eB c.N),.dk (eH c.H),.dt (eN c.K),.lst c.ds,cR e ad,.dk []] M
variable {c:Cn}
theorem P9:fe i.r=some i.k:=rfl
theorem C3:bM i.r (.int 0) M Q=Q (.str i.kind) M:=bq.trans (by rw[B1];rfl)
theorem NZ:bM i.r (.int 1) M Q=Q (.int i.house) M:=bq.trans (by rw[Mt];rfl)
theorem N0:bM i.r (.int 2) M Q=Q (.int i.door) M:=bq.trans (by rw[Ms];rfl)
theorem CY:bM f.r (.int 0) M Q=Q (.int f.low) M:=bq.trans (by rw[B1];rfl)
theorem CZ:bM f.r (.int 1) M Q=Q (.int f.high) M:=bq.trans (by rw[Mt];rfl)
theorem NT:bM f.r (.int 4) M Q=Q (.str f.pick) M:=bq.trans (by rw[Mr];rfl)
theorem NU:bM f.r (.int 5) M Q=Q (.int f.most) M:=bq.trans (by rw[OC];rfl)
theorem NV:bM f.r (.int 6) M Q=Q (.bl f.renew) M:=bq.trans (by rw[OB];rfl)
theorem NW:bM f.r (.int 7) M Q=Q f.times M:=bq.trans (by rw[OA];rfl)
theorem PF:bM f.times (.int 3) M Q=Q (.int f.t3) M:=bq.trans (by rw[B0];rfl)
theorem SH(H:Ij ad 12):aw (P e) (n+1) 30 [.ref (ad 1),i.r] (LG e ad f c M) Q=Q (vF (lk c.B i.k)) (LG e ad f c M):=by
 rw[us (i:=30) (d:=uc) rfl];simp only[uc];walk_at "evl";rw[BK P9,yD];cases lk c.B i.k<;>rfl
theorem RG{k p q:RV}(H:Ij ad 12)(h:lk c.N m=none):aw (P e) (n+1) 69 [.ref (ad 1),k,.int m,p,q] (LG e ad f c M) Q=Q .au (LG e ad f c M):=by
 have a:lk (eB c.N) (.inl m)=none:=by rw[mG,h];rfl
 rw[us (i:=69) (d:=pF) rfl];simp only[pF];walk_at "evl"
theorem RF{p q:Int}{b:Addr}(H:Ij ad 12)(h:lk c.N m=some b)(ob:Of ad 12 b)(g:M b=some (.dt (eA D))):aw (P e) (n+1) 69 [.ref (ad 1),.str k,.int m,.int p,.int q] (LG e ad f c M) Q=Q (vF (lk D (oK k p q))) (LG e ad f c M):=by
 have a:lk (eB c.N) (.inl m)=some (.ref b):=by rw[mG,h];rfl
 rw[us (i:=69) (d:=pF) rfl];simp only[pF];walk_at "evl";rw[BK (show _=some (oK k p q)from rfl),yD];cases lk D (oK k p q)<;>rfl
theorem RH(H:Ij ad 12):aw (P e) (n+2) 31 [.ref (ad 1),i.r] (LG e ad f c M) Q=Q (qp (lk c.K (bg f i))) (LG e ad f c M):=by
 rw[us (i:=31) (d:=t9) rfl];simp only[t9];walk_at "evl";rw[HG];walk_at "evl";rw[BK (As _),L5];cases lk c.K (bg f i)<;>rfl
end
section
variable {e:Env}{n:Nat}{M:RM}{Q:ao}{ad:Nat->Addr}{f:Fm}{i j:bH}{c:Cn}{now mk ov u m mo:Int}{ds:LR}{st s1 wd:Str}{b x y:Addr}{D:List (TK×Addr)}
def C6(h:Int):RV->Bool
 | .tup [_,.tup (_::.int j::_)]=>j==h
 |_=>false
def C5:RV->RV
 | .tup [k,_]=>k
 |_=>.au
theorem Xb(s:Ij ad 12)(w:∀x∈c.H,∃k j r,x.2=k::some (.inl j)::r)(z:c.H.length<1000)(A:∀l:LR,l.length<=c.H.length->Q (.ls l) (LG e ad f c M)):
 aw (P e) (n+1) 33 [.ref (ad 1),.int h] (LG e ad f c M) Q:=by
 have o:LG e ad f c M (ad 7)=some (.dk (eH c.H)):=lg s (Nat.le_of_ble_eq_true rfl);rw[us (i:=33) (d:=tK) rfl];simp only[tK];walk_at "evl";unfold qj;simp only[o];refine⟨by unfold gF eH;rw[bu,iW];exact fM z ⋯,jJ (C6 h) C5 bJ _ _ (λx hx=>?_) ?_⟩
 . obtain⟨E,g,rfl⟩:=aV.mp hx
   obtain⟨y,C,rfl⟩:=aV.mp g;obtain⟨k,j,r,e1⟩:=w y C;have v:cE y.2= .tup (oR k::.int j::r.map oR):=by rw[e1];rfl
   show ∃t,gv true 2 (.tup [.int y.1,cE y.2])=some t/\_;rw[v];refine⟨_,rfl,λK a=>?_,λ_ K a=>?_⟩
   . walk_at "ev";exact a
   . walk_at "ev";exact a
 . show Q (.ls (([]++((gF (eH c.H)).filter (C6 h)).map C5))) (put (put _ (ad 7) (.fk (eH c.H))) (ad 7) (.dk (eH c.H)))
   rw[eZ,uE o,List.nil_append];refine A _ ?_;rw[bu];refine bR (jz _ _) ?_;unfold gF eH;rw[bu,iW];exact aK _
def pS(f:Fm)(c:Cn):aR:=⟨f.low,f.high,c.mr,c.T,c.U⟩
theorem ZL(H:Ij ad 12):yk e (LG e ad f c M) (ad 2) (ad 3) (ad 4) (pS f c):=⟨lg H (Nat.le_of_ble_eq_true rfl),lg H (Nat.le_of_ble_eq_true rfl),lg H (Nat.le_of_ble_eq_true rfl)⟩
theorem Rx(H:Ij ad 12)(g:(pS f c).Ok)(a:Q (qp ((pS f c).pick (f.pick== "keep") m c.now)) (LG e ad f c M)):aw (P e) (n+4) 39 [.ref (ad 0),.int m] (LG e ad f c M) Q:=by
 rw[us (i:=39) (d:=ub) rfl];simp only[ub];walk_at "evl";rw[NT];exact Ui g (ZL H) a
def nm(f:Fm)(m:Int):Int:=if m=f.high then f.low else m+1
def Cn.fE(c:Cn)(f:Fm)(i:bH)(m:Int):Cn:={ c with mr:=nm f m,T:=pt c.T m (),U:=dr c.U m,H:=pt c.H m (bg f i),K:=pt c.K (bg f i) m }
theorem XJ(H:Ij ad 12)(l1:c.T.length<1000)(l2:c.H.length<1000)(l3:c.K.length<1000)(h:Q .au (LG e ad f (c.fE f i m) M)):
 aw (P e) (n+2) 53 [.ref (ad 1),.int m,i.r] (LG e ad f c M) Q:=by
 have e1:dr (eU c.U) (Sum.inl m)=eU (dr c.U m):=pP iV;have w:pt (eT c.T) (Sum.inl m) (RV.bl true)=eT (pt c.T m ()):=nz (v:=λ_:Unit=>RV.bl true) iV (y:=())
 have a:pt (eH c.H) (Sum.inl m) (cE (bg f i))=eH (pt c.H m (bg f i)):=nz iV;have o:pt (eN c.K) (bg f i) (RV.int m)=eN (pt c.K (bg f i) m):=nz (g:=id) mC;have A:(eT c.T).length<sizeLine:=by unfold eT;rw[iW];exact fM l1 ⋯
 have C:(eH c.H).length<sizeLine:=by unfold eH;rw[iW];exact fM l2 ⋯
 have t:(eN c.K).length<sizeLine:=by unfold eN;rw[iW];exact fM l3 ⋯
 rw[us (i:=53) (d:=tH) rfl];simp only[tH];unfold Gh;walk_at "evl";rw[HG];unfold Gg;walk_at "evl";rw[us (i:=28) (d:=uq) rfl];simp only[uq];walk_at "evl";rw[LZ];unfold Cn.fE nm at h;have fin:∀l,l=dr c.U m->∀k,k=(if m=f.high then f.low else m+1)->(tr ((P e).Gn (n+1)) Cj).S (rd Q) [some (.ref (ad 1)),some (.int m),some i.r,some (cE (bg f i))] (LG e ad f { c with mr:=k,T:=pt c.T m (),U:=l } M):=λU' r k s=>by
  subst r;subst s;unfold Cj;walk_at "evl";unfold Gf;walk_at "evl";rw[va (As _),o];refine⟨t,?_⟩;rw[Oz,lp H (Nat.le_of_ble_eq_true rfl)];exact h
 clear h a o;cases a:lk c.U m with
 |none=>
  rw[ae (by simp)]
  by_cases z:m=f.high
  . have q:=fin _ (J2 a).symm _ (ai z).symm
    rw[ai (by simpa using z)];clear z fin;walk_at "evl"
  . have q:=fin _ (J2 a).symm _ (ae z).symm
    rw[ae (by simpa using z)];clear z fin;walk_at "evl"
 |some v=>
  rw[ai (by simp)]
  refine⟨rfl,?_⟩
  by_cases z:m=f.high
  . have q:=fin _ rfl _ (ai z).symm
    rw[ai (by simpa using z)];clear z fin;walk_at "evl"
  . have q:=fin _ rfl _ (ae z).symm
    rw[ae (by simpa using z)];clear z fin;walk_at "evl"
theorem BC(tb:Tb e)(a:f.Ok)(z:Ws st)(d:∀v:Int,1<=v->Q (.int v) M):aw (P e) (n+1) 25 [f.r,.str st] M Q:=by
 unfold Fm.r Fm.times;exact XI tb a.t0.1 a.t1.1 a.t2.1 z d
noncomputable def Cn.b0 (c:Cn)(i:bH)(m:Int)(x y:Addr):Cn:={ c with B:=pt c.B i.k x,N:=pt c.N m y }
def Cn.b1(c:Cn)(i:bH)(x:Addr):Cn:={ c with B:=pt c.B i.k x }
abbrev iG(e:Env)(i:bH)(m:Int)(st:Str)(ov:Int):RO:=gk e i.r (.int m) (.str st) (.int ov)
theorem Ul(tb:Tb e)(l:f.Ok)(z:Ws st)(k:Ij ad 12)(l1:c.B.length<1000)(l2:c.N.length<1000)(o:lk c.N m=none)
 (a:∀x y ov,c.now<ov->M x=none->Of ad 12 x->M y=none->Of ad 12 y->x≠y->Q .au (LG e ad f (c.b0 i m x y) (put (put M x (iG e i m st ov)) y (.dt (eA [(bE i,x)]))))):
 aw (P e) (n+3) 66 [.ref (ad 1),i.r,.int m,.str st] (LG e ad f c M) Q:=by
 have C:(eA c.B).length<sizeLine:=by unfold eA;rw[iW];exact fM l1 ⋯
 have J:(eB c.N).length<sizeLine:=by unfold eB;rw[iW];exact fM l2 ⋯
 have F:lk (eB c.N) (.inl m)=none:=by rw[mG,o];rfl
 rw[us (i:=66) (d:=pG) rfl];simp only[pG];rw[show i.r= .tup [.str i.kind,.int i.house,.int i.door,.int i.place,.int i.far]from rfl];unfold CA;walk_at "evl"
 unfold Cz;walk_at "evl";refine BC tb l z λv I=>?_
 rw[f7];intro x hx;obtain⟨o1,s⟩:=of_none k rfl hx;rw[us (i:=68) (d:=pE) rfl];simp only[pE];walk_at "evl";unfold Cy;walk_at "evl";have e1:pt (eA c.B) i.k (.ref x)=eA (pt c.B i.k x):=nz (g:=id) mC;rw[va (show _=some i.k from rfl),e1]
 refine⟨C,?_⟩;unfold Cw;walk_at "evl";intro y r;obtain⟨A,t⟩:=of_none k rfl r;obtain⟨w,h⟩:=xN t;have h:x≠y:=λz=>h z.symm
 have E:pt (eB c.N) (.inl m) (.ref y)=eB (pt c.N m y):=nz iV;have a:=a x y (c.now+v) ∅ s o1 w A h
 have H:lk (eB (pt c.N m y)) (.inl m)=some (.ref y):=by rw[mG,BR];rfl
 walk_at "evl";unfold Cv;walk_at "evl";rw[va (show _=some (bE i)from rfl)]
 refine⟨⋯,?_⟩
 walk_at "evl";exact a
theorem Uk(tb:Tb e)(l:f.Ok)(z:Ws st)(k:Ij ad 12)(l1:c.B.length<1000)(l2:D.length<1000)(r:lk c.N m=some b)(ob:Of ad 12 b)(s:M b=some (.dt (eA D)))
 (a:∀x ov,c.now<ov->M x=none->Of ad 12 x->x≠b->Q .au (LG e ad f (c.b1 i x) (put (put M x (iG e i m st ov)) b (.dt (eA (pt D (bE i) x)))))):
 aw (P e) (n+3) 66 [.ref (ad 1),i.r,.int m,.str st] (LG e ad f c M) Q:=by
 have w:(eA c.B).length<sizeLine:=by unfold eA;rw[iW];exact fM l1 ⋯
 have A:(eA D).length<sizeLine:=by unfold eA;rw[iW];exact fM l2 ⋯
 have C:lk (eB c.N) (.inl m)=some (.ref b):=by rw[mG,r];rfl
 rw[us (i:=66) (d:=pG) rfl];simp only[pG];rw[show i.r= .tup [.str i.kind,.int i.house,.int i.door,.int i.place,.int i.far]from rfl];unfold CA;walk_at "evl"
 unfold Cz;walk_at "evl";refine BC tb l z λv E=>?_
 rw[f7];intro x hx;obtain⟨o1,h⟩:=of_none k rfl hx;have t:b≠x:=BP h s;rw[us (i:=68) (d:=pE) rfl];simp only[pE];walk_at "evl";unfold Cy;walk_at "evl";have e1:pt (eA c.B) i.k (.ref x)=eA (pt c.B i.k x):=nz (g:=id) mC;rw[va (show _=some i.k from rfl),e1]
 refine⟨w,?_⟩;unfold Cw;walk_at "evl";have o:pt (eA D) (bE i) (.ref x)=eA (pt D (bE i) x):=nz (g:=id) mC;have a:=a x (c.now+v) ∅ h o1 (bZ t)
 unfold Cv;walk_at "evl";rw[va (show _=some (bE i)from rfl),o]
 refine⟨A,?_⟩;walk_at "evl";exact a
theorem KZ(tb:Tb e)(g:f.Ok)(z:Ws s1)(h:Ij ad 12)(l:Of ad 12 x)(hx:M x=some (iG e i m st ov))(a:∀ov,c.now<ov->Q .au (LG e ad f c (put M x (iG e i m s1 ov)))):
 aw (P e) (n+4) 54 [.ref (ad 1),.ref x,.str s1] (LG e ad f c M) Q:=by
 have hs:(s1==("shut":Str))=false:=by rcases z with rfl|rfl|rfl|rfl|rfl|rfl<;>decide+kernel
 rw[us (i:=54) (d:=pC) rfl];simp only[pC];walk_at "evl";refine BC tb g z λv k=>?_
 have a:=a (c.now+v) ∅
 rw[f7];walk_at "evl"
end
section
variable {e:Env}{n:Nat}{M:RM}{Q:ao}{ad:Nat->Addr}{f:Fm}{i j:bH}{c:Cn}{now mk ov u m mo:Int}{ds:LR}{st s1 wd:Str}{b x y:Addr}{D:List (TK×Addr)}{hk:TK}
theorem Ke{a:Addr}(h:M a=some (.dt kvs)):fv "len" [.ref a] M Q=Q (.int kvs.length) M:=by
 show(match M a with|some (.lst xs)=>Q (.int xs.length) M|some (.dk kvs)=>Q (.int kvs.length) M|some (.dt kvs)=>Q (.int kvs.length) M|_=>False)=_
 rw[h]
theorem J1(r:Ij ad 12)(v:Of ad 12 x)(hx:M x=some (iG e i m st ov))(l:lk c.N m=some b)(ob:Of ad 12 b)(t:M b=some (.dt (eA D)))(l1:(lk c.B i.k).isSome=true)(l2:(lk D (bE i)).isSome=true)
 (o:(tr ((P e).Gn (n+2)) yM).S (rd Q) [some (.ref (ad 1)),some (.ref x),some (.int mo),some (.int m),some (.str i.kind),some (.int i.house),some (.int i.door),some (.int i.place),some (.int i.far)] (LG e ad f { c with B:=dr c.B i.k } (put M b (.dt (eA (dr D (bE i))))))):
 aw (P e) (n+3) 56 [.ref (ad 1),.ref x,.int mo] (LG e ad f c M) Q:=by
 have e1:dr (eA c.B) i.k=eA (dr c.B i.k):=pP (g:=id) mC;have a:dr (eA D) (bE i)=eA (dr D (bE i)):=pP (g:=id) mC;have s:lk (eB c.N) (.inl m)=some (.ref b):=by rw[mG,l];rfl
 have h:(lk (eA c.B) i.k).isSome=true:=by rw[yD,qI];exact l1
 have k:(lk (eA D) (bE i)).isSome=true:=by rw[yD,qI];exact l2
 replace hx:M x=some (gk e (.tup [.str i.kind,.int i.house,.int i.door,.int i.place,.int i.far]) (.int m) (.str st) (.int ov)):=hx
 rw[us (i:=56) (d:=uo) rfl];simp only[uo];unfold Hb;walk_at "evl";unfold Ha;walk_at "evl";unfold GZ;walk_at "evl";rw[Bs (show _=some i.k from rfl),e1]
 refine⟨h,?_⟩;unfold GY;walk_at "evl";rw[Bs (show _=some (bE i)from rfl),a]
 refine⟨k,?_⟩;rw[lop ob];exact o
theorem UI(d:Ij ad 12)(l:Of ad 12 x)(hx:M x=some (iG e i m st ov))(a:lk c.N m=some b)(ob:Of ad 12 b)(g:M b=some (.dt (eA D)))(l1:(lk c.B i.k).isSome=true)(l2:(lk D (bE i)).isSome=true)
 (h:0<(dr D (bE i)).length) (k:Q .au (LG e ad f { c with B:=dr c.B i.k } (put M b (.dt (eA (dr D (bE i))))))):aw (P e) (n+3) 56 [.ref (ad 1),.ref x,.int mo] (LG e ad f c M) Q:=by
 have o:lk (eB c.N) (.inl m)=some (.ref b):=by rw[mG,a];rfl
 refine J1 d l hx a ob g l1 l2 ?_;unfold yM;walk_at "evl";rw[Ke (kvs:=eA (dr D (bE i))) (by walk_at "evl")];walk_at "ev"
 rw[ai (by unfold eA;rw[iW];exact fg ∅)]
 exact k
theorem UJ(k:Ij ad 12)(v:Of ad 12 x)(hx:M x=some (iG e i m st ov))(h:lk c.N m=some b)(ob:Of ad 12 b)(s:M b=some (.dt (eA D)))(l1:(lk c.B i.k).isSome=true)(l2:(lk D (bE i)).isSome=true)
 (a:dr D (bE i)= []) (l:lk c.H m=some hk) (o:(lk c.K hk).isSome=true) (r:(lk c.T m).isSome=true) (t:c.U.length<1000)
 (L:Q .au (LG e ad f { c with B:=dr c.B i.k,N:=dr c.N m,K:=dr c.K hk,H:=dr c.H m,T:=dr c.T m,U:=pt c.U m (mo+f.t3) } (put M b (.dt (eA []))))):aw (P e) (n+3) 56 [.ref (ad 1),.ref x,.int mo] (LG e ad f c M) Q:=by
 have z:lk (eB c.N) (.inl m)=some (.ref b):=by rw[mG,h];rfl
 have e1:dr (eB c.N) (.inl m)=eB (dr c.N m):=pP iV;have w:lk (eH c.H) (.inl m)=some (cE hk):=by rw[LQ,l];rfl
 have A:dr (eN c.K) hk=eN (dr c.K hk):=pP (g:=id) mC;have C:dr (eH c.H) (.inl m)=eH (dr c.H m):=pP iV;have E:dr (eT c.T) (.inl m)=eT (dr c.T m):=pP iV;have F:pt (eU c.U) (.inl m) (RV.int (mo+f.t3))=eU (pt c.U m (mo+f.t3)):=nz iV;have I:(lk (eN c.K) hk).isSome=true:=by rw[L5,qI];exact o
 have J:(lk (eT c.T) (.inl m)).isSome=true:=by rw[L0];exact r
 have O:(eU c.U).length<sizeLine:=by unfold eU;rw[iW];exact fM t ⋯
 refine J1 k v hx h ob s l1 l2 ?_;rw[a];unfold yM;walk_at "evl";rw[Ke (kvs:=[]) (by walk_at "evl";rfl)];walk_at "ev"
 unfold GX;walk_at "evl";unfold GW;walk_at "evl";rw[us (i:=55) (d:=ud) rfl];simp only[ud];walk_at "evl";rw[Bs (As _)];walk_at "evl";rw[NW,PF,f7];rw[us (i:=51) (d:=uu) rfl];simp only[uu];walk_at "evl"
end
section
structure Tk where
 i:bH
 a:Addr
 m:Int
 st:Str
 ov:Int
def outs(a:List Tk)(m:Int):List (TK×Addr):=(a.filter λT=>decide (T.m=m)).map λT=>(bE T.i,T.a)
def nY(a:List Tk):List (TK×Addr):=a.map λT=>(T.i.k,T.a)
structure bH.Ok(i:bH):Prop where
 kind:Kd i.kind
 house:0<=i.house/\i.house<=99
 door:1<=i.door/\i.door<=9999
 place:1<=i.place/\i.place<=1000000
 far:1<=i.far/\i.far<=9999
def Sw(k s:Str):Prop:=k= "note"/\s= "note"∨k= "line"/\(s= "asked"∨s= "called"∨s= "up"∨s= "near"∨s= "far")
theorem Sw.ws{k s:Str}(h:Sw k s):Ws s:=h.elim (λh=>.inl h.2) λh=>.inr h.2
abbrev mR(e:Env)(T:Tk):RO:=iG e T.i T.m T.st T.ov
structure Gd(e:Env)(ad:Nat->Addr)(f:Fm)(k d:Nat)(c:Cn)(tl:List Tk)(M0 M:RM):Prop where
 ij:Ij ad 12
 cB:c.B=nY tl
 cT:c.T=c.K.map λx=>(x.2,())
 cH:c.H=c.K.map λx=>(x.2,x.1)
 tk:∀T∈tl,M T.a=some (mR e T)/\Of ad 12 T.a
 nb:∀x∈c.N,M x.2=some (.dt (eA (outs tl x.1)))/\Of ad 12 x.2
 fr:∀a o,M0 a=some o->M a=some o/\Of ad 12 a/\(∀T∈tl,T.a≠a)/\∀x∈c.N,x.2≠a
 d1:(tl.map λT=>T.i.k).Nodup
 d2:(c.N.map (·.2)).Nodup
 d3:(c.K.map (·.2)).Nodup
 d4:(c.K.map (·.1)).Nodup
 d5:(c.N.map (·.1)).Nodup
 d6:(tl.map λT=>T.a).Nodup
 od:∀T∈tl,∀U∈tl,T.m=U.m->bE T.i=bE U.i->T=U
 tn:∀T∈tl,lk c.K (bg f T.i)=some T.m
 tb:∀T∈tl,T.m∈c.N.map (·.1)
 hk:∀x∈c.K,(∃i:bH,x.1=bg f i)/\f.low<=x.2/\x.2<=f.high
 ws:∀T∈tl,Sw T.i.kind T.st/\T.i.Ok
 mr:f.low<=c.mr/\c.mr<=f.high
 s0:tl.length<=k
 s1:c.K.length<=k
 s2:c.N.length<=k
 s3:c.U.length+c.K.length<=k
 s4:c.ds.length<=d
variable {e:Env}{n:Nat}{M M0:RM}{Q:ao}{ad:Nat->Addr}{f:Fm}{i j:bH}{k d:Nat}{c:Cn}{tl:List Tk}{now mk ov u m mo:Int}{v:RV}{st s1 wd:Str}{b x y:Addr}{D:List (TK×Addr)}{hk:TK}{T U:Tk}
theorem Gd.mono(G:Gd e ad f k d c tl M0 M)(h:k<=k')(h':d<=d'):Gd e ad f k' d' c tl M0 M:={ G with s0:=bR G.s0 h,s1:=bR G.s1 h,s2:=bR G.s2 h,s3:=bR G.s3 h,s4:=bR G.s4 h' }
theorem Gd.book(G:Gd e ad f k d c tl M0 M):Gd e ad f k (d+1) { c with ds:=c.ds++ [v] } tl M0 M:={ G with s4:=by show(c.ds++ [v]).length<=d+1;rw[eQ];exact Nat.succ_le_succ G.s4 }
theorem Gd.at_(G:Gd e ad f k d c tl M0 M){t:Int}:Gd e ad f k d { c with now:=t } tl M0 M:={ G with }
theorem Tr{i j:bH}(h:bg f i=bg f j)(a:bE i=bE j):i=j:=by
 cases i;cases j;unfold bE oK at a;simp only[List.cons.injEq,n9,Sum.inr.injEq,Sum.inl.injEq,and_true]at a;obtain⟨rfl,rfl,rfl⟩:=a;unfold bg bH.k at h;split at h
 . simp only[List.cons.injEq,n9,Sum.inr.injEq,Sum.inl.injEq,and_true,true_and]at h;obtain⟨rfl,rfl⟩:=h;rfl
 . split at h<;>(simp only[List.cons.injEq,n9,Sum.inr.injEq,Sum.inl.injEq,and_true,true_and]at h;obtain⟨rfl,rfl⟩:=h;rfl)
theorem BS{i j:bH}(h:i.k=j.k):i=j:=by
 cases i;cases j;unfold bH.k at h;simp only[List.cons.injEq,n9,Sum.inr.injEq,Sum.inl.injEq,and_true]at h;obtain⟨rfl,rfl,rfl,rfl,rfl⟩:=h;rfl
theorem Gd.oj(G:Gd e ad f k d c tl M0 M)(h:lk c.B i.k=none):∀T∈tl,T.i≠i:=λT a z=>by
 rw[G.cB]at h;exact bz.mp h (aV.mpr ⟨_,aV.mpr ⟨T,a,rfl⟩,by rw[z]⟩)
theorem Gd.om(G:Gd e ad f k d c tl M0 M)(h:lk c.B i.k=some x):∃T∈tl,T.i=i/\T.a=x:=by
 rw[G.cB]at h;obtain⟨T,g,e1⟩:=aV.mp (gn h);injection e1 with e1 a
 exact⟨T,g,BS e1,a⟩
theorem Gd.gX(G:Gd e ad f k d c tl M0 M)(h:lk c.K (bg f i)=some m)(hB:∀T∈tl,T.i≠i):∀U∈tl,U.m=m->bE U.i≠bE i:=λU hU e1 e2=>by
 have z:=G.tn U hU;rw[e1]at z;have:=fY G.d3 (gn z) (gn h) rfl;injection this with this
 exact hB U hU (Tr this e2)
theorem Gd.fE(G:Gd e ad f k d c tl M0 M)(h:lk c.K (bg f i)=none)(l:f.low<=m/\m<=f.high)(g:m∉c.K.map (·.2)):Gd e ad f (k+1) d (c.fE f i m) tl M0 M:=by
 have a:pt c.K (bg f i) m=c.K++ [(bg f i,m)]:=mz h;have eH:pt c.H m (bg f i)=(c.K++ [(bg f i,m)]).map λx=>(x.2,x.1):=by
  rw[G.cH,mz (bz.mpr λz=>g (by rwa [bT]at z)),eW];rfl
 have eT:pt c.T m ()=(c.K++ [(bg f i,m)]).map λx=>(x.2,()):=by
  rw[G.cT,mz (bz.mpr λz=>g (by rwa [bT]at z)),eW];rfl
 have l1:(dr c.U m).length<=c.U.length:=jz _ _;have l3:=G.s3;have l4:=G.s1;refine { G with
  cT:=eT.trans (by show _=(pt c.K (bg f i) m).map _;rw[a])
  cH:=eH.trans (by show _=(pt c.K (bg f i) m).map _;rw[a])
  d3:=by show((pt c.K (bg f i) m).map _).Nodup;rw[a,eW];exact qZ G.d3 g
  d4:=by show((pt c.K (bg f i) m).map _).Nodup;rw[a,eW];exact qZ G.d4 (bz.mp h)
  tn:=λT o=>by show lk (pt c.K (bg f i) m) _=_;rw[a,Bi,G.tn T o]
  hk:=λx hx=>by
   replace hx:x∈pt c.K (bg f i) m:=hx
   rw[a]at hx;rcases dW.mp hx with z|z
   . exact G.hk x z
   . cases ib.mp z;exact⟨⟨i,rfl⟩,l⟩
  mr:=by show f.low<=nm f m/\nm f m<=f.high;unfold nm;have:=l;split<;>omega
  s0:=Nat.le_succ_of_le G.s0
  s1:=by show(pt c.K (bg f i) m).length<=k+1;rw[a,eQ];exact Nat.succ_le_succ l4
  s2:=Nat.le_succ_of_le G.s2
  s3:=by show(dr c.U m).length+(pt c.K (bg f i) m).length<=k+1;rw[a,eQ];show _+(c.K.length+1)<=_;omega }
theorem AI:outs (tl++ [T]) m=outs tl m++if T.m=m then [(bE T.i,T.a)]else []:=by
 unfold outs;rw[List.filter_append,eW]
 by_cases z:T.m=m<;>simp[z]
theorem U1(h:∀U∈tl,U.m=m->bE U.i≠bE i):lk (outs tl m) (bE i)=none:=bz.mpr λz=>by
 obtain⟨p,l,e1⟩:=aV.mp z;obtain⟨U,a,rfl⟩:=aV.mp l;obtain⟨a,g⟩:=dR.mp a;exact h U a (ja g) e1
theorem Gd.m4(G:Gd e ad f k d c tl M0 M)(a:T∈tl){p:Int×Addr}(g:p∈c.N):T.a≠p.2:=λz=>by
 have:=(G.tk T a).1;rw[z,(G.nb p g).1]at this;cases this
theorem Gd.add(G:Gd e ad f k d c tl M0 M){c':Cn}(hB:∀U∈tl,U.i≠T.i)(ho:∀U∈tl,U.m=T.m->bE U.i≠bE T.i)(hm:lk c.K (bg f T.i)=some T.m)(hw:Sw T.i.kind T.st/\T.i.Ok)
 (q1:c'.B=pt c.B T.i.k T.a) (q2:c'.T=c.T) (q3:c'.H=c.H) (q4:c'.K=c.K) (q5:c'.U=c.U) (q6:c'.ds=c.ds) (q7:c'.mr=c.mr)
 (hx:M T.a=none) (ox:Of ad 12 T.a) (M1:M' T.a=some (mR e T)) (M2:∀a,a≠T.a->(∀p∈c'.N,p.1=T.m->p.2≠a)->M' a=M a)
 (n1:∀p∈c'.N,p.1=T.m->M' p.2=some (.dt (eA (outs (tl++ [T]) p.1)))/\Of ad 12 p.2/\p.2≠T.a/\(p∈c.N∨M p.2=none)) (n2:∀p∈c'.N,p.1≠T.m->p∈c.N) (n3:(c'.N.map (·.1)).Nodup) (n4:(c'.N.map (·.2)).Nodup) (n5:∀p∈c.N,p.1∈c'.N.map (·.1)) (n6:T.m∈c'.N.map (·.1)) (n7:c'.N.length<=k) (h0:tl.length<k):
 Gd e ad f k d c' (tl++ [T]) M0 M':=by
 have ne:∀U∈tl,U.a≠T.a:=λU hU z=>by have:=(G.tk U hU).1;rw[z,hx]at this;cases this
 have nn:∀U∈tl,∀p∈c'.N,p.1=T.m->p.2≠U.a:=λU hU p hp e1 z=>by
  rcases(n1 p hp e1).2.2.2 with h|h
  . exact G.m4 hU h z.symm
  . have:=(G.tk U hU).1;rw[<-z,h]at this;cases this
 have eB:c'.B=nY (tl++ [T]):=by
  rw[q1,G.cB,mz]
  . unfold nY;rw[eW];rfl
  . refine bz.mpr λz=>?_
    obtain⟨p,hp,e1⟩:=aV.mp z;obtain⟨U,hU,rfl⟩:=aV.mp hp;exact hB U hU (BS e1)
 have two:∀{p:Tk->Prop},(∀U∈tl,p U)->p T->∀U∈tl++ [T],p U:=λh1 h2 U hU=>by
  rcases dW.mp hU with z|z
  . exact h1 U z
  . cases ib.mp z;exact h2
 refine { ij:=G.ij,cB:=eB,cT:=by rw[q2,q4];exact G.cT,cH:=by rw[q3,q4];exact G.cH,tk:=two (λU hU=>?_) ⟨M1,ox⟩,nb:=λp hp=>?_,fr:=λa o h=>?_,d1:=?_,d2:=n4,d3:=by rw[q4];exact G.d3,d4:=by rw[q4];exact G.d4,d5:=n3,d6:=?_,od:=?_,tn:=by rw[q4];exact two G.tn hm,tb:=?_,hk:=by rw[q4];exact G.hk,ws:=two G.ws hw,mr:=by rw[q7];exact G.mr,s0:=?_,s1:=by rw[q4];exact G.s1,s2:=n7,s3:=by rw[q4,q5];exact G.s3,s4:=by rw[q6];exact G.s4 }
 . obtain⟨h1,h2⟩:=G.tk U hU
   exact⟨by rw[M2 _ (ne U hU) (nn U hU)];exact h1,h2⟩
 . by_cases z:p.1=T.m
   . exact⟨(n1 p hp z).1,(n1 p hp z).2.1⟩
   . have h:=n2 p hp z
     obtain⟨h1,h2⟩:=G.nb p h;refine⟨?_,h2⟩;rw[M2 _ (λq=>by rw[q,hx]at h1;cases h1) (λq hq e1 e2=>?_),h1,AI,ae (bZ z),qJ]
     rw[fY n4 hq hp e2]at e1;exact z e1
 . obtain⟨h1,h2,h3,h4⟩:=G.fr a o h
   have h5:T.a≠a:=λz=>by rw[<-z,hx]at h1;cases h1
   have h6:∀p∈c'.N,p.2≠a:=λp hp z=>by
    by_cases e1:p.1=T.m
    . rcases(n1 p hp e1).2.2.2 with q|q
      . exact h4 p q z
      . rw[z,h1]at q;cases q
    . exact h4 p (n2 p hp e1) z
   exact⟨by rw[M2 a (bZ h5) λp hp _=>h6 p hp];exact h1,h2,two h3 h5,h6⟩
 . rw[eW]
   refine qZ G.d1 λz=>?_
   obtain⟨U,hU,e1⟩:=aV.mp z;exact hB U hU (BS e1)
 . rw[eW]
   refine qZ G.d6 λz=>?_
   obtain⟨U,hU,e1⟩:=aV.mp z;exact ne U hU e1
 . refine two (λV hV=>two (λW hW=>G.od V hV W hW) λe1 e2=>?_) (two (λW hW e1 e2=>?_) λ_ _=>rfl)
   . exact ba e2 (ho V hV e1)
   . exact ba e2.symm (ho W hW e1.symm)
 . refine two (λU hU=>?_) n6
   obtain⟨p,hp,e1⟩:=aV.mp (G.tb U hU);rw[<-e1];exact n5 p hp
 . rw[eQ];exact h0
end
section
variable {e:Env}{n:Nat}{M M0:RM}{Q:ao}{ad:Nat->Addr}{f:Fm}{i j:bH}{k d:Nat}{c:Cn}{tl:List Tk}{now mk ov u m mo:Int}{v:RV}{st s1 wd:Str}{b x y:Addr}{D:List (TK×Addr)}{hk:TK}{T U:Tk}
theorem Gd.b0(G:Gd e ad f k d c tl M0 M)(A:∀U∈tl,U.i≠i)(F:∀U∈tl,U.m=m->bE U.i≠bE i)(E:lk c.K (bg f i)=some m)(H:Sw i.kind st/\i.Ok)
 (s:lk c.N m=none) (hx:M x=none) (I:Of ad 12 x) (t:M y=none) (J:Of ad 12 y) (o:x≠y) (h0:tl.length<k) (r:c.N.length<k):Gd e ad f k d (c.b0 i m x y) (tl++ [⟨i,x,m,st,ov⟩]) M0 (put (put M x (iG e i m st ov)) y (.dt (eA [(bE i,x)]))):=by
 have eN:(c.b0 i m x y).N=c.N++ [(m,y)]:=mz s;have nm:m∉c.N.map (·.1):=bz.mp s
 have e0:outs tl m= []:=by
  unfold outs;rw[zD.mpr λU C h=>nm (by rw[<-ja h];exact G.tb U C)];rfl
 have one:∀p∈(c.b0 i m x y).N,p.1=m->p=(m,y):=λp g z=>by
  rw[eN]at g;rcases dW.mp g with h|h
  . exact ba (aV.mpr ⟨p,h,z⟩) nm
  . exact ib.mp h
 refine G.add (T:=⟨i,x,m,st,ov⟩) A F E H rfl rfl rfl rfl rfl rfl rfl hx I ((put_ne o).trans bJ) (λa w r=>?_) (λp g z=>?_) (λp g z=>?_) ?_ ?_ (λp g=>?_) ?_ ?_ h0
 . have:y≠a:=r (m,y) (by rw[eN];exact dW.mpr (.inr (.head _))) rfl
   rw[put_ne (bZ this),put_ne w]
 . cases one p g z
   refine⟨?_,J,bZ o,.inr t⟩;rw[bJ,AI,e0];exact congrArg (λl=>some (RO.dt (eA l))) (by rw[ai rfl];rfl)
 . rw[eN]at g
   rcases dW.mp g with h|h
   . exact h
   . cases ib.mp h;exact ba rfl z
 . rw[eN,eW];exact qZ G.d5 nm
 . rw[eN,eW]
   refine qZ G.d2 λz=>?_
   obtain⟨p,g,e1⟩:=aV.mp z;have:=(G.nb p g).1;rw[show p.2=y from e1,t]at this;cases this
 . rw[eN,eW];exact dW.mpr (.inl (aV.mpr ⟨p,g,rfl⟩))
 . rw[eN,eW];exact dW.mpr (.inr (.head _))
 . rw[eN,eQ];exact r
theorem Gd.b1(G:Gd e ad f k d c tl M0 M)(t:∀U∈tl,U.i≠i)(h:∀U∈tl,U.m=m->bE U.i≠bE i)(A:lk c.K (bg f i)=some m)(C:Sw i.kind st/\i.Ok)
 (w:lk c.N m=some b) (hx:M x=none) (E:Of ad 12 x) (h0:tl.length<k):Gd e ad f k d (c.b1 i x) (tl++ [⟨i,x,m,st,ov⟩]) M0 (put (put M x (iG e i m st ov)) b (.dt (eA (pt (outs tl m) (bE i) x)))):=by
 have g:=gn w;obtain⟨b1,b2⟩:=G.nb _ g;have o:x≠b:=λz=>by rw[z]at hx;rw[hx]at b1;cases b1
 have one:∀p∈c.N,p.1=m->p=(m,b):=λp a z=>fY G.d5 a g z
 refine G.add (T:=⟨i,x,m,st,ov⟩) t h A C rfl rfl rfl rfl rfl rfl rfl hx E ((put_ne o).trans bJ) (λa r s=>?_) (λp a z=>?_) (λp a z=>a) G.d5 G.d2 (λp a=>aV.mpr ⟨p,a,rfl⟩) (aV.mpr ⟨_,g,rfl⟩) G.s2 h0
 . rw[put_ne (bZ (s (m,b) g rfl)),put_ne r]
 . cases one p a z
   refine⟨?_,b2,bZ o,.inl a⟩;rw[bJ,AI,mz (U1 h)];exact congrArg (λl=>some (RO.dt (eA l))) (by rw[ai rfl])
def fx(x:Addr)(s:Str)(o:Int)(U:Tk):Tk:=if U.a=x then { U with st:=s,ov:=o }else U
theorem pZ:(fx x st o U).i=U.i:=by unfold fx;split<;>rfl
theorem vf:(fx x st o U).a=U.a:=by unfold fx;split<;>rfl
theorem ve:(fx x st o U).m=U.m:=by unfold fx;split<;>rfl
theorem Jb:∀{tl:List Tk},outs (tl.map (fx x st o)) m=outs tl m
 | []=>rfl
 |U::tl=>by
  have a:outs (tl.map (fx x st o)) m=outs tl m:=Jb;unfold outs at a ⊢;rw[bQ,iK,iK,ve];split
  . rw[bQ,bQ,pZ,vf,a]
  . exact a
theorem Gd.lead(G:Gd e ad f k d c tl M0 M)(w:T∈tl)(hs:Sw T.i.kind st):Gd e ad f k d c (tl.map (fx T.a st ov)) M0 (put M T.a (iG e T.i T.m st ov)):=by
 have l:∀{p:Tk->Prop},(∀U∈tl,p (fx T.a st ov U))->∀U∈tl.map (fx T.a st ov),p U:=λh U r=>by
  obtain⟨V,A,rfl⟩:=aV.mp r;exact h V A
 refine { G with cB:=?_,tk:=l λU r=>?_,nb:=λp E=>?_,fr:=λa o h=>?_,d1:=?_,d6:=?_,od:=l λU r=>l λV A s t=>?_,tn:=l λU r=>by rw[pZ,ve];exact G.tn U r,tb:=l λU r=>by rw[ve];exact G.tb U r,ws:=l λU r=>?_,s0:=by rw[bu];exact G.s0 }
 . rw[G.cB];unfold nY;rw[bT];exact mS λU _=>by show _=((fx T.a st ov U).i.k,(fx T.a st ov U).a);rw[pZ,vf]
 . rw[vf]
   obtain⟨s,t⟩:=G.tk U r;refine⟨?_,t⟩
   by_cases z:U.a=T.a
   . cases fY G.d6 r w z
     rw[bJ];unfold fx;rw[ai rfl]
   . rw[put_ne z,s];unfold fx;rw[ae z]
 . obtain⟨s,t⟩:=G.nb p E
   rw[Jb];exact⟨(put_ne (bZ (G.m4 w E))).trans s,t⟩
 . obtain⟨s,t,C,F⟩:=G.fr a o h
   exact⟨(put_ne (bZ (C T w))).trans s,t,l λU r=>by rw[vf];exact C U r,F⟩
 . rw[bT,mS (g:=λU:Tk=>U.i.k) λU _=>by show(fx T.a st ov U).i.k=_;rw[pZ]];exact G.d1
 . rw[bT,mS (g:=λU:Tk=>U.a) λU _=>by show(fx T.a st ov U).a=_;rw[vf]];exact G.d6
 . rw[ve,ve]at s
   rw[pZ,pZ]at t;rw[G.od U r V A s t]
 . rw[pZ]
   obtain⟨s,t⟩:=G.ws U r;refine⟨?_,t⟩;unfold fx;split
   . rename_i z;rw[fY G.d6 r w z];exact hs
   . exact s
def gq(tl:List Tk)(T:Tk):List Tk:=tl.filter λU=>decide (U.a≠T.a)
theorem Gd.ph(G:Gd e ad f k d c tl M0 M)(a:T∈tl):dr c.B T.i.k=nY (gq tl T):=by
 rw[G.cB];unfold nY gq;rw[yj (κ:=Int)];congr 1;exact vS λU g=>vY.mpr ⟨λz q=>z (by rw[fY G.d6 g a q]),λz q=>z (by rw[fY G.d1 g a q])⟩
theorem Gd.pq(G:Gd e ad f k d c tl M0 M)(a:T∈tl):dr (outs tl T.m) (bE T.i)=outs (gq tl T) T.m:=by
 unfold outs gq;rw[yj (κ:=Int),List.filter_filter,List.filter_filter];congr 1;refine vS λU g=>?_
 by_cases z:U.m=T.m
 . simp only[z,decide_true,Bool.and_true,Bool.true_and]
   exact vY.mpr ⟨λy q=>y (by rw[fY G.d6 g a q]),λy q=>y (by rw[G.od U g T a z q])⟩
 . simp[z]
theorem Gd.pk(G:Gd e ad f k d c tl M0 M)(a:T∈tl)(h:m≠T.m):outs (gq tl T) m=outs tl m:=by
 unfold outs gq;rw[List.filter_filter];congr 1;refine vS λU g=>?_
 by_cases z:U.m=m
 . have:U.a≠T.a:=λq=>h (by rw[<-z,fY G.d6 g a q])
   simp[z,this]
 . simp[z]
theorem Gd.less(G:Gd e ad f k d c tl M0 M){c':Cn}(R:T∈tl)(X:lk c.N T.m=some b)(q1:c'.B=dr c.B T.i.k)(q2:c'.T=c'.K.map λx=>(x.2,()))(q3:c'.H=c'.K.map λx=>(x.2,x.1))(q4:c'.mr=c.mr)(q5:c'.ds=c.ds)
 (L:c'.N=c.N∨c'.N=dr c.N T.m/\outs (gq tl T) T.m= []) (J:c'.K=c.K∨c'.K=(c.K.filter λx=>decide (x.2≠T.m))/\outs (gq tl T) T.m= []) (u1:c'.U.length+c'.K.length<=k):
 Gd e ad f k d c' (gq tl T) M0 (put M b (.dt (eA (outs (gq tl T) T.m)))):=by
 have I:=gn X;have sub:∀U∈gq tl T,U∈tl:=λU l=>(dR.mp l).1
 have s:∀p∈c'.N,p∈c.N:=λp r=>by
  rcases L with z|⟨z,_⟩
  . rwa [z]at r
  . rw[z]at r;exact(dR.mp r).1
 have F:∀p∈c'.K,p∈c.K:=λp r=>by
  rcases J with z|⟨z,_⟩
  . rwa [z]at r
  . rw[z]at r;exact(dR.mp r).1
 have w:outs (gq tl T) T.m= []->∀U∈gq tl T,U.m≠T.m:=λh U l z=>by
  have:(bE U.i,U.a)∈outs (gq tl T) T.m:=aV.mpr ⟨U,dR.mpr ⟨l,fg z⟩,rfl⟩;rw[h]at this;cases this
 have lN:c'.N.length<=c.N.length:=by
  rcases L with z|⟨z,_⟩
  . rw[z];exact aK _
  . rw[z];exact jz _ _
 have Z:c'.K.length<=c.K.length:=by
  rcases J with z|⟨z,_⟩
  . rw[z];exact aK _
  . rw[z];exact jz _ _
 have E:∀{H:Type} {g:Int×Addr->H},(c.N.map g).Nodup->(c'.N.map g).Nodup:=λ{H g} h=>by
  rcases L with z|⟨z,_⟩
  . rw[z];exact h
  . rw[z];exact uh h
 have t:∀{H:Type} {g:TK×Int->H},(c.K.map g).Nodup->(c'.K.map g).Nodup:=λ{H g} h=>by
  rcases J with z|⟨z,_⟩
  . rw[z];exact h
  . rw[z];exact uh h
 refine { ij:=G.ij,cB:=by rw[q1];exact G.ph R,cT:=q2,cH:=q3,tk:=λU l=>?_,nb:=λp r=>?_,fr:=λa o h=>?_,d1:=uh G.d1,d2:=E G.d2,d3:=t G.d3,d4:=t G.d4,d5:=E G.d5,d6:=uh G.d6,od:=λU l V Y=>G.od U (sub U l) V (sub V Y),tn:=λU l=>?_,tb:=λU l=>?_,hk:=λx hx=>G.hk x (F x hx),ws:=λU l=>G.ws U (sub U l),mr:=by rw[q4];exact G.mr,s0:=bR (jz _ _) G.s0,s1:=bR Z G.s1,s2:=bR lN G.s2,s3:=u1,s4:=by rw[q5];exact G.s4 }
 . obtain⟨A,C⟩:=G.tk U (sub U l)
   exact⟨(put_ne (G.m4 (sub U l) I)).trans A,C⟩
 . obtain⟨A,C⟩:=G.nb p (s p r)
   refine⟨?_,C⟩
   by_cases z:p.1=T.m
   . cases fY G.d5 (s p r) I z
     exact bJ
   . rw[put_ne (λq=>z (by rw[fY G.d2 (s p r) I q])),A,G.pk R z]
 . obtain⟨A,C,W,O⟩:=G.fr a o h
   exact⟨(put_ne (bZ (O _ I))).trans A,C,λU l=>W U (sub U l),λp r=>O p (s p r)⟩
 . have z:=G.tn U (sub U l)
   rcases J with q|⟨q,h⟩
   . rw[q];exact z
   . have N:=w h U l
     have:(bg f U.i,U.m)∈c'.K:=by rw[q];exact dR.mpr ⟨gn z,fg N⟩
     exact vd (t G.d4) this
 . rcases L with q|⟨q,h⟩
   . rw[q];exact G.tb U (sub U l)
   . obtain⟨p,r,e1⟩:=aV.mp (G.tb U (sub U l))
     rw[q];exact aV.mpr ⟨p,dR.mpr ⟨r,fg (by rw[e1];exact w h U l)⟩,e1⟩
def BW(m u:Int)(c c':Cn):Prop:=(c'.K=c.K/\c'.U=c.U/\c'.N=c.N)∨(c'.K=c.K.filter (λx=>decide (x.2≠m))/\c'.U=pt c.U m u/\c'.N=dr c.N m)
def Nk(c:Cn):Prop:=∀x∈c.K,x.2∈c.N.map (·.1)
theorem Nk.ended(h:Nk c)(z:BW m u c c'):Nk c':=by
 rcases z with⟨a,_,g⟩|⟨a,_,g⟩
 . intro x hx;rw[a]at hx;rw[g];exact h x hx
 . intro x hx
   rw[a]at hx;obtain⟨o,r⟩:=dR.mp hx;obtain⟨p,l,e1⟩:=aV.mp (h x o);rw[g];exact aV.mpr ⟨p,dR.mpr ⟨l,fg (by rw[e1];exact ja r)⟩,e1⟩
theorem Gd.end_(G:Gd e ad f k d c tl M0 M)(hk:k<1000)(a:T∈tl)(w:∀h s,Gd e ad f k d h (gq tl T) M0 s->h.now=c.now->h.ds=c.ds->BW T.m (mo+f.t3) c h->Q .au (LG e ad f h s)):
 aw (P e) (n+3) 56 [.ref (ad 1),.ref T.a,.int mo] (LG e ad f c M) Q:=by
 obtain⟨A,C⟩:=G.tk T a;obtain⟨p,t,e1⟩:=aV.mp (G.tb T a);obtain⟨J,b⟩:=p;cases e1;have o:lk c.N T.m=some b:=vd G.d5 t;obtain⟨b1,b2⟩:=G.nb _ t;have l1:(lk c.B T.i.k).isSome=true:=by rw[G.cB];exact yh (aV.mpr ⟨_,aV.mpr ⟨T,a,rfl⟩,rfl⟩)
 have l2:(lk (outs tl T.m) (bE T.i)).isSome=true:=yh (aV.mpr ⟨_,aV.mpr ⟨T,dR.mpr ⟨a,fg rfl⟩,rfl⟩,rfl⟩);have lo:=G.pq a;have s3:=G.s3
 by_cases z:outs (gq tl T) T.m= []
 . have F:=lo.trans z
   have g:=gn (G.tn T a);have E:lk c.H T.m=some (bg f T.i):=by
    rw[G.cH];exact vd (x:=(T.m,bg f T.i)) (by rw[bT];exact G.d3) (aV.mpr ⟨_,g,rfl⟩)
   have r:∀x∈c.K,(x.1≠bg f T.i↔x.2≠T.m):=λx hx=>⟨λz q=>z (by rw[fY G.d3 hx g q]),λz q=>z (by rw[fY G.d4 hx g q])⟩
   have l:dr c.K (bg f T.i)=c.K.filter λx=>decide (x.2≠T.m):=vS λx hx=>vY.mpr (r x hx)
   refine UJ G.ij C A o b2 b1 l1 l2 F E (yh (aV.mpr ⟨_,g,rfl⟩)) (by rw[G.cT];exact yh (aV.mpr ⟨_,aV.mpr ⟨_,g,rfl⟩,rfl⟩)) ∅ ?_
   rw[<-z];refine w _ _ (G.less a o rfl ?_ ?_ rfl rfl (.inr ⟨rfl,z⟩) (.inr ⟨l,z⟩) ?_) rfl rfl (.inr ⟨l,rfl,rfl⟩)
   . show dr c.T T.m=(dr c.K (bg f T.i)).map _
     rw[G.cT,l];exact yj (κ:=Int)
   . show dr c.H T.m=(dr c.K (bg f T.i)).map _
     rw[G.cH,l];exact yj (κ:=Int)
   . show(pt c.U T.m _).length+(dr c.K (bg f T.i)).length<=k
     have H:(pt c.U T.m (mo+f.t3)).length<=c.U.length+1:=Xh;have I:(dr c.K (bg f T.i)).length<c.K.length:=by
      unfold dr;exact List.length_filter_lt_length_iff_exists.mpr ⟨_,g,by simp⟩
     omega
 . refine UI G.ij C A o b2 b1 l1 l2 ?_ ?_
   . rw[lo];exact List.length_pos_iff.mpr z
   . rw[lo]
     exact w _ _ (G.less a o rfl G.cT G.cH rfl rfl (.inl rfl) (.inl rfl) s3) rfl rfl (.inl ⟨rfl,rfl,rfl⟩)
end
section
variable {e:Env}{n:Nat}{M M0:RM}{Q:ao}{ad:Nat->Addr}{f:Fm}{i j:bH}{k d:Nat}{c:Cn}{tl:List Tk}{t ov u m mo:Int}{v:RV}{st s1 wd:Str}{b x y:Addr}{T U:Tk}{c':Cn}
def cY(e:Env):RO:=.tb e.lP (P e).S.lp (P e).S.lq
theorem Wj{fr rp rbi rbn rho rnu:RV}{t:Addr}{nw k:Int}{tv:aq}{σ:bb}{N:RM->Prop}(ht:M t=some (bP e fr rp (.int nw) rbi rbn rho rnu))(hv:∀K:ao,K (.int k) M->tv σ M K)(hN:N (put M t (bP e fr rp (.int (nw+k)) rbi rbn rho rnu))):sW (e.C 3) "now" tv σ N (.ref t) M:=by
 unfold sW;simp only[ht];refine⟨rfl,?_⟩;show tv σ M _;refine hv _ ?_;show(match M t with|some (.ins C2 fs2)=>_|_=>False)
 rw[ht];exact⟨rfl,by show(7:Nat)<1000;decide,hN⟩
theorem UK{fr rp now rbn rho rnu:RV}{t bi:Addr}{l:List (TK×Addr)}(ht:M t=some (bP e fr rp now (.ref bi) rbn rho rnu))(hb:M bi=some (.dt (eA l))):aw (P e) (n+1) 18 [.ref t] M Q=Q (.ls (l.map λx=>.ref x.2)) M:=by
 have e1:(eA l).map (·.2)=l.map λx=>RV.ref x.2:=by unfold eA enc;rw[bT];rfl
 rw[us (i:=18) (d:=tS) rfl];simp only[tS];walk_at "evs"
noncomputable def wU (M:RM)(now:Int):RV->Bool
 | .ref a=>match M a with
  |some (.ins _ fs)=>match fs.lookup ("over":Str)with
   |some (.int o)=>decide (o<=now)
   |_=>false
  |_=>false
 |_=>false
def gZ(c:Cn)(m h d:Int):Prop:=∃a,(a,m)∈c.K/\∃k r,a=k::some (.inl h)::some (.inl d)::r
def Rest(c:Cn)(m μ:Int):Prop:=m∉c.K.map (·.2)/\∃u,lk c.U m=some u/\μ<u
def Sf(c:Cn)(μ m h d:Int):Prop:=gZ c m h d∨Rest c m μ
def Ev(β:Int)(c c':Cn):Prop:=∀μ m h d,μ<β->Sf c μ m h d->Sf c' μ m h d
theorem Ev.refl(a:c'.K=c.K)(g:c'.U=c.U):Ev β c c':=λμ m h d _ s=>by
 unfold Sf gZ Rest at*;rw[a,g];exact s
theorem Ev.trans{β:Int}{c1 c2:Cn}(h:Ev β c c1)(h':Ev β c1 c2):Ev β c c2:=λμ m a b hb s=>h' μ m a b hb (h μ m a b hb s)
theorem Ev.ended{β:Int}(h:BW m u c c')(hu:β<=u):Ev β c c':=by
 rcases h with⟨h1,h2,_⟩|⟨h1,h2,_⟩
 . exact Ev.refl h1 h2
 . intro μ m2 hh d hb s
   by_cases z:m2=m
   . subst z
     refine .inr ⟨λq=>?_,u,by rw[h2,BR],∅⟩
     rw[h1]at q;obtain⟨x,hx,e1⟩:=aV.mp q;exact ja (dR.mp hx).2 e1
   . rcases s with⟨κ,hκ,k⟩|⟨q,w,hw,hl⟩
     . exact .inl ⟨κ,by rw[h1];exact dR.mpr ⟨hκ,fg z⟩,k⟩
     . refine .inr ⟨λq2=>q ?_,w,by rw[h2,Vb z];exact hw,hl⟩
       rw[h1]at q2;obtain⟨x,hx,e1⟩:=aV.mp q2;exact aV.mpr ⟨x,(dR.mp hx).1,e1⟩
theorem K2{β:Int}(hk:k<1000){D:RD}{z1 z2:Option RV}:∀(l:List Tk) {c:Cn} {tl:List Tk} {M:RM} {z3:Option RV},Gd e ad f k d c tl M0 M->(∀T∈l,T∈tl/\β<=T.ov+f.t3)->(l.map (·.a)).Nodup->(∀c' tl' M' z,Gd e ad f k d c' tl' M0 M'->(∀T∈tl',T∈tl/\T.a∉l.map (·.a))->c'.now=c.now->c'.ds=c.ds->Ev β c c'->(Nk c->Nk c')->D.nx [some (.ref (ad 1)),z1,z2,z] (LG e ad f c' M'))->
 i6 (i7 3) (tr ((P e).Gn (n+3)) (.se (.ex (.me 56 (.v 0) (.ec (.v 3) (.ec (.fl 2 "over" (.v 3)) .e0)))) .en)).S D ej id (l.map λT=>RV.ref T.a) [some (.ref (ad 1)),z1,z2,z3] (LG e ad f c M)
 | [],c,tl,M,z3,G,_,_,hq=>⟨iz,hq _ _ _ _ G (λ_ h=>⟨h,λz=>by cases z⟩) rfl rfl (Ev.refl rfl rfl) λh=>h⟩
 |T::l,c,tl,M,z3,G,hT,nd,hq=>by
  obtain⟨t1,t2⟩:=G.tk T (hT T (.head _)).1;have Hj:=G.ij;rw[bQ,i8]at nd;refine⟨iz,?_⟩;unfold i7;walk_at "evl";refine G.end_ hk (hT T (.head _)).1 λc' M' G' h1 h2 h3=>?_
  refine K2 hk l G' (λU hU=>⟨?_,(hT U (.tail _ hU)).2⟩) nd.2 λc2 tl2 M2 z G2 s2 n2 d2 e2 k2=>hq c2 tl2 M2 z G2 (λU hU=>?_) (n2.trans h1) (d2.trans h2) (Ev.trans (Ev.ended h3 (hT T (.head _)).2) e2) λh=>k2 (h.ended h3)
  . refine dR.mpr ⟨(hT U (.tail _ hU)).1,fg λz=>nd.1 ?_⟩
    rw[<-z];exact List.mem_map_of_mem (f:=(·.a)) hU
  . obtain⟨q1,q2⟩:=s2 U hU
    obtain⟨q3,q4⟩:=dR.mp q1;refine⟨q3,λz=>?_⟩
    rcases dh.mp z with z|z
    . exact ja q4 z
    . exact q2 z
theorem S5(G:Gd e ad f k d c tl M0 M)(hk:k<64)(lv:∀T∈tl,c.now<T.ov)(htb:M0 e.lP=some (cY e))(hq:∀c' tl' M',Gd e ad f k d c' tl' M0 M'->(∀T∈tl',T∈tl/\c'.now<T.ov)->c'.now=c.now+t->c'.ds=c.ds->Ev (c.now+1+f.t3) c c'->(Nk c->Nk c')->Q .au (LG e ad f c' M')):
 aw (P e) (n+4) 34 [.ref (ad 1),.int t] (LG e ad f c M) Q:=by
 have Hj:=G.ij;have G1:=G.at_ (t:=c.now+t);obtain⟨p1,p2,p3,p4⟩:=G.fr _ _ htb;rw[us (i:=34) (d:=aG) rfl];simp only[aG];walk_at "ev";rw[Qc];walk_at "ev";refine Wj (lg Hj (Nat.le_of_ble_eq_true rfl)) (λK hK=>by walk_at "ev";exact hK) ?_
 rw[lp Hj (Nat.le_of_ble_eq_true rfl)];have ht1:LG e ad f { c with now:=c.now+t } M (ad 1)=some (cA e ad f (c.now+t)):=lg Hj (Nat.le_of_ble_eq_true rfl)
 have hb1:LG e ad f { c with now:=c.now+t } M (ad 5)=some (.dt (eA c.B)):=lg Hj (Nat.le_of_ble_eq_true rfl)
 have htb1:LG e ad f { c with now:=c.now+t } M e.lP=some (cY e):=(lo p2).trans p1
 have hat:∀T∈tl,LG e ad f { c with now:=c.now+t } M T.a=some (mR e T):=λT hT=>(lo (G.tk T hT).2).trans (G.tk T hT).1
 show(tr ((P e).Gn (n+3)) _).S _ _ (LG e ad f { c with now:=c.now+t } M)
 generalize hL:LG e ad f { c with now:=c.now+t } M=L at ht1 hb1 htb1 hat ⊢
 walk_at "ev";rw[ht1];walk_at "ev";rw[UK ht1 hb1,Lj];have exs:(c.B.map λx=>RV.ref x.2)=tl.map λT=>RV.ref T.a:=by rw[G.cB];unfold nY;rw[bT];rfl
 rw[exs];have hov:∀T∈tl,wU L (c.now+t) (.ref T.a)=decide (T.ov<=c.now+t):=λT hT=>by
  unfold wU;simp only[hat T hT];rfl
 have h64:tl.length<64:=jU G.s0 hk;refine⟨by rw[bu];exact fM h64 ⋯,jJ (bd:=gv false 1) (wU L (c.now+t)) id iz _ _ (λx hx=>?_) ?_⟩
 . obtain⟨T,hT,rfl⟩:=aV.mp hx
   have h:=hat T hT;refine⟨[.ref T.a],rfl,λK hK=>?_,λ_ K hK=>?_⟩
   . rw[hov T hT]at hK
     show(tr ((P e).Gn (n+3)) _).T [some (.ref T.a),some (.ref (ad 1))] _ K;walk_at "ev";rw[h];walk_at "ev";rw[ht1];walk_at "ev";exact hK
   . show(tr ((P e).Gn (n+3)) _).E [some (.ref T.a),some (.ref (ad 1))] _ K
     walk_at "ev";exact hK
 . rw[yg,List.nil_append,List.map_id]
   have ef:(tl.map λT=>RV.ref T.a).filter (wU L (c.now+t))=(tl.filter λT=>decide (T.ov<=c.now+t)).map λT=>RV.ref T.a:=by
    rw[List.filter_map];congr 1;exact vS λT hT=>hov T hT
   have sub:∀T∈tl.filter λT=>decide (T.ov<=c.now+t),T∈tl:=λT h=>(dR.mp h).1
   rw[ef];refine⟨(tl.filter λT=>decide (T.ov<=c.now+t)).map λT=>(T.ov,T.a),.inl (by rw[bT,bT];rfl),λz hz=>?_,?_,htb1,λys' hp hs=>?_⟩
   . obtain⟨T,hT,rfl⟩:=aV.mp hz
     exact⟨_,hat T (sub T hT),rfl⟩
   . rw[bu];exact jU (jz _ _) h64
   . obtain⟨ys,py,rfl⟩:=HS hp
     rw[Lj,show((ys.map λT=>(T.ov,T.a)).map Prod.snd).map RV.ref=ys.map λT=>RV.ref T.a by rw[bT,bT];rfl]
     subst hL;have nd:(ys.map λT=>T.a).Nodup:=(py.map _).nodup_iff.mpr (uh G.d6)
     refine K2 (β:=c.now+1+f.t3) (fM hk ⋯) ys G1 (λT hT=>?_) nd λc' tl' M' z G' s' n' d' e' k'=>hq c' tl' M' G' (λT hT=>?_) n' d' e' k'
     . have hT:=sub T (py.mem_iff.mp hT)
       have:=lv T hT;exact⟨hT,∅⟩
     . obtain⟨q1,q2⟩:=s' T hT
       refine⟨q1,Classical.byContradiction λz=>q2 ?_⟩
       rw[show c'.now=c.now+t from n']at z
       exact aV.mpr ⟨T,py.mem_iff.mpr (dR.mpr ⟨q1,fg ∅⟩),rfl⟩
end
section
variable {e:Env}{n:Nat}{M M0:RM}{Q:ao}{ad:Nat->Addr}{f:Fm}{i j:bH}{k d:Nat}{c c':Cn}{tl:List Tk}{t ov u m mo:Int}{v:RV}{st s1 wd:Str}{b x y:Addr}{T U:Tk}
theorem IT{p:aR}{b:Bool}{d t:Int}(h:p.pick b d t=some m):p.free m t=true:=by
 unfold aR.pick at h;split at h
 . rename_i z;cases h;exact(aU _ _ ▸ z).2
 . exact List.find?_some (p:=λi=>p.free i t) h
theorem Gd.fV(G:Gd e ad f k d c tl M0 M)(h:(pS f c).free m c.now=true):(m∉c.K.map (·.2)/\f.low<=m/\m<=f.high)/\∀u,lk c.U m=some u->u<=c.now:=by
 unfold aR.free aR.has pS at h;simp only[aU,gK,jb]at h;refine⟨⟨λz=>?_,h.1.1.1,h.1.1.2⟩,λu a=>?_⟩
 . have:=Bh (l:=c.K.map λx=>(x.2,())) (k:=m)
   rw[<-G.cT,h.1.2,G.cT,bT]at this;exact ba z (by simpa using this)
 . have:=h.2
   rw[a]at this;exact ja this
theorem Gd.Ox(G:Gd e ad f k d c tl M0 M)(a:f.Ok):(pS f c).Ok:=⟨a.lo,G.mr.1,G.mr.2,a.hi,a.wide⟩
def Wo(k w:Str):Prop:=k= "note"/\w= "say"∨k= "line"/\w= "open"
theorem Wo.kw{k w:Str}(h:Wo k w):Kw k w:=h.imp_right λh=>⟨h.1,.inl h.2⟩
noncomputable def Nx (p:TK×Str):Bool:=!decide (p.1[2]? =some (some (.inr "open")))||(decide (p.2= "asked")||(decide (p.2= "called")||decide (p.2= "up")))
theorem Uy:steps.all Nx=true:=by decide+kernel
theorem vb{k w sd:Str}{g:Option Str}(h:Wo k w)(hx:nx k g sd w=some st):Sw k st:=by
 unfold nx at hx;rcases h with⟨rfl,rfl⟩|⟨rfl,rfl⟩
 . rw[ai rfl]at hx
   split at hx
   . cases hx;exact .inl ⟨rfl,rfl⟩
   . cases hx
 . rw[ae (by decide+kernel)]at hx
   unfold tm at hx;rw[ae (by decide+kernel)]at hx
   obtain⟨p,l,rfl⟩:=Option.map_eq_some_iff.mp hx;have o:=ja (List.find?_some (p:=λp:TK×Str=>decide (p.1= [some (.inr sd),g.map Sum.inr,some (.inr "open")])) l)
   have a:=ff.mp Uy p (List.mem_of_find?_eq_some l);unfold Nx at a;rw[o,show(decide (([some (.inr sd),g.map Sum.inr,some (.inr "open")]:TK)[2]? =some (some (.inr "open"))))=true from fg rfl,Bool.not_true,Bool.false_or,sC,sC,gK,gK,gK]at a
   exact .inr ⟨rfl,by rcases a with h|h|h<;>simp[h]⟩
theorem Yt{k w:Str}(h:Wo k w):∃s,nx k none "house" w=some s:=by
 rcases h with⟨rfl,rfl⟩|⟨rfl,rfl⟩
 . exact⟨"note",by decide+kernel⟩
 . exact⟨"asked",by decide+kernel⟩
abbrev led(m:Int):RV:=.tup [.str "led",.int m]
abbrev kept(x:Str):RV:=.tup [.str "kept",.str x]
theorem rm:∃a b,bg f i= [some (.inr i.kind),some (.inl i.house),some (.inl i.door),a,b]:=by
 unfold bg bH.k;split
 . exact⟨_,_,rfl⟩
 . split<;>exact⟨_,_,rfl⟩
structure Sm(c c':Cn):Prop where
 K:c'.K=c.K
 U:c'.U=c.U
 nw:c'.now=c.now
theorem Sm.refl:Sm c c:=⟨rfl,rfl,rfl⟩
def Lv(c:Cn)(tl:List Tk):Prop:=∀T∈tl,c.now<T.ov
theorem Lv.snoc(h:Lv c tl)(l:c.now<ov):Lv c (tl++ [⟨i,x,m,st,ov⟩]):=λT g=>by
 rcases dW.mp g with a|a
 . exact h T a
 . cases ib.mp a;exact l
theorem Lv.led(h:Lv c tl)(l:c.now<ov):Lv c (tl.map (fx x st ov)):=λT a=>by
 obtain⟨W,g,rfl⟩:=aV.mp a;unfold fx;split
 . exact l
 . exact h W g
theorem Gd.begin(G:Gd e ad f k d c tl M0 M)(tb:Tb e)(s:f.Ok)(lv:Lv c tl)(N:k<900)(h0:tl.length<k)(H:c.N.length<k)(w:∀U∈tl,U.i≠i)(C:∀U∈tl,U.m=m->bE U.i≠bE i)(A:lk c.K (bg f i)=some m)(g:Sw i.kind st/\i.Ok)(F:∀x∈c.K,x.2=m∨x.2∈c.N.map (·.1))
 (D:∀c' a r,Gd e ad f k d c' a M0 r->Lv c a->Sm c c'->Nk c'->Q .au (LG e ad f c' r)):aw (P e) (n+3) 66 [.ref (ad 1),i.r,.int m,.str st] (LG e ad f c M) Q:=by
 have E:c.B.length<1000:=by rw[G.cB];unfold nY;rw[bu];exact jU G.s0 ∅
 cases hN:lk c.N m with
 |none=>
  refine Ul tb s g.1.ws G.ij E (jU G.s2 ∅) hN λx y ov h hx o J L l=>D _ _ _ (G.b0 (ov:=ov) w C A g hN hx o J L l h0 H) (lv.snoc h) ⟨rfl,rfl,rfl⟩ λx hx=>?_
  show x.2∈(pt c.N m _).map _;rw[mz hN,eW];rcases F x hx with z|z
  . rw[z];exact dW.mpr (.inr (.head _))
  . exact dW.mpr (.inl z)
 |some b=>
  obtain⟨b1,b2⟩:=G.nb _ (gn hN);refine Uk tb s g.1.ws G.ij E ?_ hN b2 b1 λx ov h hx o I=>D _ _ _ (G.b1 (ov:=ov) w C A g hN hx o h0) (lv.snoc h) ⟨rfl,rfl,rfl⟩ λx hx=>(F x hx).elim (λz=>by rw[z];exact aV.mpr ⟨_,gn hN,rfl⟩) id
  unfold outs;rw[bu];exact jU (bR (jz _ _) G.s0) ∅
theorem Gd.lU(G:Gd e ad f k d c tl M0 M):∀x∈c.H,∃k j r,x.2=k::some (.inl j)::r:=λx hx=>by
 rw[G.cH]at hx;obtain⟨y,g,rfl⟩:=aV.mp hx;obtain⟨⟨i,h⟩,_⟩:=G.hk y g;obtain⟨a,b,e1⟩:=rm (f:=f) (i:=i);exact⟨_,_,_,h.trans e1⟩
structure Cg(f:Fm)(i:bH)(m:Int)(c c':Cn):Prop where
 mr:f.low<=m/\m<=f.high
 ho:gZ c' m i.house i.door
 old:∀κ,(κ,m)∈c.K->κ=bg f i
 ev:∀μ m2 h d,c.now<=μ->Sf c μ m2 h d->Sf c' μ m2 h d
 nw:c'.now=c.now
theorem Gd.gP(G:Gd e ad f k d c tl M0 M)(h:lk c.K (bg f i)=some m):gZ c m i.house i.door:=by
 obtain⟨a,b,e1⟩:=rm (f:=f) (i:=i);exact⟨_,gn h,_,_,e1⟩
theorem Gd.tG(G:Gd e ad f k d c tl M0 M)(h:lk c.K (bg f i)=some m)(s:Sm c c'):Cg f i m c c':=by
 refine⟨(G.hk _ (gn h)).2,?_,λκ a=>?_,λμ l g dd _ q=>?_,s.nw⟩
 . have:=G.gP h
   unfold gZ at*;rw[s.K];exact this
 . have:=fY G.d3 a (gn h) rfl
   injection this
 . unfold Sf gZ Rest at*
   rw[s.K,s.U];exact q
theorem Gd.lY(G:Gd e ad f k d c tl M0 M)(h:lk c.K (bg f i)=none)(F:(pS f c).free m c.now=true)(s:Sm (c.fE f i m) c'):Cg f i m c c':=by
 obtain⟨⟨C,D⟩,E⟩:=G.fV F;have l:(c.fE f i m).K=c.K++ [(bg f i,m)]:=mz h;refine⟨D,?_,λκ g=>ba (aV.mpr ⟨_,g,rfl⟩) C,λμ o N dd H q=>?_,s.nw⟩
 . obtain⟨a,b,e1⟩:=rm (f:=f) (i:=i)
   exact⟨_,by rw[s.K,l];exact dW.mpr (.inr (.head _)),_,_,e1⟩
 . rcases q with⟨L,g,z⟩|⟨I,w,A,J⟩
   . exact .inl ⟨L,by rw[s.K,l];exact dW.mpr (.inl g),z⟩
   . have r:o≠m:=λq=>by have:=E w (q ▸ A);omega
     refine .inr ⟨λq=>?_,w,?_,J⟩
     . rw[s.K,l,eW]at q
       rcases dW.mp q with q|q
       . exact I q
       . exact r (ib.mp q)
     . rw[s.U]
       show lk (dr c.U m) o=_;rw[qyl r];exact A
def r8(f:Fm)(i:bH)(c:Cn)(v:RV)(c':Cn):Prop:=((v=kept "astray"∨v=kept "most"∨v=kept "full")/\Sm c c')∨∃m,v=led m/\Cg f i m c c'
theorem Gd.begin_out(G:Gd e ad f k d c tl M0 M)(tb:Tb e)(E:f.Ok)(lv:Lv c tl)(J:Nk c)(X:k<190)(C:∀U∈tl,U.i≠i)(L:Sw i.kind st/\i.Ok)
 (I:∀v c' a g,Gd e ad f (k+1) d c' a M0 g->Lv c' a->Nk c'->r8 f i c v c'->Q v (LG e ad f c' g)):aw (P e) (n+5) 59 [.ref (ad 0),i.r,.str st] (LG e ad f c M) Q:=by
 have A:=G.ij;have keep:∀z:Str,(z= "most"∨z= "full")->Q (kept z) (LG e ad f c M):=λz W=>I _ _ _ _ (G.mono (n8 _) (aK _)) lv J (.inl ⟨.inr (by rcases W with rfl|rfl;exact .inl rfl;exact .inr rfl),Sm.refl⟩)
 have w:∀{c c':Cn} {a:List Tk},Lv c a->c'.now=c.now->Lv c' a:=λh z T R=>by rw[z];exact h T R
 rw[us (i:=59) (d:=tN) rfl];simp only[tN];unfold GV;rw[d8,fj];dsimp only[List.set_cons_zero,List.set_cons_succ];walk_at "evl";rw[RH A];cases hK:lk c.K (bg f i)with
 |some m=>
  rw[Le];unfold Cu;walk_at "evl";unfold Ct;walk_at "evl";refine(G.mono (n8 _) (aK _)).begin tb E lv ∅ (zy G.s0) (zy G.s2) C (G.gX hK C) hK L (λx hx=>.inr (J x hx)) λc' a g D F o H=>?_
  unfold Cs;walk_at "ev";exact I _ c' a g D (w F o.nw) H (.inr ⟨m,rfl,G.tG hK o⟩)
 |none=>
  rw[Lf];unfold Cu;walk_at "evl";rw[NZ];have Z:c.H.length=c.K.length:=by rw[G.cH,bu]
  have s1:=G.s1;refine Xb A G.lU ∅ λl Y=>?_
  walk_at "evl";rw[NU];walk_at "evl"
  by_cases s:f.most<=(l.length:Int)
  . rw[ai (by simpa using s)]
    exact keep _ (.inl rfl)
  . rw[ae (by simpa using s),N0]
    refine Rx A (G.Ox E) ?_;cases hp:(pS f c).pick (f.pick== "keep") i.door c.now with
    |none=>
     rw[Lf];walk_at "evl";exact keep _ (.inr rfl)
    |some m=>
     rw[Le];walk_at "evl";obtain⟨⟨N,O⟩,_⟩:=G.fV (IT hp);have lT:c.T.length=c.K.length:=by rw[G.cT,bu]
     refine XJ A ∅ ∅ ∅ ?_
     have G1:=G.fE hK O N;have r:lk (c.fE f i m).K (bg f i)=some m:=BR;clear keep;unfold Ct;walk_at "evl";refine G1.begin tb E lv ∅ (zy G.s0) (zy G.s2) C (G1.gX r C) r L (λx hx=>?_) λc' a g D F o H=>?_
     . rw[show(c.fE f i m).K=c.K++ [(bg f i,m)]from mz hK]at hx
       rcases dW.mp hx with z|z
       . exact .inr (J x z)
       . cases ib.mp z;exact .inl rfl
     unfold Cs;walk_at "ev";exact I _ c' a g D (w F o.nw) H (.inr ⟨m,rfl,G.lY hK (IT hp) o⟩)
theorem Gd.lead_out(G:Gd e ad f k d c tl M0 M)(tb:Tb e)(A:f.Ok)(lv:Lv c tl)(o:Nk c)(C:k<190)(r:i.Ok)(g:Wo i.kind wd)
 (l:∀v c' a z,Gd e ad f (k+1) d c' a M0 z->Lv c' a->Nk c'->r8 f i c v c'->Q v (LG e ad f c' z)):aw (P e) (n+6) 58 [.ref (ad 0),i.r,.str wd] (LG e ad f c M) Q:=by
 have w:=G.ij;rw[us (i:=58) (d:=tQ) rfl];simp only[tQ];unfold FF;walk_at "evl";rw[SH w];cases hB:lk c.B i.k with
 |none=>
  rw[Kp];unfold Cm;walk_at "evl";obtain⟨s,hs⟩:=Yt g;rw[C3,qyE,hs,show oS (some s)= .str s from rfl]
  unfold zg;walk_at "evl";unfold Ck;walk_at "evl";exact G.begin_out tb A lv o C (G.oj hB) ⟨vb g hs,r⟩ l
 |some x=>
  obtain⟨T,h,rfl,rfl⟩:=G.om hB;obtain⟨E,F⟩:=G.tk T h;rw[Ko];unfold Cm;walk_at "evl";rw[C3];walk_at "evl";rw[Mh];cases hs:nx T.i.kind (some T.st) "house" wd with
  |none=>
   rw[show oS none= .au from rfl]
   unfold zg;walk_at "evl";exact l _ _ _ _ (G.mono (n8 _) (aK _)) lv o (.inl ⟨.inl rfl,Sm.refl⟩)
  |some s=>
   rw[show oS (some s)= .str s from rfl]
   unfold zg;walk_at "evl";unfold Ck;walk_at "evl";unfold FE;walk_at "evl";refine KZ tb A (vb g hs).ws w F E λov D=>?_
   have G1:=G.lead (ov:=ov) h (vb g hs);have H:put M T.a (iG e T.i T.m s ov) T.a=some (iG e T.i T.m s ov):=bJ;unfold FC;walk_at "evl";exact l _ _ _ _ (G1.mono (n8 _) (aK _)) (lv.led D) o (.inr ⟨T.m,rfl,G.tG (G.tn T h) Sm.refl⟩)
end
section
variable {e:Env}{n:Nat}{M M0:RM}{Q:ao}{ad:Nat->Addr}{f:Fm}{i j:bH}{k d:Nat}{c c':Cn}{tl:List Tk}{t ov u m mo p q:Int}{v:RV}{st s1 wd kd:Str}{b x y:Addr}{T U:Tk}
theorem Wq(h:lk (outs tl m) κ=some x):∃T∈tl,T.m=m/\bE T.i=κ/\T.a=x:=by
 obtain⟨T,a,e1⟩:=aV.mp (gn h);obtain⟨a,l⟩:=dR.mp a;injection e1 with e1 g
 exact⟨T,a,ja l,e1,g⟩
theorem Gd.of_outer(G:Gd e ad f k d c tl M0 M):aw (P e) (n+1) 69 [.ref (ad 1),.str kd,.int m,.int p,.int q] (LG e ad f c M) Q=Q (vF (lk (outs tl m) (oK kd p q))) (LG e ad f c M):=by
 cases hN:lk c.N m with
 |none=>
  rw[RG G.ij hN];have:outs tl m= []:=by
   unfold outs;rw[zD.mpr λU a h=>bz.mp hN (by rw[<-ja h];exact G.tb U a)];rfl
  rw[this];rfl
 |some b=>
  obtain⟨b1,b2⟩:=G.nb _ (gn hN);exact RF G.ij hN b2 b1
abbrev pb(h d:Int):RV:=.tup [.str "in",.int h,.int d]
structure bW(f:Fm)(c c':Cn):Prop where
 ev:Ev (c.now+f.t3) c c'
 nw:c'.now=c.now
theorem bW.refl:bW f c c:=⟨Ev.refl rfl rfl,rfl⟩
def Y3(kd wd s:Str):Prop:=Sw kd s∨s= "shut"
theorem qye(h:Kw kd wd)(hx:nx kd (some s0) "far" wd=some st):Y3 kd wd st:=by
 rcases h with h|⟨rfl,rfl|rfl⟩
 . exact .inl (vb (.inl h) hx)
 . exact .inl (vb (.inr ⟨rfl,rfl⟩) hx)
 . unfold nx at hx
   rw[ae (by decide+kernel)]at hx
   unfold tm at hx;rw[ai rfl]at hx;split at hx
   . cases hx;exact .inr rfl
   . cases hx
theorem Gd.lead_in(G:Gd e ad f k d c tl M0 M)(tb:Tb e)(H:f.Ok)(lv:Lv c tl)(r:Nk c)(L:k<1000)(o:T∈tl)(O:Kw T.i.kind wd)(I:Q (kept "astray") (LG e ad f c M))(l:∀c' g a,Gd e ad f k d c' g M0 a->Lv c' g->Nk c'->bW f c c'->Q (pb T.i.house T.i.door) (LG e ad f c' a)):
 aw (P e) (n+5) 60 [.ref (ad 0),.ref T.a,.str wd] (LG e ad f c M) Q:=by
 have F:=G.ij;obtain⟨D,W⟩:=G.tk T o;have X:M T.a=some (gk e (.tup [.str T.i.kind,.int T.i.house,.int T.i.door,.int T.i.place,.int T.i.far]) (.int T.m) (.str T.st) (.int T.ov)):=D;clear D;rw[us (i:=60) (d:=tX) rfl];simp only[tX];unfold GU;walk_at "evl";unfold GS;walk_at "evl";rw[Mh];cases hs:nx T.i.kind (some T.st) "far" wd with
 |none=>rw[show oS none= .au from rfl];unfold Cr;walk_at "evl"
 |some s=>
  have lead:aw (P e) (n+4) 54 [.ref (ad 1),.ref T.a,.str s] (LG e ad f c M) λv a=>Q (pb T.i.house T.i.door) a:=by
   rcases qye O hs with z|rfl
   . exact KZ tb H z.ws F W X λov R=>l _ _ _ (G.lead (ov:=ov) o z) (lv.led R) r bW.refl
   . rw[us (i:=54) (d:=pC) rfl];simp only[pC];walk_at "evl"
     exact G.end_ L o λc' a E A Y C=>l _ _ _ E (λU J=>by rw[A];exact lv U (dR.mp J).1) (r.ended C) ⟨Ev.ended C (Int.le_refl _),A⟩
  have N:Q (pb T.i.house T.i.door) (LG e ad f c M):=l c tl M G lv r bW.refl;clear I l;rw[show oS (some s)= .str s from rfl]
  unfold Cr;walk_at "evl";unfold FK;walk_at "evl";rw[NV];unfold FJ;walk_at "evl";unfold FI;(try walk_at "evl")
  by_cases h:f.renew=true
  . rw[ai h];trivial
  . rw[ae h]
    by_cases w:s=T.st
    . rw[ae (by simpa using w)];first|exact N|trivial
    . rw[ai (by simpa using w)];trivial
noncomputable def Dk (p:Int):Option RO->RV
 |some (.ins _ ((_,.tup [_,_,_,.int q,_])::_))=>.bl (q==p)
 |_=>.au
def yV(M:RM)(p:Int):RV->RV
 | .ref a=>Dk p (M a)
 |_=>.au
theorem Gd.is_with(G:Gd e ad f k d c tl M0 M)(D:k<900)(E:m∈c.N.map (·.1))(A:∀b:Bool,Q (.bl b) (LG e ad f c M)):aw (P e) (n+1) 52 [.ref (ad 1),.int m,.int p] (LG e ad f c M) Q:=by
 have w:=G.ij;obtain⟨⟨l,b⟩,s,e1⟩:=aV.mp E;cases e1;obtain⟨b1,b2⟩:=G.nb _ s;have H:lk (eB c.N) (.inl l)=some (.ref b):=by rw[mG,vd G.d5 s];rfl
 have r:LG e ad f c M b=some (.dt (eA (outs tl l))):=(lo b2).trans b1;have g:∀T∈tl,LG e ad f c M T.a=some (mR e T):=λT a=>(lo (G.tk T a).2).trans (G.tk T a).1
 have F:LG e ad f c M (ad 1)=some (cA e ad f c.now):=lg w (Nat.le_of_ble_eq_true rfl);have C:LG e ad f c M (ad 6)=some (.dk (eB c.N)):=lg w (Nat.le_of_ble_eq_true rfl);generalize LG e ad f c M=L at r g F C A ⊢;rw[us (i:=52) (d:=tP) rfl];simp only[tP];walk_at "evs";unfold rV;simp only[r];have e0:jo false (eA (outs tl l))=(tl.filter λT=>decide (T.m=l)).map λT=>RV.ref T.a:=by unfold jo eA enc outs;rw[ae ⋯,bT,bT];rfl
 have z:∀T∈tl,yV L p (.ref T.a)= .bl (T.i.place==p):=λT a=>by
  show Dk p (L T.a)=_;rw[g T a];rfl
 rw[e0];refine⟨by rw[bu];exact jU (bR (jz _ _) G.s0) (fM D ⋯),jJ (bd:=gv false 1) (λ_=>true) (yV L p) bJ _ _ (λx hx=>?_) ?_⟩
 . obtain⟨T,a,rfl⟩:=aV.mp hx
   have a:=(dR.mp a).1;have h:=g T a;refine⟨[.ref T.a],rfl,λK o=>o,λ_ K o=>?_⟩
   rw[z T a]at o;have nb:T.a≠b:=G.m4 a s;show(tr ((P e).Gn n) _).E [some (.ref T.a),some (.int p)] _ K;walk_at "ev";rw[put_ne nb,h];walk_at "ev";unfold bH.r;walk_at "ev";exact o
 . show fv "any" [.ls ([]++(((tl.filter λT=>decide (T.m=l)).map λT=>RV.ref T.a).filter λ_=>true).map (yV L p))] (put (put L b (.ft _)) b (.dt _)) Q
   rw[eZ,uE r,List.nil_append,zt.mpr (λ_ _=>rfl),bT]
   rw[show List.map (yV L p ∘ λT=>RV.ref T.a) (tl.filter λT=>decide (T.m=l))=((tl.filter λT=>decide (T.m=l)).map λT=>T.i.place==p).map RV.bl by rw[bT];exact mS λT a=>z T (dR.mp a).1]
   rw[Yz];exact A _
theorem NS:bM f.r (.int 3) M Q=Q (.str f.sieve) M:=bq.trans (by rw[B0];rfl)
theorem Gd.lets(G:Gd e ad f k d c tl M0 M)(g:k<900)(h:m∈c.N.map (·.1))(a:∀b:Bool,Q (.bl b) (LG e ad f c M)):aw (P e) (n+2) 61 [.ref (ad 0),.int p,.int m] (LG e ad f c M) Q:=by
 have s:=G.ij;have l:aw (P e) (n+1) 52 [.ref (ad 1),.int m,.int p] (LG e ad f c M) Q:=G.is_with g h a;have o:=a true;have r:=a false;clear a;rw[us (i:=61) (d:=t8) rfl];simp only[t8];walk_at "evl";rw[NS];walk_at "evl";cases z1:(f.sieve==("all":Str))with
 |true=>rw[ai rfl];first|exact o|trivial
 |false=>
  rw[ae ⋯]
  cases z2:(f.sieve==("place":Str))with
  |true=>rw[ai rfl];first|exact l|trivial
  |false=>rw[ae ⋯];first|exact r|trivial
def B2:Option TK->RV
 |some h=>cE h
 |none=>.au
theorem Yg:B2 none= .au:=rfl
theorem Gd.sifted(G:Gd e ad f k d c tl M0 M)(H:Nk c)(hk:k<900)(I:Q (kept "nobody") (LG e ad f c M))(w:Q (kept "sieve") (LG e ad f c M))(z:∀h d,gZ c m h d->Q (pb h d) (LG e ad f c M)):
 aw (P e) (n+3) 67 [.ref (ad 0),.str kd,.int p,.int m] (LG e ad f c M) Q:=by
 have A:=G.ij;have l:∀{K:ao},aw (P e) (n+2) 32 [.ref (ad 1),.int m] (LG e ad f c M) K=K (B2 (lk c.H m)) (LG e ad f c M):=λ{K}=>by
  rw[us (i:=32) (d:=ua) rfl];simp only[ua];walk_at "evl";rw[LQ];cases lk c.H m<;>rfl
 rw[us (i:=67) (d:=t6) rfl];simp only[t6];walk_at "evl"
 (try rw[l])
 cases eh:lk c.H m with
 |none=>rw[eh]at l;simp only[Yg];walk_at "evl"
 |some h=>
  have g:(h,m)∈c.K:=by
   have:=gn eh;rw[G.cH]at this;obtain⟨x,hx,e1⟩:=aV.mp this;injection e1 with e1 C
   rw[<-e1,<-C];exact hx
  obtain⟨⟨i,D⟩,_⟩:=G.hk _ g;obtain⟨a,b,E⟩:=rm (f:=f) (i:=i);have r:h= [some (.inr i.kind),some (.inl i.house),some (.inl i.door),a,b]:=D.trans E;have J:=z i.house i.door ⟨_,g,_,_,r⟩;have lets:∀K:ao,(∀b:Bool,K (.bl b) (LG e ad f c M))->aw (P e) (n+2) 61 [.ref (ad 0),.int p,.int m] (LG e ad f c M) K:=λK F=>G.lets hk (H _ g) F
  subst r;clear z;simp only[show B2 (some [some (.inr i.kind),some (.inl i.house),some (.inl i.door),a,b])= .tup [.str i.kind,.int i.house,.int i.door,oR a,oR b]from rfl]
  walk_at "ev"
  by_cases o:i.kind=kd
  . subst o
    rw[ae (by simp)]
    by_cases s:i.kind= "line"
    . rw[ai (by simpa using s)];exact w
    . rw[ae (by simpa using s)]
      rw[show LG e ad f c M (ad 0)=some (cG e ad f)from lg A (Nat.le_of_ble_eq_true rfl)];walk_at "ev"
      refine lets _ λb=>?_
      cases b with
      |true=>walk_at "ev";exact J
      |false=>walk_at "ev";exact w
  . rw[ai (by simpa using o)];exact I
def BY(c:Cn)(m:Int)(v:RV):Prop:=v=kept "nobody"∨v=kept "sieve"∨v=kept "astray"∨∃h d,v=pb h d/\gZ c m h d
theorem Gd.come_in(G:Gd e ad f k d c tl M0 M)(tb:Tb e)(D:f.Ok)(lv:Lv c tl)(g:Nk c)(F:k<900)(w:f.low<=m/\m<=f.high)(H:Kw kd wd)
 (o:∀v c' a r,Gd e ad f k d c' a M0 r->Lv c' a->Nk c'->bW f c c'->BY c m v->Q v (LG e ad f c' r)):aw (P e) (n+6) 70 [.ref (ad 0),.str kd,.int p,.int q,.int m,.str wd] (LG e ad f c M) Q:=by
 have C:=G.ij;rw[us (i:=70) (d:=tY) rfl];simp only[tY];unfold He;walk_at "evl";rw[G.of_outer];cases hn:lk (outs tl m) (oK kd p q)with
 |some x=>
  obtain⟨T,s,rfl,l,rfl⟩:=Wq hn;have e1:T.i.kind=kd:=by
   unfold bE oK at l;injection l with l _
   injection l with l
   injection l
  subst e1;rw[Ko];(try walk_at "evl");unfold CB;walk_at "evl";exact G.lead_in tb D lv g ∅ s H (o _ _ _ _ G lv g bW.refl (.inr (.inr (.inl rfl)))) λc' a r A I J E=>o _ _ _ _ A I J E (.inr (.inr (.inr ⟨_,_,rfl,G.gP (G.tn T s)⟩)))
 |none=>
  rw[Kp];(try walk_at "evl");unfold CB;walk_at "evl";unfold Hc;walk_at "evl";rw[Mi (lg C (Nat.le_of_ble_eq_true rfl)),show(decide (f.low<=m)&&decide (m<=f.high))=true by rw[fg w.1,fg w.2];rfl]
  walk_at "evl";exact G.sifted (n:=n+2) g F (o _ _ _ _ G lv g bW.refl (.inl rfl)) (o _ _ _ _ G lv g bW.refl (.inr (.inl rfl))) λh d z=>o _ _ _ _ G lv g bW.refl (.inr (.inr (.inr ⟨h,d,rfl,z⟩)))
end
section
variable {e:Env}{n:Nat}{M M0 L:RM}{Q:ao}{ad:Nat->Addr}{f:Fm}{i j:bH}{k d k' d':Nat}{c:Cn}{tl:List Tk}{t ov u m mo p q:Int}{v:RV}{st s1 wd kd:Str}{a b x y g:Addr}{T U:Tk}{o o':RO}
theorem Qy{nm:Str}{ps:LR}{L:RM}{g dn:Addr}{A N rs O:RV}{post:RV->RM->Prop}(R:L g=some (bL e A N rs (.ref dn) O))(H:∀Q:ao,Q (.bl true) L->aw (P e) (n+8) 13 [.tup (.str nm::ps)] L Q)
 (F:∀K:ao,(∀v M2,post v M2->K v M2)->aw (P e) (n+8) 57 [.ref g,.str nm,.tup ps] L K)
 (J:∀v M2,post v M2->∃l s r w h,M2 g=some (bL e l s r (.ref dn) w)/\M2 dn=some (.lst h)/\h.length<1000/\Q v (put M2 dn (.lst (h++ [.tup [.tup (.str nm::ps),v]])))):aw (P e) (n+9) 36 [.ref g,.tup (.str nm::ps)] L Q:=by
 rw[us (i:=36) (d:=uz) rfl];simp only[uz];walk_at "ev";refine H _ ?_;walk_at "evs";rw[Gx];refine F _ λv M2 I=>?_
 obtain⟨l,s,r,w,h,C,z,D,E⟩:=J v M2 I;rw[C];walk_at "ev";rw[z];walk_at "ev";exact⟨h,_,rfl,z,fM D ⋯,E⟩
variable {fr rt rs rdd wi:RV}{ps:LR}{k1 k2 k3 k4 k5 k6:RV}
theorem qza(h:L g=some (bL e fr rt rs rdd wi)):aw (P e) (n+1) 57 [.ref g,.str "out",.tup ps] L Q=aw (P e) n 38 [.ref g,.tup ps] L Q:=by
 rw[us (i:=57) (d:=ma) rfl];simp only[ma];unfold yL;walk_at "evs"
theorem YB(h:L g=some (bL e fr rt rs rdd wi)):aw (P e) (n+1) 57 [.ref g,.str "come",.tup [k1,k2,k3,k4,k5,k6]] L Q=aw (P e) n 70 [.ref g,k1,k2,k3,k4,k5] L Q:=by
 rw[us (i:=57) (d:=ma) rfl];simp only[ma];unfold yL;walk_at "evs";rw[ae (by decide+kernel)];unfold Cq;walk_at "evs"
theorem NM{nm:Str}(h:(nm==("out":Str))=false)(l:(nm==("come":Str))=false):aw (P e) (n+1) 57 [.ref g,.str nm,.tup ps] L Q=(tr ((P e).Gn n) Cp).S (rd Q) [some (.ref g),some (.str nm),some (.tup ps),none,none,none,none,none,none] L:=by
 rw[us (i:=57) (d:=ma) rfl];simp only[ma];unfold yL;walk_at "ev";rw[ae (by rw[h];decide)];unfold Cq;walk_at "ev"
 rw[ae (by rw[l];decide)]
theorem YA{h l r s w z v7:RV}(A:L g=some (bL e fr (.ref tt) rs rdd wi))(C:L tt=some (bP e h l r s w z v7)):aw (P e) (n+1) 57 [.ref g,.str "wait",.tup [k1]] L Q=aw (P e) n 34 [.ref tt,k1] L λ_ M1=>Q .au M1:=by
 rw[NM (by decide+kernel) (by decide+kernel)];unfold Cp;walk_at "ev"
 rw[ae (by decide+kernel)];unfold FH;walk_at "evs"
theorem Gd.m9{nm:Str}{post:RV->Cn->List Tk->Prop}(G:Gd e ad f k d c tl M0 M)(D:∀Q:ao,Q (.bl true) (LG e ad f c M)->aw (P e) (n+8) 13 [.tup (.str nm::ps)] (LG e ad f c M) Q)(E:d<1000)
 (C:∀K:ao,(∀v l h r,Gd e ad f k' d l h M0 r->post v l h->K v (LG e ad f l r))->aw (P e) (n+8) 57 [.ref (ad 0),.str nm,.tup ps] (LG e ad f c M) K)
 (F:∀v l h r x,Gd e ad f k' (d+1) { l with ds:=x } h M0 r->post v l h->Q v (LG e ad f { l with ds:=x } r)):aw (P e) (n+9) 36 [.ref (ad 0),.tup (.str nm::ps)] (LG e ad f c M) Q:=by
 have z:=G.ij;refine Qy (dn:=ad 9) (post:=λv L=>∃l h r,L=LG e ad f l r/\Gd e ad f k' d l h M0 r/\post v l h) (lg z (Nat.le_of_ble_eq_true rfl)) D (λK A=>C K λv l h r w s=>A _ _ ⟨l,h,r,rfl,w,s⟩) λv H s=>?_
 obtain⟨l,h,r,rfl,w,s⟩:=s;refine⟨_,_,_,_,l.ds,lg z (Nat.le_of_ble_eq_true rfl),lg z (Nat.le_of_ble_eq_true rfl),jU w.s4 E,?_⟩;rw[lp z (Nat.le_of_ble_eq_true rfl)];exact F v l h r _ w.book s
noncomputable def Gt (e:Env)(g:Addr)(f:Fm)(k d:Nat)(c:Cn)(tl:List Tk)(M0 L:RM):Prop:=(Lv c tl/\Nk c)/\∃ad M,Gd e ad f k d c tl M0 M/\L=LG e ad f c M/\ad 0=g
theorem Gt.of(G:Gd e ad f k d c tl M0 M)(lv:Lv c tl)(h:Nk c):Gt e (ad 0) f k d c tl M0 (LG e ad f c M):=⟨⟨lv,h⟩,ad,M,G,rfl,rfl⟩
theorem Gt.at_(h:Gt e g f k d c tl M0 L)(ha:M0 a=some o):L a=some o:=by
 obtain⟨_,ad,M,G,rfl,_⟩:=h;obtain⟨h1,h2,_⟩:=G.fr a o ha;exact(lo h2).trans h1
theorem Gt.other(h:Gt e g f k d c tl M0 L)(C:M0 a=some o):Gt e g f k d c tl (put M0 a o') (put L a o'):=by
 obtain⟨D,ad,M,G,rfl,E⟩:=h;obtain⟨F,s,w,A⟩:=G.fr a o C;refine⟨D,ad,put M a o',{ G with tk:=λT r=>⟨(put_ne (w T r)).trans (G.tk T r).1,(G.tk T r).2⟩,nb:=λx hx=>⟨(put_ne (A x hx)).trans (G.nb x hx).1,(G.nb x hx).2⟩,fr:=λb u l=>?_ },lop s,E⟩
 by_cases z:b=a
 . subst z;rw[bJ]at l;cases l;exact⟨bJ,s,w,A⟩
 . rw[put_ne z]at l ⊢;exact G.fr b u l
theorem Gt.new(h:Gt e g f k d c tl M0 L)(D:L a=none):Gt e g f k d c tl (put M0 a o) (put L a o):=by
 obtain⟨E,ad,M,G,rfl,F⟩:=h;obtain⟨w,s⟩:=of_none G.ij rfl D;have A:∀T∈tl,T.a≠a:=λT l=>BP s (G.tk T l).1
 have C:∀x∈c.N,x.2≠a:=λx hx=>BP s (G.nb x hx).1
 refine⟨E,ad,put M a o,{ G with tk:=λT l=>⟨(put_ne (A T l)).trans (G.tk T l).1,(G.tk T l).2⟩,nb:=λx hx=>⟨(put_ne (C x hx)).trans (G.nb x hx).1,(G.nb x hx).2⟩,fr:=λb u r=>?_ },lop w,F⟩
 by_cases z:b=a
 . subst z;rw[bJ]at r;cases r;exact⟨bJ,w,A,C⟩
 . rw[put_ne z]at r ⊢;exact G.fr b u r
theorem Gt.gate(h:Gt e g f k d c tl M0 L):∃rt rs rd,L g=some (bL e f.r rt rs rd .au):=by
 obtain⟨_,ad,M,G,rfl,rfl⟩:=h;exact⟨_,_,_,lg G.ij (Nat.le_of_ble_eq_true rfl)⟩
theorem Gt.out(h:Gt e g f k d c tl M0 L)(tb:Tb e)(J:f.Ok)(R:k<190)(Y:d<900)(l:i.Ok)(ho:Wo i.kind wd)
 (W:∀v w r F,Gt e g f (k+1) (d+1) w r M0 F->r8 f i c v w->Q v F):aw (P e) (n+10) 72 [.ref g,.str i.kind,.int i.house,.int i.door,.int i.place,.int i.far,.str wd,.str ""] L Q:=by
 obtain⟨⟨lv,X⟩,ad,M,G,rfl,rfl⟩:=h;have H:=G.ij;have Z:=l.place;rw[us (i:=72) (d:=um) rfl];simp only[um];walk_at "evl";refine G.m9 (k':=k+1) (post:=λv w r=>(Lv w r/\Nk w)/\r8 f i c v w) (λQ O=>Bl tb.out (Uj ho.kw l.house l.door ⟨∅,∅⟩ l.far O)) ∅ (λK N=>?_) λv w r I x A z=>W _ _ _ _ (Gt.of A z.1.1 z.1.2) ?_
 . rw[qza (lg H (Nat.le_of_ble_eq_true rfl))]
   rw[us (i:=38) (d:=ux) rfl];simp only[ux];walk_at "evl";rw[show RV.tup [.str i.kind,.int i.house,.int i.door,.int i.place,.int i.far]=i.r from rfl]
   refine G.lead_out tb J lv X R l ho λv w r I A D E z=>?_
   (try walk_at "evl")
   rw[ai (by simp;omega)]
   exact N _ _ _ _ A ⟨⟨D,E⟩,z⟩
 . rcases z.2 with⟨C,s⟩|⟨m,C,s⟩
   . exact .inl ⟨C,s.K,s.U,s.nw⟩
   . exact .inr ⟨m,C,s.mr,s.ho,s.old,s.ev,s.nw⟩
theorem Gt.come(h:Gt e g f k d c tl M0 L)(tb:Tb e)(z:f.Ok)(Z:k<190)(Y:d<900)(R:f.low<=m/\m<=f.high)(s:1<=p/\p<=1000000)(A:1<=q/\q<=9999)(F:Kw kd wd)
 (W:∀v r l E,Gt e g f k (d+1) r l M0 E->bW f c r->BY c m v->Q v E):aw (P e) (n+9) 36 [.ref g,.tup [.str "come",.str kd,.int p,.int q,.int m,.str wd,.str ""]] L Q:=by
 obtain⟨⟨lv,X⟩,ad,M,G,rfl,rfl⟩:=h;have H:=G.ij;have lo:=z.lo;have hi:=z.hi;refine G.m9 (k':=k) (post:=λv r l=>(Lv r l/\Nk r)/\bW f c r/\BY c m v) (λQ O=>Bl tb.come (Tc F s A ⟨∅,∅⟩ O)) ∅ (λK N=>?_) λv r l I x w s=>W _ _ _ _ (Gt.of w s.1.1 s.1.2) ⟨s.2.1.ev,s.2.1.nw⟩ s.2.2
 rw[YB (lg H (Nat.le_of_ble_eq_true rfl))];exact G.come_in tb z lv X ∅ R F λv r l I w C D J cp=>N _ _ _ _ w ⟨⟨C,D⟩,J,cp⟩
theorem Gt.wait(h:Gt e g f k d c tl M0 L)(tb:Tb e)(C:M0 e.lP=some (cY e))(A:k<64)(Z:d<900)(s:0<=t)(z:t<=1000000)(X:∀r l E,Gt e g f k (d+1) r l M0 E->r.now=c.now+t->Ev (c.now+1+f.t3) c r->Q .au E):aw (P e) (n+10) 37 [.ref g,.int t] L Q:=by
 obtain⟨⟨lv,Y⟩,ad,M,G,rfl,rfl⟩:=h;have D:=G.ij;rw[us (i:=37) (d:=uw) rfl];simp only[uw];walk_at "evl";refine G.m9 (k':=k) (post:=λv r l=>(Lv r l/\Nk r)/\v= .au/\r.now=c.now+t/\Ev (c.now+1+f.t3) c r) (λQ J=>Bl tb.wait (S7 s z J)) ∅ (λK I=>?_) λv r l F x w W=>by
  obtain⟨s,rfl,z,H⟩:=W;exact X _ _ _ (Gt.of w s.1 s.2) z H
 rw[YA (lg D (Nat.le_of_ble_eq_true rfl)) (lg D (Nat.le_of_ble_eq_true rfl))];exact S5 G A lv C λc' l F w hs R _ O A=>I _ _ _ _ w ⟨⟨λT N=>(hs T N).2,A Y⟩,rfl,R,O⟩
theorem Gt.moment(h:Gt e g f k d c tl M0 L)(r:Q (.int c.now) L):aw (P e) (n+1) 19 [.ref g] L Q:=by
 obtain⟨_,ad,M,G,rfl,rfl⟩:=h;have l:=G.ij;rw[us (i:=19) (d:=t7) rfl];simp only[t7];walk_at "evl"
end
section
variable {e:Env}{n:Nat}{M:RM}{Q:ao}{g t pl ta un bi bn ho nu:Addr}
def B6:RV->RV
 | .tup [k,.tup r]=>.tup (k::r)
 |x=>x
theorem VI{rs rd A j k l z h:RV}{hs:List (Int×TK)}(C:M g=some (bL e f (.ref t) rs rd A))(D:M t=some (bP e fr z h j k (.ref ho) l))(m:M ho=some (.dk (eH hs)))(o:hs.length<64)(a:∀x∈hs,x.2.length<100)(s:pU (hs.map λx=>some (.inl x.1)::x.2)=true)
 (u:Q (.ls ((mF (hs.map λx=>some (.inl x.1)::x.2)).map cE)) M):aw (P e) (n+1) 20 [.ref g] M Q:=by
 rw[us (i:=20) (d:=tM) rfl];simp only[tM];walk_at "evs";unfold qj;simp only[m];refine⟨by unfold gF eH;rw[bu,iW];exact fM o ⋯,jJ (λ_=>true) B6 bJ _ _ (λx hx=>?_) ?_⟩
 . obtain⟨E,c,rfl⟩:=aV.mp hx
   obtain⟨y,v,rfl⟩:=aV.mp c;have w:=a y v;show ∃r,gv true 2 (.tup [.int y.1,cE y.2])=some r/\_;refine⟨_,rfl,λK b=>?_,λ_ K b=>?_⟩
   . exact b
   . unfold cE
     walk_at "ev";refine⟨?_,b⟩;rw[bu];exact bR (show 1+y.2.length<=200 by omega) ⋯
 . show fv "sorted" [.ls ([]++((gF (eH hs)).filter λ_=>true).map B6)] (put (put M ho (.fk (eH hs))) ho (.dk (eH hs))) Q
   rw[eZ,uE m,List.nil_append,zt.mpr (λ_ _=>rfl),WK]
   have e1:(gF (eH hs)).map B6=(hs.map λx=>some (.inl x.1)::x.2).map cE:=by
    unfold gF eH enc;rw[bT,bT,bT];rfl
   rw[e1];exact TN (by rw[bu];exact o) s u
theorem Jk:∀a:TK,qw a a=true
 | []=>rfl
 |x::xs=>by unfold qw;rw[ai rfl];exact Jk xs
end
section
variable {e:Env}{n:Nat}{M M0 L:RM}{Q:ao}{f:Fm}{k d:Nat}{c:Cn}{tl:List Tk}{g:Addr}{T:Tk}
def nR(x:TK×Int):TK:=some (.inl x.2)::x.1
theorem Vd{l:List (TK×Int)}(m:(l.map (·.2)).Nodup):pU (l.map nR)=true:=by
 unfold pU;rw[aU,sC];refine⟨.inl ?_,?_⟩
 . rw[List.all_map,ff];exactλx _=>rfl
 . rw[ff]
   intro a h;rw[ff];intro b i;obtain⟨x,hx,rfl⟩:=aV.mp h;obtain⟨y,j,rfl⟩:=aV.mp i
   by_cases z:x.2=y.2
   . rw[fY m hx j z];exact Jk _
   . unfold nR qw
     rw[ae (by simpa using z)];rfl
def pR(c:Cn):List TK:=mF (c.K.map nR)
theorem Gt.lends(h:Gt e g f k d c tl M0 L)(hk:k<64)(j:Q (.ls ((pR c).map cE)) L):aw (P e) (n+1) 20 [.ref g] L Q:=by
 obtain⟨_,m,M,G,rfl,rfl⟩:=h;have e1:(c.H.map λx=>some (.inl x.1)::x.2)=c.K.map nR:=by rw[G.cH,bT];rfl
 refine VI (hs:=c.H) (lg G.ij (Nat.le_of_ble_eq_true rfl)) (lg G.ij (Nat.le_of_ble_eq_true rfl)) (lg G.ij (Nat.le_of_ble_eq_true rfl)) ?_ (λx hx=>?_) ?_ ?_
 . rw[G.cH,bu];exact jU G.s1 hk
 . rw[G.cH]at hx
   obtain⟨y,l,rfl⟩:=aV.mp hx;obtain⟨⟨i,h⟩,_⟩:=G.hk y l;obtain⟨a,b,e1⟩:=rm (f:=f) (i:=i);show y.1.length<100;rw[h,e1];exact Nat.le_of_ble_eq_true rfl
 . rw[e1];exact Vd G.d3
 . rw[e1];exact j
end
section
variable {e:Env}{n:Nat}{M:RM}{Q:ao}{f:Fm}{i:bH}
theorem iT{ad:Nat->Addr}{os:List RO}{x:Addr}{k:Nat}(H:Ij ad k)(F:∀j,j<k->M (ad j)=none)(l:os.length=k)(hx:lay ad 0 os M x=none):∃b,(∀j,j<k->ad j=b j)/\b k=x/\Ij b (k+1)/\(∀j,j<k+1->M (b j)=none)/\∀o,put (lay ad 0 os M) x o=lay b 0 (os++ [o]) M:=by
 obtain⟨a,c,d,g,h⟩:=Oi H l hx;refine⟨a,c,d,g,λj m=>?_,h⟩
 by_cases z:j<k
 . rw[<-c j z];exact F j z
 . rw[show j=k by omega,d];exact AK hx
theorem Vq{ad:Nat->Addr}{os:List RO}{r s d:RO}(H:Ij ad 12)(a:os.length=9):lay ad 0 (os++ [r,s,d]) M=lay (λj=>if j=9 then ad 11 else if j=10 then ad 9 else if j=11 then ad 10 else ad j) 0 (os++ [d,r,s]) M:=by
 have c:ad 11≠ad 10:=λz=>by have:=H 11 10 ⋯ ⋯ z;omega
 have g:ad 11≠ad 9:=λz=>by have:=H 11 9 ⋯ ⋯ z;omega
 rw[show os++ [r,s,d]=((os++ [r])++ [s])++ [d] by simp,show os++ [d,r,s]=((os++ [d])++ [r])++ [s] by simp,nv,nv,nv,nv,nv,nv]
 simp only[eQ,bG,vR,a,Nat.reduceAdd,↓reduceIte,iI,Nat.reduceEqDiff];rw[uF c,uF g];exact Be λj b=>by
  rw[a]at b;show _=if j=9 then ad 11 else if j=10 then ad 9 else if j=11 then ad 10 else ad j
  rw[ae ∅,ae ∅,ae ∅]
abbrev zR(f:Fm):Cn:=⟨0,f.low,[],[],[],[],[],[],[]⟩
noncomputable def Gr (e:Env)(g:Addr)(f:Fm)(c M:RM):Prop:=∃b,M=LG e b f (zR f) c/\Ij b 12/\b 0=g/\∀a o,c a=some o->Of b 12 a
theorem Uv{x:Addr}(br:f.Ok)(hx:M x=none)(hq:∀M',Gr e x f M M'->Q .au M'):aw (P e) (n+6) 35 [.ref x,f.r] (put M x (.ins (e.C 4) [])) Q:=by
 rw[us (i:=35) (d:=uy) rfl];simp only[uy];unfold FQ;walk_at "ev";refine Ta br ?_;obtain⟨D,_,rfl,H1,J,e1⟩:=iT (ad:=λ_=>x) (os:=[]) (M:=M) (k:=0) (λi j hi=>ba hi (sF _)) (λj g=>ba g (sF _)) rfl hx
 rw[show put M (D 0) (.ins (e.C 4) [])=lay D 0 ([]++ [.ins (e.C 4) []]) M from e1 _]
 unfold FP;walk_at "evl";unfold FO;walk_at "evl";intro t ht;obtain⟨a2,h2,rfl,Z,L,e2⟩:=iT (k:=1) H1 J rfl ht;rw[e2];clear e1 e2 H1 J ht;rw[us (i:=29) (d:=tJ) rfl];simp only[tJ];unfold Fy;walk_at "evl";unfold Gq;walk_at "evl";rw[CY,CZ];intro y b;obtain⟨a3,h3,rfl,H3,N,e3⟩:=iT (k:=2) Z L rfl b;rw[e3];clear e3 Z L b;rw[us (i:=49) (d:=ur) rfl];simp only[ur];walk_at "evl";intro y b;obtain⟨a4,h4,rfl,H4,O,e4⟩:=iT (k:=3) H3 N rfl b;rw[e4];clear e4 H3 N b;walk_at "evl";intro y b;obtain⟨a5,h5,rfl,H5,R,e5⟩:=iT (k:=4) H4 O rfl b;rw[e5];clear e5 H4 O b;walk_at "evl";unfold Gp;walk_at "evl";unfold Gm;walk_at "evl";intro y b;obtain⟨a6,h6,rfl,H6,U,e6⟩:=iT (k:=5) H5 R rfl b;rw[e6];clear e6 H5 R b
 (try walk_at "evl")
 unfold Gk;walk_at "evl";intro y b;obtain⟨a7,h7,rfl,H7,W,e7⟩:=iT (k:=6) H6 U rfl b;rw[e7];clear e7 H6 U b
 (try walk_at "evl")
 unfold Gj;walk_at "evl";intro y b;obtain⟨a8,h8,rfl,H8,X,e8⟩:=iT (k:=7) H7 W rfl b;rw[e8];clear e8 H7 W b
 (try walk_at "evl")
 unfold Gi;walk_at "evl";intro y b;obtain⟨a9,h9,rfl,H9,Y,e9⟩:=iT (k:=8) H8 X rfl b;rw[e9];clear e9 H8 X b;walk_at "evl";unfold FN;walk_at "evl";intro y b;obtain⟨a10,E,rfl,m,h,u⟩:=iT (k:=9) H9 Y rfl b;rw[u];clear u H9 Y b;rw[us (i:=16) (d:=tL) rfl];simp only[tL];walk_at "evl";intro y b;obtain⟨a11,F,rfl,r,l,v⟩:=iT (k:=10) m h rfl b;rw[v];clear v m h b;walk_at "evl";unfold FL;walk_at "evl";intro y b;obtain⟨c,H,rfl,s,C,w⟩:=iT (k:=11) r l rfl b;rw[w];clear w r l b
 (try walk_at "evl")
 unfold GR;walk_at "evl";have e0:D 0=c 0:=by rw[h2 0 ⋯,h3 0 ⋯,h4 0 ⋯,h5 0 ⋯,h6 0 ⋯,h7 0 ⋯,h8 0 ⋯,h9 0 ⋯,E 0 ⋯,F 0 ⋯,H 0 ⋯]
 refine hq _ ⟨λj=>if j=9 then c 11 else if j=10 then c 9 else if j=11 then c 10 else c j,(Vq (os:=[_,_,_,_,_,_,_,_,_]) s rfl).trans rfl,λi j hi g z=>?_,e0.symm,λa o ha j g z=>?_⟩
 . have q:∀i,i<12->∃k,k<12/\(if i=9 then c 11 else if i=10 then c 9 else if i=11 then c 10 else c i)=c k/\(i=9/\k=11∨i=10/\k=9∨i=11/\k=10∨i<9/\k=i):=λi hi=>by
    by_cases p:i=9
    . exact⟨11,⋯,by rw[ai p],.inl ⟨p,rfl⟩⟩
    . by_cases A:i=10
      . exact⟨9,⋯,by rw[ae p,ai A],.inr (.inl ⟨A,rfl⟩)⟩
      . by_cases I:i=11
        . exact⟨10,⋯,by rw[ae p,ae A,ai I],.inr (.inr (.inl ⟨I,rfl⟩))⟩
        . exact⟨i,hi,by rw[ae p,ae A,ae I],.inr (.inr (.inr ⟨∅,rfl⟩))⟩
   obtain⟨k1,q1,q2,q3⟩:=q i hi;obtain⟨k2,q4,q5,q6⟩:=q j g;have z:c k1=c k2:=by rw[<-q2,<-q5];exact z
   have:=s k1 k2 q1 q4 z;omega
 . have q:∀j,j<12->a≠c j:=λj g z=>by have:=C j g;rw[<-z,ha]at this;cases this
   dsimp only at z;split at z
   . exact q 11 ⋯ z.symm
   . split at z
     . exact q 9 ⋯ z.symm
     . split at z
       . exact q 10 ⋯ z.symm
       . exact q j g z.symm
theorem Gr.gt{g:Addr}(h:Gr e g f M0 M)(d:f.Ok):Gt e g f 0 0 (zR f) [] M0 M:=by
 obtain⟨c,rfl,H,rfl,h⟩:=h;refine⟨⟨fz _,fz _⟩,c,M0,?_,rfl,rfl⟩;exact { ij:=H,cB:=rfl,cT:=rfl,cH:=rfl,tk:=fz _,nb:=fz _,fr:=λa o b=>⟨b,h a o b,fz _,fz _⟩,d1:=mY,d2:=mY,d3:=mY,d4:=mY,d5:=mY,d6:=mY,od:=fz _,tn:=fz _,tb:=fz _,hk:=fz _,ws:=fz _,mr:=⟨Int.le_refl _,d.le⟩,s0:=aK _,s1:=aK _,s2:=aK _,s3:=aK _,s4:=aK _ }
end
section
variable {e:Env}{n:Nat}{M:RM}{Q:ao}
theorem Ia{xs:List Int}{k:Nat}:aw (P e) (n+1) 40 [.ls (xs.map RV.int),.int k] M Q=Q (.int (xs.getD k 0)) M:=by
 rw[us (i:=40) (d:=xj) rfl];simp only[xj];walk_at "ev";rw[bu]
 by_cases h:k<xs.length
 . rw[ai (by simpa using h),i0 (v:=RV.int (xs.getD k 0)) (by simp[h])]
   rfl
 . rw[ae (by simpa using h)]
   simp[Nat.le_of_not_lt h]
structure bS where
 a:Int
 b:Int
 c:Int
def bS.l(g:bS):RO:=.lst [.int g.a,.int g.b,.int g.c]
structure bS.Ok(g:bS):Prop where
 a:0<=g.a
 b:0<=g.b/\g.b<2305843009213693951
 c:0<=g.c/\g.c<1000000
theorem R6{x:Addr}{g:bS}(hx:M x=some g.l)(c:0<g.a)(f:0<m)(a:m<1073741824)(b:Q (.int (g.a % m)) (put M x (bS.l ⟨g.a / m,g.b,g.c⟩))):aw (P e) (n+1) 42 [.ref x,.int m] M Q:=by
 unfold bS.l at hx;rw[us (i:=42) (d:=qY) rfl];simp only[qY];walk_at "evs";exact b
def vD:Int:=2305843009213693951
noncomputable def qyF (b c:Int):Int:=((((b+1000003*c) % vD)*((b+1000003*c) % vD)+7919*c ^ 2+5) % vD) ^ 3 % vD / 13
theorem pY{i j:Int}(a:-(2 ^ 64)<i)(b:i<2 ^ 64):ig i j:=.inl ⟨a,b⟩
theorem Rw{x:Addr}{g:bS}(hx:M x=some g.l)(f:g.Ok)(r:¬0<g.a)(s:0<m)(c:Q (.int (qyF g.b (g.c+1) % m)) (put M x (bS.l ⟨g.a,g.b,g.c+1⟩))):aw (P e) (n+1) 42 [.ref x,.int m] M Q:=by
 obtain⟨_,⟨b1,b2⟩,h,j⟩:=f;unfold bS.l at hx;rw[us (i:=42) (d:=qY) rfl];simp only[qY];walk_at "evs";have e1:=Int.emod_nonneg (g.b+1000003*(g.c+1)) (b:=2305843009213693951) ⋯
 have k:=Int.emod_lt_of_pos (g.b+1000003*(g.c+1)) (b:=2305843009213693951) ⋯
 have a:∀z:Int,(z % 2305843009213693951).natAbs<2 ^ 64:=λz=>by
  have l:=Int.emod_nonneg z (b:=2305843009213693951) ⋯
  have o:=Int.emod_lt_of_pos z (b:=2305843009213693951) ⋯
  omega
 exact⟨pY ⋯ ⋯,pY ∅ ∅,∅,pY ⋯ ⋯,a _,c⟩
def uV(a b:Int):bS:=⟨if 10 ^ 18<=a then a-10 ^ 18 else 0,a % vD,b⟩
theorem ZK:(10:Int) ^ Int.toNat 18=10 ^ 18:=rfl
theorem ym{c t:Int}(a:∀p,M p=none->Q (.ref p) (put M p (uV c t).l)):aw (P e) (n+1) 41 [.int c,.int t] M Q:=by
 rw[us (i:=41) (d:=xi) rfl];simp only[xi];walk_at "ev";refine⟨⋯,?_⟩
 rw[ZK];unfold uV bS.l at a
 by_cases h:(10:Int) ^ 18<=c
 . rw[ai (by simpa using h)]
   simp only[ai h]at a;exact⟨⋯,a⟩
 . rw[ae (by simpa using h)]
   simp only[ae h]at a;exact a
structure bS.In(g:bS)(k:Int):Prop where
 a:0<=g.a
 b:0<=g.b/\g.b<2305843009213693951
 c:0<=g.c/\g.c<=k
theorem uM{a m:Int}(b:0<m):0<=a % m/\a % m<m:=⟨Int.emod_nonneg _ ∅,Int.emod_lt_of_pos _ b⟩
theorem gh{x:Addr}{g:bS}(hx:M x=some g.l)(j:g.In k)(l:k<999999)(a:0<m)(b:m<1073741824)(f:∀v d,0<=v->v<m->bS.In d (k+1)->Q (.int v) (put M x d.l)):aw (P e) (n+1) 42 [.ref x,.int m] M Q:=by
 obtain⟨o1,c,i,o⟩:=j
 by_cases h:0<g.a
 . exact R6 hx h a b (f _ _ (uM a).1 (uM a).2 ⟨Int.ediv_nonneg o1 ∅,c,i,by show g.c<=k+1;omega⟩)
 . exact Rw hx ⟨o1,c,i,∅⟩ h a (f _ _ (uM a).1 (uM a).2 ⟨o1,c,by show 0<=g.c+1;omega,by show g.c+1<=k+1;omega⟩)
theorem p6{xs:LR}{v:Int}(h0:0<=v)(b:v<xs.length):∃y∈xs,∀{M:RM} {Q:ao},bM (.ls xs) (.int v) M Q=Q y M:=by
 obtain⟨j,rfl⟩:∃j:Nat,v=j:=⟨v.toNat,∅⟩
 have a:j<xs.length:=by omega
 refine⟨xs[j],List.getElem_mem _,λ{M Q}=>?_⟩
 rw[Li,i0 (v:=xs[j]) (by simp[a])];rfl
theorem LX{a:Int}:0<=a % 2305843009213693951/\a % 2305843009213693951<2305843009213693951:=uM ⋯
theorem xX:(uV c 0).In 0:=⟨by unfold uV;dsimp only;split<;>omega,LX,⟨Int.le_refl _,Int.le_refl _⟩⟩
theorem AG{ok:RM->Prop}{un:RM->RM}{te:aq}{tt:c7}{base:List (Option RV)}(I:LR->RM->Prop)(ht:∀σ M (K:Bool->RM->Prop),K true M->tt σ M K)(av:∀acc M,I acc M->ok M):∀(xs acc:LR) (M:RM),I acc M->
 (∀x∈xs,∀acc2 M,acc2.length<acc.length+xs.length->I acc2 M->∃bs,bd x=some bs/\∀K:ao,(∀v M',I (acc2++ [v]) M'->K v M')->te (bs.map some++base) M K)->
 (∀acc' M',acc'.length=acc.length+xs.length->I acc' M'->jQ md acc' (un M') Q)->gj bd md ok un tt te base xs acc M Q
 | [],acc,M,h,_,hq=>⟨av _ _ h,hq acc M rfl h⟩
 |x::xs,acc,M,h,hs,hq=>by
  obtain⟨bs,h1,h2⟩:=hs x (.head _) acc M (by rw[bG];omega) h
  refine⟨av _ _ h,?_⟩;rw[h1];refine ht _ _ _ ⟨λ_=>h2 _ λv M' h'=>AG I ht av xs _ M' h' (λy hy acc2 M2 hlt=>hs y (.tail _ hy) acc2 M2 (by rw[eQ]at hlt;rw[bG];have:acc2.length<acc.length+1+xs.length:=hlt;omega)) λacc' M'' hl h''=>hq acc' M'' ?_ h'',λz=>by cases z⟩
  rw[hl,eQ];show acc.length+1+xs.length=acc.length+(xs.length+1);omega
theorem vG(l:aA){v:Int}(h0:0<=v)(b:v<l.length):∃m∈l,∀{M:RM} {Q:ao},bM (.ls (l.map RV.str)) (.int v) M Q=Q (.str m) M:=by
 obtain⟨y,d,a⟩:=p6 (xs:=l.map RV.str) h0 (by rw[bu];exact b)
 obtain⟨m,c,rfl⟩:=aV.mp d;exact⟨m,c,a⟩
theorem Um{xs:List Int}(h0:0<=k)(f:k<1000)(hx:0<xs.length)(l:xs.length<1000)(b:∀p g,M p=none->bS.In g 0->Q (.ref p) (put M p g.l)):aw (P e) (n+2) 43 [.ls (xs.map RV.int),.int k] M Q:=by
 obtain⟨j,rfl⟩:∃j:Nat,k=j:=⟨k.toNat,∅⟩
 rw[us (i:=43) (d:=xk) rfl];simp only[xk];walk_at "ev";rw[bu]
 by_cases h:j<xs.length
 . rw[ai (by simpa using h),i0 (v:=RV.int (xs.getD j 0)) (by simp[h])]
   walk_at "ev";exact ym λp a=>b p _ a xX
 . rw[ae (by simpa using h)]
   refine⟨∅,?_⟩
   have c:j % xs.length<xs.length:=Nat.mod_lt _ hx;rw[show((j:Int) % (xs.length:Int))=((j % xs.length:Nat):Int)from by simp,i0 (v:=RV.int (xs.getD (j % xs.length) 0)) (by simp[c])]
   walk_at "ev";refine⟨⋯,⋯,ym λp a=>?_⟩
   unfold bS.l;walk_at "ev";refine⟨pY ⋯ ⋯,.inl ⟨∅,∅⟩,pY ⋯ ⋯,?_⟩
   generalize hw:uV _ 0=wb;have w:wb.In 0:=hw ▸ xX;exact b p ⟨wb.a,_ % _,wb.c⟩ a ⟨w.a,LX,w.c⟩
def zh(lo hi:Int)(y:RV):Prop:=∃m:Int,y= .int m/\lo<=m/\m<=hi
def BX(y:RV):Prop:=∃h d:Int,y= .tup [.int h,.int d]/\(0<=h/\h<=99)/\(1<=d/\d<=9999)
theorem Bk{x:Addr}{g:bS}{k N:Int}{z:Nat}(hz:z<10)(hN:0<N/\N<1073741824)(hx:M x=some g.l)(ok:g.In k)(hk:k<900000)(hq:∀acc g',acc.length=z->(∀y∈acc,zh 1 N y)->bS.In g' (k+z)->Q (.ls acc) (put M x g'.l)):
 gj (gv false 1) false ej id (tr ((P e).Gn (n+1)) (.b true)).T (tr ((P e).Gn (n+1)) (.op .Add (.i 1) (.ca 42 (.ec (.v 1) (.ec (.i N) .e0))))).E [some (.ref x)] (nums z) [] M Q:=by
 refine AG (λacc M'=>(∀y∈acc,zh 1 N y)/\∃g':bS,M'=put M x g'.l/\g'.In (k+acc.length)) (λσ M K h=>h) (λ_ _ _=>iz) _ _ _ ⟨fz _,g,(uE hx).symm,by show g.In (k+0);rwa [Int.add_zero]⟩ (λy hy acc M' hlt h=>?_) λacc' M' hl h=>?_
 . obtain⟨h1,g',rfl,h3⟩:=h
   refine⟨[y],rfl,λK hK=>?_⟩
   show(tr ((P e).Gn (n+1)) _).E [some y,some (.ref x)] _ K;have hlt:acc.length<0+(nums z).length:=hlt;rw[mm]at hlt;walk_at "ev";refine gh (n:=n) bJ h3 ∅ hN.1 hN.2 λv1 g1 a1 b1 o1=>?_
   rw[eZ,f7];refine hK _ _ ⟨λz hz=>?_,g1,rfl,⟨o1.a,o1.b,o1.c.1,by have:=o1.c.2;rw[eQ];show g1.c<=k+((acc.length+1:Nat):Int);omega⟩⟩
   rcases dW.mp hz with q|q
   . exact h1 z q
   . cases ib.mp q;exact⟨1+v1,rfl,∅,∅⟩
 . obtain⟨h1,g',rfl,h3⟩:=h
   have hl:acc'.length=0+(nums z).length:=hl;rw[mm,iI]at hl;rw[hl]at h3;rw[yg,id_eq];exact hq acc' g' hl h1 h3
theorem WV:wu "tuple" [.ls xs] M Q=Q (.tup xs) M:=rfl
theorem bS.In.le{g:bS}{a b:Int}(h:g.In a)(c:a<=b):g.In b:=⟨h.a,h.b,h.c.1,by have:=h.c.2;omega⟩
theorem Uo{x:Addr}{g:bS}{road:Int}(hr:1<=road/\road<=9)(hx:M x=some g.l)(ok:g.In 5)(hq:∀f g',Fm.Ok f->2*road+1<=f.t3->bS.In g' 30->Q f.r (put M x g'.l)):aw (P e) (n+2) 44 [.ref x,.int road] M Q:=by
 rw[us (i:=44) (d:=xl) rfl];simp only[xl];unfold Hu;walk_at "z";refine gh (n:=n) hx ok ⋯ ⋯ ⋯ λv1 g1 a1 b1 ok1=>?_
 rw[f7];unfold Ht;walk_at "z";refine gh (n:=n) bJ ok1 ⋯ ∅ ∅ λv2 g2 a2 b2 ok2=>?_
 rw[eZ,f7]
 (try walk_at "ev")
 refine gh (n:=n) bJ ok2 ⋯ ⋯ ⋯ λv3 g3 a3 b3 ok3=>?_
 rw[eZ];obtain⟨y,hy,ey⟩:=p6 (xs:=[.int 1,.int (10000-(1+v1)),.int (1+v2)]) a3 b3;rw[ey];obtain⟨low,rfl,hl⟩:∃low:Int,y= .int low/\1<=low/\low<=10000-(1+v1):=by
  simp only[dh,sE,or_false]at hy;rcases hy with rfl|rfl|rfl<;>exact⟨_,rfl,∅,∅⟩
 unfold Hr;walk_at "z";refine⟨⋯,⋯,⋯,Bk (z:=3) ⋯ ⋯ bJ ok3 ⋯ λacc g4 l4 p4 ok4=>?_⟩
 rw[eZ,WV];obtain⟨y1,y2,y3,rfl⟩:∃y1 y2 y3,acc= [y1,y2,y3]:=by
  match acc,l4 with| [y1,y2,y3],_=>exact⟨y1,y2,y3,rfl⟩
 obtain⟨t0,rfl,h0⟩:=p4 y1 (.head _);obtain⟨t1,rfl,h1⟩:=p4 y2 (.tail _ (.head _));obtain⟨t2,rfl,h2⟩:=p4 y3 (.tail _ (.tail _ (.head _)));unfold Hq;walk_at "z";refine gh (n:=n) bJ ok4 ⋯ ⋯ ⋯ λv5 g5 a5 b5 ok5=>?_
 obtain⟨le,hle,ey⟩:=vG ["door","place","talk"] a5 b5
 change ∀{M:RM} {Q:ao},bM (.ls [.str "door",.str "place",.str "talk"]) _ M Q=_ at ey
 rw[ey,eZ];unfold Ho;walk_at "z";refine gh (n:=n) bJ ok5 ⋯ ⋯ ⋯ λv6 g6 a6 b6 ok6=>?_
 obtain⟨si,hsi,ey⟩:=vG ["all","place","talk"] a6 b6
 change ∀{M:RM} {Q:ao},bM (.ls [.str "all",.str "place",.str "talk"]) _ M Q=_ at ey
 rw[ey,eZ];unfold Hn;walk_at "z";refine gh (n:=n) bJ ok6 ⋯ ⋯ ⋯ λv7 g7 a7 b7 ok7=>?_
 obtain⟨pi,hpi,ey⟩:=vG ["next","keep"] a7 b7
 change ∀{M:RM} {Q:ao},bM (.ls [.str "next",.str "keep"]) _ M Q=_ at ey
 rw[ey,eZ];unfold Hm;walk_at "z";refine⟨pY ⋯ ⋯,?_⟩
 refine gh (n:=n) bJ ok7 ⋯ ⋯ ⋯ λv8 g8 a8 b8 ok8=>?_
 rw[eZ];refine gh (n:=n) bJ ok8 ⋯ ⋯ ⋯ λv9 g9 a9 b9 ok9=>?_
 rw[eZ];obtain⟨y,hy,ey⟩:=p6 (xs:=[.int 0,.int 0,.int v8]) a9 b9;rw[ey];obtain⟨re,rfl,hre⟩:∃re:Int,y= .int re/\0<=re/\re<=9:=by
  simp only[dh,sE,or_false]at hy;rcases hy with rfl|rfl|rfl<;>exact⟨_,rfl,∅,∅⟩
 rw[f7];unfold Hl;walk_at "ev";refine gh (n:=n) bJ ok9 ⋯ ⋯ ⋯ λv10 g10 a10 b10 ok10=>?_
 rw[eZ,f7];refine gh (n:=n) bJ ok10 ⋯ ⋯ ⋯ λv11 g11 a11 b11 ok11=>?_
 rw[eZ];walk_at "ev";exact hq ⟨low,low+(1+v1)-1,le,si,pi,1+v10,v11==1,t0,t1,t2,2*road+1+re⟩ g11 ⟨by dsimp only;omega,by dsimp only;omega,by dsimp only;omega,by dsimp only;omega,by simpa using hle,by simpa using hsi,by simpa using hpi,by dsimp only;omega,by dsimp only;omega,by dsimp only;omega,by dsimp only;omega,by dsimp only;omega⟩ (by dsimp only;omega) (ok11.le ∅)
structure Wd(ds ps fs:LR):Prop where
 ld:ds.length=4
 hd:∀y∈ds,BX y
 lp:ps.length=2
 ap:∀y∈ps,zh 1 1000000 y
 lf:fs.length=2
 af:∀y∈fs,zh 1 9999 y
theorem Td{x:Addr}{g:bS}{f:Fm}(br:f.Ok)(hx:M x=some g.l)(ok:g.In 0)
 (hq:∀(ds ps fs:LR) g' dl,Wd ds ps fs->dl≠x->M dl=none->Q (.tup [.ref dl,.ls ps,.ls fs]) (put (put M x (bS.l g')) dl (.lst ds))):aw (P e) (n+2) 45 [.ref x,f.r] M Q:=by
 have f0:∀{M:RM} {Q:ao},bM f.r (.int 0) M Q=Q (.int f.low) M:=CY;have f1:∀{M:RM} {Q:ao},bM f.r (.int 1) M Q=Q (.int f.high) M:=CZ;rw[us (i:=45) (d:=wV) rfl];simp only[wV];unfold Hi;rw[d8,Mq];dsimp only[List.set_cons_zero,List.set_cons_succ];walk_at "ev";refine⟨⋯,⋯,⋯,?_⟩
 refine AG (λacc M'=>(∀y∈acc,BX y)/\∃g':bS,M'=put M x g'.l/\g'.In (0+2*acc.length)) (λσ M K h=>h) (λ_ _ _=>iz) _ _ _ ⟨fz _,g,(uE hx).symm,by show g.In (0+2*0);exact ok⟩ (λy hy acc M' hlt h=>?_) λacc' M' hl h=>?_
 . obtain⟨h1,g',rfl,h3⟩:=h
   refine⟨[y],rfl,λK hK=>?_⟩
   show(tr ((P e).Gn (n+1)) _).E [some y,some (.ref x)] _ K;have hlt:acc.length<3:=hlt;walk_at "ev";refine gh (n:=n) bJ h3 ∅ ⋯ ⋯ λv1 g1 a1 b1 o1=>?_
   rw[eZ];refine gh (n:=n) bJ o1 ∅ ⋯ ⋯ λv2 g2 a2 b2 o2=>?_
   rw[eZ,f7];refine hK _ _ ⟨λz hz=>?_,g2,rfl,⟨o2.a,o2.b,o2.c.1,by have:=o2.c.2;rw[eQ];show g2.c<=0+2*((acc.length+1:Nat):Int);omega⟩⟩
   rcases dW.mp hz with q|q
   . exact h1 z q
   . cases ib.mp q;exact⟨v1,1+v2,rfl,⟨a1,∅⟩,∅,∅⟩
 . obtain⟨h1,g',rfl,h3⟩:=h
   have hl:acc'.length=3:=hl;rw[hl]at h3;have h3:g'.In 6:=h3;rw[Vm,id_eq];intro dl hdl;obtain⟨q1,q2⟩:=xN hdl;obtain⟨y,r,rfl⟩:∃y r,acc'=y::r:=by cases acc' with
    |nil=>cases hl
    |cons y r=>exact⟨y,r,rfl⟩
   obtain⟨hh,dd,rfl,hh1,hd1⟩:=h1 y (.head _);have lo:=br.lo;have le:=br.le;have hi:=br.hi;have swap:∀{ga gb:bS} {l:LR},put (put (put M x ga.l) dl (.lst l)) x gb.l=put (put M x gb.l) dl (.lst l):=λ{ga gb l}=>by rw[uF q2,eZ]
   unfold Hh;walk_at "evs";refine gh (n:=n) ((put_ne (bZ q2)).trans bJ) h3 ⋯ ∅ ∅ λv1 g1 a1 b1 o1=>?_
   rw[swap,f7];refine⟨_,_,rfl,bJ,by rw[hl];decide,?_⟩
   rw[eZ];have wds:∀y∈(.tup [.int hh,.int dd]::r)++ [RV.tup [.int hh,.int (f.low+v1)]],BX y:=λz hz=>by
    rcases dW.mp hz with q|q
    . exact h1 z q
    . cases ib.mp q;exact⟨hh,f.low+v1,rfl,hh1,∅,∅⟩
   have wl:((.tup [.int hh,.int dd]::r)++ [RV.tup [.int hh,.int (f.low+v1)]]).length=4:=by rw[eQ,hl];rfl
   generalize (.tup [.int hh,.int dd]::r)++ [RV.tup [.int hh,.int (f.low+v1)]]=ds at wds wl ⊢;have hxx:∀{ga:bS},put (put M x ga.l) dl (.lst ds) x=some ga.l:=λ{ga}=>(put_ne (bZ q2)).trans bJ
   unfold Hg;rw[d8,Mq];dsimp only[List.set_cons_zero,List.set_cons_succ];walk_at "ev";refine⟨⋯,⋯,⋯,Bk (z:=2) ⋯ ⋯ hxx o1 ⋯ λps g2 l2 p2 o2=>?_⟩
   rw[swap];unfold Hf;walk_at "ev";refine⟨⋯,⋯,⋯,Bk (z:=2) ⋯ ⋯ hxx o2 ⋯ λfs g3 l3 p3 o3=>?_⟩
   rw[swap];exact hq ds ps fs g3 dl ⟨wl,wds,l2,p2,l3,p3⟩ q2 q1
end
section
structure Qe where
 mu:Int
 kd:Str
 wd:Str
 p:Int
 q:Int
 m:Int
 h:Int
 d:Int
noncomputable def Qe.dr (E:Qe):RV:=.tup [.str "come",.str E.kd,.int E.p,.int E.q,.int E.m,.str E.wd,.str ""]
def Qe.tr(E:Qe):RV:=.tup [E.dr,.tup [.int E.h,.int E.d]]
def Qe.r(E:Qe):RV:=.tup [.int E.mu,E.tr]
structure Qe.Ok(f:Fm)(road:Int)(c:Cn)(E:Qe):Prop where
 lo:c.now<=E.mu
 hi:E.mu<=c.now+2*road
 sf:Sf c E.mu E.m E.h E.d
 kw:Kw E.kd E.wd
 p:1<=E.p/\E.p<=1000000
 q:1<=E.q/\E.q<=9999
 m:f.low<=E.m/\E.m<=f.high
def sM(l:List Qe):Prop:=l.Pairwise λa b=>a.mu<=b.mu
theorem KH:∀{l:List Qe},sM l->∃a b,l=a++b/\(l.filter λx=>decide (x.mu<=μ)).length=a.length/\(∀x∈a,x.mu<=μ)/\∀x∈b,μ<x.mu
 | [],_=>⟨[],[],rfl,rfl,fz _,fz _⟩
 |x::l,h=>by
  have d:=zv.mp h
  by_cases z:x.mu<=μ
  . obtain⟨a,b,rfl,e1,e,f⟩:=KH (l:=l) d.2
    refine⟨x::a,b,rfl,?_,λy c=>?_,f⟩
    . rw[List.filter_cons_of_pos (p:=λx:Qe=>decide (x.mu<=μ)) (fg z),bG,e1];rfl
    . rcases dh.mp c with rfl|c
      . exact z
      . exact e y c
  . refine⟨[],x::l,rfl,?_,fz _,λy c=>?_⟩
    . have:(x::l).filter (λx=>decide (x.mu<=μ))= []:=zD.mpr λy c hd=>by
       have hd:=ja hd;rcases dh.mp c with rfl|c
       . exact z hd
       . have:=d.1 y c;omega
      rw[this]
    . rcases dh.mp c with rfl|c
      . omega
      . have:=d.1 y c;omega
theorem V3{a b:List Qe}{E:Qe}(h:sM (a++b))(d:∀x∈a,x.mu<=E.mu)(e:∀x∈b,E.mu<x.mu):sM (a++E::b):=by
 obtain⟨p1,f,g⟩:=List.pairwise_append.mp h;refine List.pairwise_append.mpr ⟨p1,zv.mpr ⟨λx hx=>Int.le_of_lt (e x hx),f⟩,λx hx y c=>?_⟩
 rcases dh.mp c with rfl|c
 . exact d x hx
 . exact g x hx y c
def wN(μ:Int):RV->Bool
 | .tup (.int i::_)=>decide (i<=μ)
 |_=>false
theorem HW:∀{l:List Qe},((l.map Qe.r).filter (wN μ)).length=(l.filter λx=>decide (x.mu<=μ)).length
 | []=>rfl
 |x::l=>by
  have a:=HW (μ:=μ) (l:=l);rw[bQ,iK,iK];show(if decide (x.mu<=μ)=true then _ else _:LR).length=_
  split
  . rw[bG,bG,a]
  . exact a
structure Tn(e:Env)(M0 L:RM)(g r dl:Addr)(f:Fm)(road:Int)(k b:Nat)(c:Cn)(tl:List Tk)(ql:List Qe)(ds:LR):Prop where
 gt:∃d,Gt e g f k d c tl M0 L/\d+2*ql.length<=b
 rw:M0 r=some (.lst (ql.map Qe.r))
 dw:M0 dl=some (.lst ds)
 ne:r≠dl
 qk:∀E∈ql,E.Ok f road c
 so:sM ql
 lp:M0 e.lP=some (cY e)
variable {e:Env}{n:Nat}{M M0 L:RM}{Q:ao}{f:Fm}{road:Int}{k b:Nat}{c:Cn}{tl:List Tk}{ql:List Qe}{ds:LR}{g r dl x:Addr}{m q:Int}
theorem Tn.new(h:Tn e M0 L g r dl f road k b c tl ql ds)(hx:L x=none):Tn e (put M0 x u) (put L x u) g r dl f road k b c tl ql ds:=by
 obtain⟨d,gt,a⟩:=h.gt;have ne:∀y u,M0 y=some u->y≠x:=λy u i z=>by have:=gt.at_ i;rw[z,hx]at this;cases this
 exact⟨⟨d,gt.new hx,a⟩,(put_ne (ne _ _ h.rw)).trans h.rw,(put_ne (ne _ _ h.dw)).trans h.dw,h.ne,h.qk,h.so,(put_ne (ne _ _ h.lp)).trans h.lp⟩
theorem Tn.bag{l1 l2:LR}(h:Tn e M0 L g r dl f road k b c tl ql ds)(hx:M0 x=some (.lst l1))(i:x≠r)(j:x≠dl):Tn e (put M0 x (.lst l2)) (put L x (.lst l2)) g r dl f road k b c tl ql ds:=by
 obtain⟨d,gt,a⟩:=h.gt;have l:e.lP≠x:=λz=>by have:=h.lp;rw[z,hx]at this;cases this
 exact⟨⟨d,gt.other hx,a⟩,(put_ne (bZ i)).trans h.rw,(put_ne (bZ j)).trans h.dw,h.ne,h.qk,h.so,(put_ne l).trans h.lp⟩
theorem Tn.draw{o:bS}(h:Tn e M0 L g r dl f road k b c tl ql ds)(hx:M0 x=some o.l)(z:x≠r)(A:x≠dl)(D:o.In q)(u:q<999999)(w:0<m)(j:m<1073741824)
 (y:∀v i a l,0<=v->v<m->bS.In i (q+1)->Tn e a l g r dl f road k b c tl ql ds->a x=some i.l->Q (.int v) l):aw (P e) (n+1) 42 [.ref x,.int m] L Q:=by
 obtain⟨d,gt,E⟩:=h.gt;exact gh (gt.at_ hx) D u w j λv i s t C=>y v i _ _ s t C (h.bag hx z A) bJ
theorem Tn.gate(h:Tn e M0 L g r dl f road k b c tl ql ds):∃a rs rd,L g=some (bL e f.r a rs rd .au):=by
 obtain⟨d,gt,i⟩:=h.gt;exact gt.gate
theorem Tn.at_(h:Tn e M0 L g r dl f road k b c tl ql ds)(a:M0 y=some u):L y=some u:=by
 obtain⟨d,gt,i⟩:=h.gt;exact gt.at_ a
theorem Tn.row{ql':List Qe}(h:Tn e M0 L g r dl f road k b c tl ql ds)(i:∀d,d+2*ql.length<=b->d+2*ql'.length<=b')(l:∀E∈ql',E.Ok f road c)(o:sM ql'):Tn e (put M0 r (.lst (ql'.map Qe.r))) (put L r (.lst (ql'.map Qe.r))) g r dl f road k b' c tl ql' ds:=by
 obtain⟨d,gt,a⟩:=h.gt;have j:e.lP≠r:=λz=>by have:=h.lp;rw[z,h.rw]at this;cases this
 exact⟨⟨d,gt.other h.rw,i d a⟩,bJ,(put_ne (bZ h.ne)).trans h.dw,h.ne,l,o,(put_ne j).trans h.lp⟩
theorem X6{a:Addr}(h:M a=some (.lst xs)):kS QI (.ref a) M=QI xs (λM=>M a=some (RO.lst xs)) id M:=by
 show(match M a with|some (RO.lst xs)=>QI xs (λM=>M a=some (RO.lst xs)) id M|_=>False)=_
 rw[h]
theorem VJ{E:Qe}(G:Tn e M0 L g r dl f road k b c tl ql ds)(R:b<900)(I:E.Ok f road c)(N:∀l v ql',Tn e l v g r dl f road k (b+2) c tl ql' ds->(∀y u,y≠r->M0 y=some u->l y=some u)->Q .au v):
 aw (P e) (n+1) 62 [.ref r,.int E.mu,E.tr] L Q:=by
 have o:=G.at_ G.rw;have j:ql.length<900:=by obtain⟨d,_,h⟩:=G.gt;omega
 rw[us (i:=62) (d:=xa) rfl];simp only[xa];unfold GF;walk_at "z";rw[X6 o];refine⟨by rw[bu];exact fM j ⋯,jJ (bd:=gv false 1) (wN E.mu) id o _ _ (λy t=>?_) ?_⟩
 . obtain⟨F,w,rfl⟩:=aV.mp t
   refine⟨[F.r],rfl,λK s=>?_,λ_ K s=>?_⟩
   . show(tr ((P e).Gn n) _).T [some F.r,some (.int E.mu)] _ K
     unfold Qe.r;walk_at "ev";exact s
   . show(tr ((P e).Gn n) _).E [some F.r,some (.int E.mu)] _ K
     walk_at "ev";exact s
 . rw[yg,List.nil_append,List.map_id]
   rw[show fv "len" [.ls ((ql.map Qe.r).filter (wN E.mu))] (id L)=λQ=>Q (.int ((ql.map Qe.r).filter (wN E.mu)).length) L from rfl]
   obtain⟨a,b2,rfl,e1,C,D⟩:=KH (μ:=E.mu) G.so;rw[HW,e1];unfold GD;rw[d8,Oy,Pw (x:=r) λK=>by walk_at "ev",o]
   show(tr ((P e).Gn n) _).A _ L _;walk_at "ev";have H:((a++b2).map Qe.r).take (a.length:Int).toNat++RV.tup [.int E.mu,E.tr]::((a++b2).map Qe.r).drop (a.length:Int).toNat=(a++E::b2).map Qe.r:=by
    rw[show(a.length:Int).toNat=(a.map Qe.r).length by rw[bu];rfl,eW,List.take_left,List.drop_left,eW];rfl
   refine⟨a.length,_,_,rfl,o,∅,by rw[bu,eQ];omega,by rw[bu];exact fM j ⋯,?_⟩
   rw[H];have A:=G.row (ql':=a++E::b2) (b':=b+2) (λd J=>by rw[eQ]at J ⊢;rw[bG];omega) (λF w=>?_) (V3 G.so C D)
   . exact N _ _ _ A λy u t O=>(put_ne t).trans O
   . rcases dW.mp w with z|z
     . exact G.qk F (dW.mpr (.inl z))
     . rcases dh.mp z with rfl|z
       . exact I
       . exact G.qk F (dW.mpr (.inr z))
end
section
variable {e:Env}{n:Nat}{M M0 L:RM}{Q:ao}{f:Fm}{road till:Int}{k b d:Nat}{c c':Cn}{tl:List Tk}{ql:List Qe}{ds:LR}{g r dl x:Addr}{m q h h' dd d':Int}{E:Qe}{v:RV}
theorem Gt.uniq(gt:Gt e g f k d c tl M0 L)(h1:gZ c m h dd)(h2:gZ c m h' d'):h=h'/\dd=d':=by
 obtain⟨_,ad,M,G,_⟩:=gt;obtain⟨κ,hκ,a,b,rfl⟩:=h1;obtain⟨κ',hκ',a',b',rfl⟩:=h2;have:=fY G.d3 hκ hκ' rfl;injection this with this _
 injection this with _ this
 injection this with t1 this
 injection this with t2 _
 injection t1 with t1
 injection t2 with t2
 injection t1 with t1
 injection t2 with t2
 exact⟨t1,t2⟩
theorem Qe.Ok.mv(h:Qe.Ok f road c E)(lo:c'.now<=E.mu)(i:c.now<=c'.now)(ev:Ev β c c')(a:c.now+2*road<β):Qe.Ok f road c' E:=
 ⟨lo,by have:=h.hi;omega,ev _ _ _ _ (by have:=h.hi;omega) h.sf,h.kw,h.p,h.q,h.m⟩
theorem Yr:aB 16 (.ls (ql.map Qe.r))=true:=by
 show(ql.map Qe.r).all (aB 15)=true;rw[List.all_map,ff];exactλx _=>rfl
theorem qyT{a:Addr}(h:M a=some (.lst xs))(o:aB 16 (.ls xs)=true)(i:Q (.bl (!xs.isEmpty)) M):ee .NotEq (.ref a) (.ls []) M Q:=by
 have e1:cz M (.ref a)= .ls xs:=by unfold cz;dsimp only;rw[h]
 show aB 16 (cz M (.ref a))=true/\aB 16 (.ls [])=true/\Q (.bl (!aY (cz M (.ref a)) (.ls []))) M;rw[e1,show aY (.ls xs) (.ls [])=xs.isEmpty by cases xs<;>simp[aY,eV]]
 exact⟨o,rfl,i⟩
theorem BV{a b:LR}{r:Bool}(o1:aB 16 (.tup a)=true)(j:aB 16 (.tup b)=true)(h:aY (.tup a) (.tup b)=r)(i:Q (.bl (!r)) M):ee .NotEq (.tup a) (.tup b) M Q:=by
 show aB 16 (.tup a)=true/\aB 16 (.tup b)=true/\Q (.bl (!aY (.tup a) (.tup b))) M;rw[h];exact⟨o1,j,i⟩
theorem NK{D:RD}(a:v=pb h dd∨v=kept "nobody"∨v=kept "sieve"∨v=kept "astray")(i:D.nx [z0,z1,z2,some v,z4,z5,some (.tup [.int h,.int dd])] L):
 (tr ((P e).Gn n) Bv).S D [z0,z1,z2,some v,z4,z5,some (.tup [.int h,.int dd])] L:=by
 unfold Bv;walk_at "ev";rcases a with rfl|a
 . refine BV rfl rfl (r:=true) (by simp only[aY,eV,beq_self_eq_true,Bool.true_and]) ?_
   exact i
 . have hx:∃z:Str,v=kept z/\(z= "nobody"∨z= "sieve"∨z= "astray"):=by
    rcases a with rfl|rfl|rfl
    . exact⟨_,rfl,.inl rfl⟩
    . exact⟨_,rfl,.inr (.inl rfl)⟩
    . exact⟨_,rfl,.inr (.inr rfl)⟩
   obtain⟨z,rfl,j⟩:=hx;have l:(("kept":Str)== "in")=false:=by decide+kernel
   refine BV rfl rfl (r:=false) (by simp only[aY,eV,l,Bool.false_and]) ?_
   rw[nJ,ai ⋯]
   refine⟨rfl,rfl,?_⟩;rw[ai ⋯,show inR (kept z) [.tup [.str "kept",.str "nobody"],.tup [.str "kept",.str "sieve"],.tup [.str "kept",.str "astray"]]=true by rcases j with rfl|rfl|rfl<;>decide+kernel]
   exact i
structure Gl(e:Env)(f:Fm)(road:Int):Prop where
 tb:Tb e
 br:f.Ok
 r1:1<=road/\road<=9
 t3:2*road+1<=f.t3
abbrev Fr(r:Addr)(M0 a:RM):Prop:=∀y u,y≠r->M0 y=some u->a y=some u
abbrev Kt(e:Env)(g r dl:Addr)(f:Fm)(road:Int)(k b:Nat)(ds:LR)(M0:RM)(p:Cn->List Qe->Prop)(Q:RM->Prop):Prop:=∀a l c' j i,Tn e a l g r dl f road k b c' j i ds->Fr r M0 a->p c' i->Q l
theorem Tn.wait{t:Int}(G:Tn e M0 L g r dl f road k b c tl ql ds)(l:Gl e f road)(y:k<64)(C:b<890)(u:0<=t)(A:t<=1000)(w:∀E∈ql,c.now+t<=E.mu)(z:∀i c' a,Tn e M0 i g r dl f road k (b+1) c' a ql ds->c'.now=c.now+t->Ev (c.now+1+f.t3) c c'->Q .au i):
 aw (P e) (n+10) 37 [.ref g,.int t] L Q:=by
 obtain⟨d,gt,D⟩:=G.gt;have t3:=l.t3;refine gt.wait l.tb G.lp y ∅ u ∅ λc' a i j s ev=>z i c' a ⟨⟨d+1,j,∅⟩,G.rw,G.dw,G.ne,λE o=>(G.qk E o).mv (by rw[s];exact w E o) ∅ ev ∅,G.so,G.lp⟩ s ev
theorem Tn.moment(G:Tn e M0 L g r dl f road k b c tl ql ds)(a:Q (.int c.now) L):aw (P e) (n+1) 19 [.ref g] L Q:=by
 obtain⟨d,gt,i⟩:=G.gt;exact gt.moment a
theorem Tn.come(G:Tn e M0 L g r dl f road k b c tl ql ds)(o:Gl e f road)(I:k<64)(D:b<890)(i:Qe.Ok f road c E)(J:E.mu=c.now)(A:∀v j c' a,Tn e M0 j g r dl f road k (b+1) c' a ql ds->c'.now=c.now->(v=pb E.h E.d∨v=kept "nobody"∨v=kept "sieve"∨v=kept "astray")->Q v j):
 aw (P e) (n+9) 36 [.ref g,E.dr] L Q:=by
 obtain⟨d,gt,H⟩:=G.gt;have t3:=o.t3;have r1:=o.r1;refine gt.come o.tb o.br ∅ ∅ i.m i.p i.q i.kw λv c' a j s l cp=>A v j c' a ⟨⟨d+1,s,∅⟩,G.rw,G.dw,G.ne,λF w=>(G.qk F w).mv (by rw[l.nw];exact(G.qk F w).lo) (by rw[l.nw];exact Int.le_refl _) l.ev ∅,G.so,G.lp⟩ l.nw ?_
 rcases cp with h|h|h|⟨C,d1,rfl,y⟩
 . exact .inr (.inl h)
 . exact .inr (.inr (.inl h))
 . exact .inr (.inr (.inr h))
 . rcases i.sf with t|⟨t,_⟩
   . obtain⟨e1,z⟩:=gt.uniq y t
     exact .inl (by rw[e1,z])
   . obtain⟨N,u,_⟩:=y
     exact ba (aV.mpr ⟨_,u,rfl⟩) t
theorem NL{D:RD}{rest:List Qe}(G:Tn e M0 L g r dl f road k b c tl (E::rest) ds)(a:Gl e f road)(A:k<64)(hb:b<880)
 (U:∀t H I J,Kt e g r dl f road k b ds M0 (λc' ql'=>c'.now=E.mu/\ql'=rest) (D.nx [some (.ref g),some (.ref r),some (.int till),t,H,I,J])):
 (tr ((P e).Gn (n+10)) Bx).S D [some (.ref g),some (.ref r),some (.int till),t,H,I,J] L:=by
 have C:=G.at_ G.rw;have i:=G.qk E (.head _);have so:=zv.mp G.so;unfold Bx;rw[d8,O9,Pu (x:=r) λK=>by walk_at "ev",C]
 show(tr ((P e).Gn (n+10)) _).A _ L _;walk_at "ev";refine⟨E.r,rest.map Qe.r,C,?_⟩;have b2:2<=b:=by obtain⟨d,_,h⟩:=G.gt;rw[bG]at h;omega
 have G1:=G.row (ql':=rest) (b':=b-2) (λd y=>by rw[bG]at y;omega) (λF l=>G.qk F (.tail _ l)) so.2
 have w:Fr r M0 (put M0 r (.lst (rest.map Qe.r))):=λy u Y W=>(put_ne Y).trans W
 generalize put M0 r (.lst (rest.map Qe.r))=M1 at G1 w
 change (tr ((P e).Gn (n+10)) Bw).S D [some (.ref g),some (.ref r),some (.int till),t,some (.int E.mu),some E.dr,some (.tup [.int E.h,.int E.d])] (put L r (.lst (rest.map Qe.r)))
 generalize put L r (.lst (rest.map Qe.r))=L1 at G1 ⊢;obtain⟨_,_,_,z⟩:=G1.gate;unfold Bw;walk_at "ev";rw[z];walk_at "ev";rw[z];walk_at "ev";refine G1.moment (n:=n+9) ?_;rw[Lk];have h1:=i.lo;have h2:=i.hi;have r1:=a.r1;have t3:=a.t3;refine G1.wait (n:=n) a A ∅ ∅ ∅ (λF l=>by have:=so.1 F l;omega) λL2 O tl2 G2 nw ev=>?_
 have j:Qe.Ok f road O E:=i.mv ∅ ∅ ev ∅
 obtain⟨_,_,_,o⟩:=G2.gate;unfold Km;walk_at "z";rw[o];walk_at "ev";refine G2.come (n:=n+1) a A ∅ j ∅ λv N R s G3 Z X=>?_
 refine NK X ?_;have G4:Tn e M1 N g r dl f road k b R s rest ds:=by
  obtain⟨d,gt,y⟩:=G3.gt;exact { G3 with gt:=⟨d,gt,∅⟩ }
 exact U _ _ _ _ _ _ _ _ _ G4 w ⟨∅,rfl⟩
end
section
variable {e:Env}{n:Nat}{M M0 L:RM}{Q:ao}{f:Fm}{road till:Int}{k b d:Nat}{c c':Cn}{tl:List Tk}{ql:List Qe}{ds:LR}{g r dl x:Addr}{m q h h' dd d':Int}{E:Qe}{v:RV}
theorem O8{t b:T}:(tr Γ (.wh t b)).S D σ M=Bm (tr Γ t).T (tr Γ b).S D σ M:=rfl
theorem K1(G:Tn e M0 L g r dl f road k b c tl ql ds)(gl:Gl e f road)(hk:k<64)(hb:b<870)(h1:c.now<=till)(h2:till<=c.now+100)
 (hq:Kt e g r dl f road k (b+1) ds M0 (λc' ql'=>c'.now=till/\(∀E∈ql',till<E.mu)/\∀E∈ql',E∈ql) (Q (.bl true))):aw (P e) (n+11) 63 [.ref g,.ref r,.int till] L Q:=by
 rw[us (i:=63) (d:=wY) rfl];simp only[wY];unfold GH;rw[d8,O8];walk_at "ev";refine⟨λm σ M=>∃M1 c1 tl1 ql1 z3 z4 z5 z6,m=ql1.length/\Tn e M1 M g r dl f road k b c1 tl1 ql1 ds/\Fr r M0 M1/\((c.now<=c1.now/\c1.now<=till)/\∀F∈ql1,F∈ql)/\σ= [some (.ref g),some (.ref r),some (.int till),z3,z4,z5,z6],⟨_,M0,c,tl,ql,none,none,none,none,rfl,G,λ_ _ _ h=>h,⟨⟨Int.le_refl _,h1⟩,λ_ h=>h⟩,rfl⟩,λm σ M h=>?_⟩
 obtain⟨M1,c1,tl1,ql1,z3,z4,z5,z6,rfl,G1,fr,⟨⟨h3,h4⟩,hs⟩,rfl⟩:=h;have hr:=G1.at_ G1.rw;have fin:(∀E∈ql1,till<E.mu)->(tr ((P e).Gn (n+10)) Cd).S (rd Q) [some (.ref g),some (.ref r),some (.int till),z3,z4,z5,z6] M:=λhm=>by
  obtain⟨_,_,_,hg⟩:=G1.gate;unfold Cd;walk_at "ev";rw[hg];walk_at "ev";rw[hg];walk_at "ev";refine G1.moment (n:=n+9) ?_;rw[Lk];refine G1.wait (n:=n) gl hk ∅ ∅ ∅ (λF hF=>by have:=hm F hF;omega) λL2 c2 tl2 G2 nw ev=>?_
  unfold GG;walk_at "ev";exact hq _ _ _ _ _ G2 fr ⟨∅,hm,hs⟩
 walk_at "ev";refine qyT hr Yr ?_;cases ql1 with
 |nil=>exact fin (fz _)
 |cons E rest=>
  rw[nJ];rw[ai (show(!((E::rest).map Qe.r).isEmpty)=true from rfl)]
  rw[hr,JC,show(E::rest).map Qe.r=E.r::rest.map Qe.r from rfl,B1,uL]
  unfold Qe.r;walk_at "ev";have so:=zv.mp G1.so;have hE:=G1.qk E (.head _)
  by_cases hm:E.mu<=till
  . rw[ai (fg hm)]
    refine NL G1 gl hk ∅ λz3 z4 z5 z6 M2 L2 c2 tl2 ql2 G2 fr2 hp=>?_
    obtain⟨e1,rfl⟩:=hp;have:=hE.lo;exact⟨ql2.length,Nat.lt_succ_self _,M2,c2,tl2,ql2,z3,z4,z5,z6,rfl,G2,λy u hy hu=>fr2 y u hy (fr y u hy hu),⟨⟨∅,∅⟩,λF hF=>hs F (.tail _ hF)⟩,rfl⟩
  . rw[ae (by simpa using hm)]
    refine fin λF hF=>?_
    rcases dh.mp hF with rfl|hF
    . omega
    . have:=so.1 F hF;omega
end
section
variable {e:Env}{n:Nat}{M M0 L:RM}{Q:ao}{f:Fm}{road till:Int}{k b d:Nat}{c c':Cn}{tl:List Tk}{ql:List Qe}{ds ps fs:LR}{g r dl x:Addr}{m q h h' dd d':Int}{E:Qe}{v:RV}{i:bH}{wd:Str}
theorem NR{f:Fm}:bM f.r (.int 2) M Q=Q (.str f.lend) M:=bq.trans (by rw[Ms];rfl)
noncomputable def C9 (l:List (Str×Int))(p:Addr)(Q:ao):ao:=λk M1=>M1 p=some (.dk (gf l))/\(match fq k with
 |some key=>(match cW (gf l) key with|some v=>Q v (drop M1 p)|none=>False)
 |none=>False)
theorem Px{l:List (Str×Int)}{a:T}:(tr Γ (.di l a)).E σ M Q= ∀p,M p=none->(tr Γ a).E σ (put M p (.dk (gf l))) (C9 l p Q):=rfl
theorem Wi{l:List (Str×Int)}{p:Addr}{s:Str}:C9 l p Q (.str s) M=(M p=some (.dk (gf l))/\wO (cW (gf l) (.inr s)) λv=>Q v (drop M p)):=by
 show(_/\(match cW (gf l) (.inr s)with|some v=>Q v (drop M p)|none=>False))=_
 cases cW (gf l) (.inr s)<;>rfl
theorem Wf:cW (gf [("door",3),("place",4),("talk",5)]) (.inr "door")=some (.int 3):=by rfl
theorem UQ:cW (gf [("door",3),("place",4),("talk",5)]) (.inr "place")=some (.int 4):=by rfl
theorem We:cW (gf [("door",3),("place",4),("talk",5)]) (.inr "talk")=some (.int 5):=by rfl
theorem pI:∀n x,aB n x=true->aY x x=true
 |_,.au,_=>by simp[aY]
 |_,.bl _,_=>by simp[aY]
 |_,.int _,_=>by simp[aY]
 |_,.str _,_=>by simp[aY]
 |n+1,.tup xs,h=>by
  have h:xs.all (aB n)=true:=h;unfold aY
  induction xs with
  |nil=>simp[eV]
  |cons x xs ih=>rw[d9,aU]at h;unfold eV;rw[pI n x h.1,ih h.2 h.2];rfl
 |n+1,.ls xs,h=>by
  have h:xs.all (aB n)=true:=h;unfold aY
  induction xs with
  |nil=>simp[eV]
  |cons x xs ih=>rw[d9,aU]at h;unfold eV;rw[pI n x h.1,ih h.2 h.2];rfl
 |0,.tup _,h=>by simp[aB]at h
 |0,.ls _,h=>by simp[aB]at h
 |_,.ref _,h=>by simp[aB]at h
 |_,.ty _,h=>by simp[aB]at h
theorem Xv{r:TK}(h:r∈pR c):∃y∈c.K,r=nR y:=by
 obtain⟨T,a,rfl⟩:=aV.mp ((Ak _).mem_iff.mp h);exact⟨T,a,rfl⟩
theorem qyU(o:aB 16 (.ls xs)=true)(a:Q (.bl (!xs.isEmpty)) M):ee .NotEq (.ls xs) (.ls []) M Q:=by
 show aB 16 (.ls xs)=true/\aB 16 (.ls [])=true/\Q (.bl (!aY (.ls xs) (.ls []))) M;rw[show aY (.ls xs) (.ls [])=xs.isEmpty by cases xs<;>simp[aY,eV]]
 exact⟨o,rfl,a⟩
noncomputable def uZ (f:Fm):Int:=if f.lend= "door" then 3 else if f.lend= "place" then 4 else 5
theorem QE{K:Bool->RM->Prop}{y:TK×Int}(I:y.2=m->y.1=bg f i)(lend:f.lend= "door"∨f.lend= "place"∨f.lend= "talk")(hs:∃a b z w s,y.1= [z,w,s,a,b])(H:K false L):
 (tr ((P e).Gn n) (.an (.cm .Eq (.ix (.v 0) (.i 0)) (.ix (.v 1) (.i 1))) (.cm .NotEq (.sl (.v 0) (.p1 (.i 1)) (.p1 (.op .Add (.i 1) (.v 3)))) (.sl (.v 2) .p0 (.p1 (.v 3)))))).T [some (cE (nR y)),some (led m),some i.r,some (.int (uZ f))] L K:=by
 obtain⟨R,o⟩:=y;obtain⟨a,b,z,w,s,e1⟩:=hs
 replace e1:R= [z,w,s,a,b]:=e1
 subst e1;rw[show cE (nR ([z,w,s,a,b],o))= .tup [.int o,oR z,oR w,oR s,oR a,oR b]from rfl,show i.r= .tup [.str i.kind,.int i.house,.int i.door,.int i.place,.int i.far]from rfl]
 walk_at "ev"
 by_cases C:o=m
 . rw[ai (by simpa using C)]
   have l:=I C
   replace l:[z,w,s,a,b]=bg f i:=l
   have fin:∀{xs:LR} {j:Int},fy [RV.int o,oR z,oR w,oR s,oR a,oR b] (some 1) (some (1+j))=xs->fy [RV.str i.kind,.int i.house,.int i.door,.int i.place,.int i.far] none (some j)=xs->aB 16 (.tup xs)=true->ee .NotEq (.tup (fy [RV.int o,oR z,oR w,oR s,oR a,oR b] (some 1) (some (1+j)))) (.tup (fy [RV.str i.kind,.int i.house,.int i.door,.int i.place,.int i.far] none (some j))) L (kB K):=λ{xs j} J N D=>by
    rw[J,N];exact BV D D (pI _ _ D) H
   unfold uZ;unfold bg bH.k at l;rcases lend with h|h|h
   . rw[ai h]at l ⊢
     injection l with t l;injection l with u l;injection l with A l
     subst t u A;exact fin (xs:=[.str i.kind,.int i.house,.int i.door]) rfl rfl rfl
   . rw[ae (by rw[h];decide+kernel),ai h]at l ⊢
     injection l with t l;injection l with u l;injection l with A l;injection l with F l
     subst t u A F;exact fin (xs:=[.str i.kind,.int i.house,.int i.door,.int i.place]) rfl rfl rfl
   . rw[ae (by rw[h];decide+kernel),ae (by rw[h];decide+kernel)]at l ⊢
     injection l with t l;injection l with u l;injection l with A l;injection l with F l;injection l with O l
     subst t u A F O;exact fin (xs:=[.str i.kind,.int i.house,.int i.door,.int i.place,.int i.far]) rfl rfl rfl
 . rw[ae (by simpa using C)]
   exact H
end
section
variable {e:Env}{n:Nat}{M M0 L:RM}{Q:ao}{f:Fm}{road till:Int}{k b d:Nat}{c c':Cn}{tl:List Tk}{ql:List Qe}{ds ps fs:LR}{g r dl x:Addr}{m q h h' dd d':Int}{E:Qe}{v:RV}{i:bH}{wd:Str}
noncomputable abbrev sx (x g r:Addr) (f:Fm) (road:Int) (ww:RV) (i:bH) (wd:Str) (z9 z10 z11 z12 z13 z14 z15 z16 z17 z18:Option RV):bb:=[some (.ref x),some (.ref g),some f.r,some ww,some (.ref r),some (.int road),some (.str i.kind),some (.str wd),some i.r,z9,z10,z11,z12,z13,z14,z15,z16,z17,z18]
theorem N2:bM i.r (.int 3) M Q=Q (.int i.place) M:=bq.trans (by rw[B0];rfl)
theorem N3:bM i.r (.int 4) M Q=Q (.int i.far) M:=bq.trans (by rw[Mr];rfl)
theorem Py:mJ i.r (some 1) (some 3) M Q=Q (.tup [.int i.house,.int i.door]) M:=by
 rw[show i.r= .tup [.str i.kind,.int i.house,.int i.door,.int i.place,.int i.far]from rfl,Vn,show fy [RV.str i.kind,.int i.house,.int i.door,.int i.place,.int i.far] (some 1) (some 3)= [.int i.house,.int i.door]from rfl]
theorem ON(l:σ[6]? =some (some (.str kd)))(o:σ[8]? =some (some i.r))(a:σ[10]? =some (some (led m)))(j:σ[17]? =some (some (.str sd))):
 (tr ((P e).Gn n) (.tu (.ec (.s "come") (.ec (.v 6) (.ec (.ix (.v 8) (.i 3)) (.ec (.ix (.v 8) (.i 4)) (.ec (.ix (.v 10) (.i 1)) (.ec (.v 17) (.ec (.s "") .e0))))))))).E σ M Q=Q (.tup [.str "come",.str kd,.int i.place,.int i.far,.int m,.str sd,.str ""]) M:=by
 walk_at "evs";rw[N2];(try walk_at "evs");rw[N3];(try walk_at "evs")
theorem OM{D:RD}(h0:σ[0]? =some (some (.ref x)))(t:σ[4]? =some (some (.ref r)))(u:σ[5]? =some (some (.int road)))(w:σ[8]? =some (some i.r))(l:σ[12]? =some (some (.int th)))(o:σ[18]? =some (some dv))
 (s:aw (P e) n 42 [.ref x,.int road] L λy M2=>gg .Add (.int (th+1)) y M2 λz a=>aw (P e) n 62 [.ref r,z,.tup [dv,.tup [.int i.house,.int i.door]]] a λ_ j=>D.nx σ j):
 (tr ((P e).Gn n) A7).S D σ L:=by
 unfold A7;walk_at "evs";simp only[Py];exact s
theorem qzd{D:RD}{th q:Int}{C:bS}{J s t u w y j:Option RV}{I:RV}{sd:Str}(G:Tn e M0 L g r dl f road k b c tl ql ds)(U:Gl e f road)(hb:b<860)(hx:M0 x=some C.l)(H:x≠r)(n2:x≠dl)(ok:C.In q)(Z:q<1100)(o:i.Ok)(kw:Kw i.kind sd)(X:f.low<=m/\m<=f.high)(W:gZ c m i.house i.door)(t1:c.now+1<=th)(t2:th<=c.now+road)
 (Y:∀j l A a F,Tn e l A g r dl f road k (b+2) c tl a ds->l x=some (bS.l F)->F.In (q+1)->D.nx (sx x g r f road I i wd J (some (led m)) s (some (.int th)) t u w y (some (.str sd)) j) A):
 (tr ((P e).Gn (n+10)) A8).S D (sx x g r f road I i wd J (some (led m)) s (some (.int th)) t u w y (some (.str sd)) j) L:=by
 have r1:=U.r1;unfold A8;rw[d8,fj,ON rfl rfl rfl rfl];refine OM (x:=x) (r:=r) (road:=road) (i:=i) (th:=th) rfl rfl rfl rfl rfl rfl ?_;refine G.draw (n:=n+9) hx H n2 ok ∅ ∅ ∅ λv R M2 L2 a1 b1 z G hx=>?_
 rw[f7];refine VJ (n:=n+9) (E:=⟨th+1+v,i.kind,sd,i.place,i.far,m,i.house,i.door⟩) G ∅ ⟨by dsimp only;omega,by dsimp only;omega,.inl W,kw,o.place,o.far,X⟩ λM3 N a G O=>?_
 exact Y _ M3 N a R G (O x _ H hx) z
theorem OO(o:Kd kd)(h0:σ[0]? =some (some (.ref x)))(s:σ[6]? =some (some (.str kd)))(l:σ[7]? =some (some (.str wd)))
 (j:∀a,Kw kd a->aw (P e) n 42 [.ref x,.int 3] L λy M2=>bM (.ls [.str wd,.str wd,.str a]) y M2 Q):
 (tr ((P e).Gn n) (.ix (.ll (.ec (.v 7) (.ec (.v 7) (.ec (.ie (.cm .Eq (.v 6) (.s "line")) (.s "break") (.s "say")) .e0)))) (.ca 42 (.ec (.v 0) (.ec (.i 3) .e0))))).E σ L Q:=by
 have l:=l;rcases o with rfl|rfl
 . have q:=j "say" (.inl ⟨rfl,rfl⟩)
   clear j;walk_at "evs";rw[ae (by decide+kernel)]
   trivial
 . have q:=j "break" (.inr ⟨rfl,.inr rfl⟩)
   clear j;walk_at "evs"
theorem QG{D:RD}{th q:Int}{g1:bS}(G:Tn e M0 L g r dl f road k b c tl ql ds)(gl:Gl e f road)(hb:b<860)(hx:M0 x=some g1.l)(n1:x≠r)(n2:x≠dl)(ok:g1.In q)(hq1:q<1000)(oki:i.Ok)(ho:Wo i.kind wd)(hm:f.low<=m/\m<=f.high)(hh:gZ c m i.house i.door)(t1:c.now+1<=th)(t2:th<=c.now+road)
 (hq:∀z17 z18 M0' L' ql' g2,Tn e M0' L' g r dl f road k (b+2) c tl ql' ds->M0' x=some (bS.l g2)->g2.In (q+2)->D.nx (sx x g r f road ww i wd z9 (some (led m)) z11 (some (.int th)) z13 z14 z15 z16 z17 z18) L'):
 (tr ((P e).Gn (n+10)) ya).S D (sx x g r f road ww i wd z9 (some (led m)) z11 (some (.int th)) z13 z14 z15 z16 z17 z18) L:=by
 unfold ya;rw[d8,fj];refine OO (x:=x) (wd:=wd) (kd:=i.kind) oki.kind rfl rfl rfl λlast hl=>?_
 refine G.draw (n:=n+9) hx n1 n2 ok ∅ ⋯ ⋯ λv g3 M2 L2 a1 b1 ok3 G hx=>?_
 obtain⟨sd,hs,ey⟩:=vG [wd,wd,last] a1 b1
 change ∀{M:RM} {Q:ao},bM (.ls [.str wd,.str wd,.str last]) _ M Q=_ at ey
 rw[ey];dsimp only[List.set_cons_zero,List.set_cons_succ];refine qzd (D:=D) (sd:=sd) (wd:=wd) (q:=q+1) G gl hb hx n1 n2 ok3 ∅ oki ?_ hm hh t1 t2 λz18 M0' L' ql' g2 h1 h2 h3=>hq _ _ _ _ _ _ h1 h2 (h3.le ∅)
 simp only[dh,sE,or_false]at hs;rcases hs with rfl|rfl|rfl
 . exact ho.kw
 . exact ho.kw
 . exact hl
end
section
variable {e:Env}{n:Nat}{M M0 L:RM}{Q:ao}{f:Fm}{road till:Int}{k b d:Nat}{c c':Cn}{tl:List Tk}{ql:List Qe}{ds ps fs:LR}{g r dl x:Addr}{m q h h' dd d':Int}{E:Qe}{v:RV}{i:bH}{wd:Str}
theorem OL(h0:σ[0]? =some (some (.ref x)))(hq:aw (P e) n 42 [.ref x,.int 4] L λy M2=>bM (.ls [.int 1,.int 1,.int 2,.int 0]) y M2 λv M1=>rM (λxs ok un M1=>i6 (i7 13) (tr ((P e).Gn n) ya).S { nx:=(tr ((P e).Gn n) yu).S D,rt:=D.rt,bk:=D.bk,ct:=D.ct } ok un xs σ M1) [v] M1):(tr ((P e).Gn n) vn).S D σ L:=by
 unfold vn;walk_at "evs"
theorem QF(a:Q (.bl true) L):(tr ((P e).Gn n) yu).S (rd Q) σ L:=by
 unfold yu;walk_at "ev";exact a
theorem Qv{x:RV}{s t u w y z A C D F a j l o:Option RV}{r:List (Option RV)}{K:List (Option RV)->RM->Prop}:i7 13 x (s::t::u::w::y::z::A::C::D::F::a::j::l::o::r) M K=K (s::t::u::w::y::z::A::C::D::F::a::j::l::some x::r) M:=rfl
theorem qzc{th:Int}{g1:bS}{z9 z11 z13 z14 z15 z16 z17 z18:Option RV}{ww:RV}(G:Tn e M0 L g r dl f road k b c tl ql ds)(gl:Gl e f road)(hb:b<840)(hx:M0 x=some g1.l)(n1:x≠r)(n2:x≠dl)(ok:g1.In 20)(oki:i.Ok)(ho:Wo i.kind wd)(hm:f.low<=m/\m<=f.high)(hh:gZ c m i.house i.door)(t1:c.now+1<=th)(t2:th<=c.now+road)
 (hq:∀M0' L' ql',Tn e M0' L' g r dl f road k (b+4) c tl ql' ds->Q (.bl true) L'):
 (tr ((P e).Gn (n+10)) vn).S (rd Q) (sx x g r f road ww i wd z9 (some (led m)) z11 (some (.int th)) z13 z14 z15 z16 z17 z18) L:=by
 refine OL (x:=x) rfl ?_;refine G.draw (n:=n+9) hx n1 n2 ok ⋯ ⋯ ⋯ λv g2 M2 L2 a1 b1 ok2 G hx=>?_
 obtain⟨y,hy,ey⟩:=p6 (xs:=[.int 1,.int 1,.int 2,.int 0]) a1 b1;rw[ey];obtain⟨z,rfl,hz⟩:∃z:Nat,y= .int z/\z<=2:=by
  simp only[dh,sE,or_false]at hy;rcases hy with rfl|rfl|rfl|rfl
  . exact⟨1,rfl,⋯⟩
  . exact⟨1,rfl,⋯⟩
  . exact⟨2,rfl,⋯⟩
  . exact⟨0,rfl,⋯⟩
 rw[XM];refine⟨∅,∅,?_⟩
 refine AQ (λys σ M=>∃(M0:RM) (ql:List Qe) (g1:bS) (b':Nat) (z13 z17 z18:Option RV),Tn e M0 M g r dl f road k b' c tl ql ds/\b'+2*ys.length<=b+4/\M0 x=some g1.l/\g1.In (30-2*ys.length)/\ys.length<=2/\σ=(sx x g r f road ww i wd z9 (some (led m)) z11 (some (.int th)) z13 z14 z15 z16 z17 z18)) (λ_ _ _ _=>iz) (λσ M h=>?_) (λy ys σ M W h hW=>?_) _ _ _ ⟨M2,ql,g2,b,_,_,_,G,by rw[mm];omega,hx,ok2.le (by rw[mm];omega),by rw[mm];omega,rfl⟩
 . obtain⟨M0,ql,g1,b',z13,z17,z18,G,h1,_,_,_,rfl⟩:=h
   dsimp only;refine QF (hq M0 _ ql ?_);obtain⟨d,gt,hd⟩:=G.gt;exact { G with gt:=⟨d,gt,by simp only[vR]at h1;omega⟩ }
 . obtain⟨M0,ql,g1,b',z13,z17,z18,G,h1,hx,ok,h2,rfl⟩:=h
   rw[bG]at h1 h2 ok;rw[Qv];refine QG (q:=30-2*((ys.length+1:Nat):Int)) G gl ∅ hx n1 n2 ok ∅ oki ho hm hh t1 t2 λz17 z18 M0' L' ql' g2 G hx ok=>?_
   exact hW _ _ ⟨M0',ql',g2,b'+2,_,_,_,G,∅,hx,ok.le ∅,∅,rfl⟩
end
section
variable {e:Env}{n:Nat}{M M0 L:RM}{Q:ao}{f:Fm}{road till:Int}{k b d:Nat}{c c':Cn}{tl:List Tk}{ql:List Qe}{ds ps fs:LR}{g r dl x:Addr}{m q h h' dd d':Int}{E:Qe}{v:RV}{i:bH}{wd kd:Str}{D:RD}{σ:bb}{rt rs rdd wi:RV}
theorem x0(a:σ[3]? =some (some (.tup [.ref dl,.ls ps,.ls fs])))(j:(tr ((P e).Gn n) zc).S D (((σ.set 14 (some (.ref dl))).set 15 (some (.ls ps))).set 16 (some (.ls fs))) L):(tr ((P e).Gn n) zd).S D σ L:=by
 unfold zd;walk_at "evs"
theorem x1(h0:σ[0]? =some (some (.ref x)))(j:aw (P e) n 42 [.ref x,.int 3] L λy M2=>bM (.ls [.str "note",.str "line",.str "note"]) y M2 λv a=>(tr ((P e).Gn n) vH).S D (σ.set 6 (some v)) a):(tr ((P e).Gn n) zc).S D σ L:=by
 unfold zc;walk_at "evs"
def yF(k:Str):Str:=if k= "note" then "say" else "open"
theorem Lp{k:Str}(h:Kd k):Wo k (yF k):=by
 rcases h with rfl|rfl
 . exact .inl ⟨rfl,rfl⟩
 . exact .inr ⟨rfl,by unfold yF;rw[ae (by decide+kernel)]⟩
theorem x2(j:Kd kd)(l:σ[6]? =some (some (.str kd)))(a:(tr ((P e).Gn n) zb).S D (σ.set 7 (some (.str (yF kd)))) L):(tr ((P e).Gn n) vH).S D σ L:=by
 unfold yF at a;rcases j with rfl|rfl
 . rw[ai rfl]at a
   unfold vH;walk_at "evs"
 . rw[ae (by decide+kernel)]at a
   unfold vH;walk_at "evs";rw[ae (by decide+kernel)]
   first|exact a|trivial
theorem x3(h0:σ[0]? =some (some (.ref x)))(h6:σ[6]? =some (some (.str kd)))(h14:σ[14]? =some (some (.ref dl)))(h15:σ[15]? =some (some (.ls ps)))(h16:σ[16]? =some (some (.ls fs)))
 (hq:aw (P e) n 42 [.ref x,.int 4] L λy M2=>bM (.ref dl) y M2 λd M3=>gg .Add (.tup [.str kd]) d M3 λt1 M4=>aw (P e) n 42 [.ref x,.int 2] M4 λy2 M5=>bM (.ls ps) y2 M5 λp M6=>aw (P e) n 42 [.ref x,.int 2] M6 λy3 M7=>bM (.ls fs) y3 M7 λq M8=>gg .Add t1 (.tup [p,q]) M8 λz M9=>(tr ((P e).Gn n) za).S D (σ.set 8 (some z)) M9):(tr ((P e).Gn n) zb).S D σ L:=by
 unfold zb;walk_at "evs"
theorem x4(a:σ[1]? =some (some (.ref g)))(j:L g=some (bL e f.r rt rs rdd wi))(l:aw (P e) n 20 [.ref g] L λv M1=>(tr ((P e).Gn n) y9).S D (σ.set 9 (some v)) M1):(tr ((P e).Gn n) za).S D σ L:=by
 unfold za;walk_at "evs"
theorem x5(j:σ[1]? =some (some (.ref g)))(l:σ[7]? =some (some (.str wd)))(a:σ[8]? =some (some i.r))(o:L g=some (bL e f.r rt rs rdd wi))(s:aw (P e) n 72 [.ref g,.str i.kind,.int i.house,.int i.door,.int i.place,.int i.far,.str wd,.str ""] L λv M1=>(tr ((P e).Gn n) qx).S D (σ.set 10 (some v)) M1):(tr ((P e).Gn n) y9).S D σ L:=by
 rw[show i.r= .tup [.str i.kind,.int i.house,.int i.door,.int i.place,.int i.far]from rfl]at a
 unfold y9;walk_at "evs"
theorem x6k{z:Str}(hz:z= "full"∨z= "most"∨z= "astray")(h10:σ[10]? =some (some (kept z)))(hq:D.rt (.bl true) L):(tr ((P e).Gn n) qx).S D σ L:=by
 unfold qx;walk_at "evs";refine⟨rfl,rfl,?_⟩;rw[ae ⋯,show inR (kept z) [.tup [.str "kept",.str "full"],.tup [.str "kept",.str "most"],.tup [.str "kept",.str "astray"]]=true by rcases hz with rfl|rfl|rfl<;>decide+kernel]
 exact hq
theorem x6l(h10:σ[10]? =some (some (led m)))(hq:(tr ((P e).Gn n) y8).S D σ L):(tr ((P e).Gn n) qx).S D σ L:=by
 have k1:(("led":Str)== "kept")=false:=by decide+kernel
 unfold qx;walk_at "evs";refine⟨rfl,rfl,?_⟩;rw[ae ⋯,show inR (led m) [.tup [.str "kept",.str "full"],.tup [.str "kept",.str "most"],.tup [.str "kept",.str "astray"]]=false by simp[R.inR,aY,eV,k1]]
 rw[nJ,ae ⋯]
 unfold GI;walk_at "evs"
theorem x8(br:f.Ok)(h2:σ[2]? =some (some f.r))(hq:(tr ((P e).Gn n) y7).S D (σ.set 11 (some (.int (uZ f)))) L):(tr ((P e).Gn n) y8).S D σ L:=by
 have k2:∀{M:RM} {Q:ao},bM f.r (.int 2) M Q=Q (.str f.lend) M:=NR;unfold y8;rw[d8,fj,Px];intro p hp;walk_at "evs";rw[Wi];refine⟨bJ,?_⟩;rw[UN hp];unfold uZ at hq;rcases br.lend with h|h|h
 . rw[ai h]at hq
   rw[h,Wf,uL];exact hq
 . rw[ae (by rw[h];decide+kernel),ai h]at hq
   rw[h,UQ,uL];exact hq
 . rw[ae (by rw[h];decide+kernel),ae (by rw[h];decide+kernel)]at hq
   rw[h,We,uL];exact hq
theorem x9(br:f.Ok)(hl:c.K.length<64)(old:∀κ,(κ,m)∈c.K->κ=bg f i)(hk:∀y∈c.K,∃i:bH,y.1=bg f i)(h8:σ[8]? =some (some i.r))(h9:σ[9]? =some (some (.ls ((pR c).map cE))))(h10:σ[10]? =some (some (led m)))(h11:σ[11]? =some (some (.int (uZ f))))(hq:(tr ((P e).Gn n) yw).S D σ L):(tr ((P e).Gn n) y7).S D σ L:=by
 have hlen:(pR c).length<64:=by unfold pR;rw[(Ak _).length_eq,bu];exact hl
 unfold y7;walk_at "evs";refine⟨by rw[bu];exact fM hlen ⋯,jJ (bd:=gv false 1) (λ_=>false) id iz _ _ (λy hy=>?_) ?_⟩
 . obtain⟨z,hz,rfl⟩:=aV.mp hy
   obtain⟨y,hy2,rfl⟩:=Xv hz;refine⟨[cE (nR y)],rfl,λK hK=>?_,λz=>by cases z⟩
   obtain⟨j,hj⟩:=hk y hy2;obtain⟨a,b,e1⟩:=rm (f:=f) (i:=j);exact QE (λz=>old y.1 (by rw[<-z];exact hy2)) br.lend ⟨a,b,_,_,_,hj.trans e1⟩ hK
 . rw[yg,id_eq,zD.mpr (λ_ _ h=>by cases h)]
   refine qyU rfl ?_;rw[nJ,ae ⋯]
   exact hq
theorem x10(h0:σ[0]? =some (some (.ref x)))(h1:σ[1]? =some (some (.ref g)))(h5:σ[5]? =some (some (.int road)))(hg:L g=some (bL e f.r rt rs rdd wi))(hq:aw (P e) n 19 [.ref g] L λv M1=>gg .Add v (.int 1) M1 λz M2=>aw (P e) n 42 [.ref x,.int road] M2 λy M3=>gg .Add z y M3 λw M4=>(tr ((P e).Gn n) vn).S D (σ.set 12 (some w)) M4):(tr ((P e).Gn n) yw).S D σ L:=by
 unfold yw;walk_at "evs"
end
section
variable {e:Env}{n:Nat}{M M0 L:RM}{Q:ao}{f:Fm}{road till:Int}{k b d:Nat}{c c':Cn}{tl:List Tk}{ql:List Qe}{ds ps fs:LR}{g r dl x:Addr}{m q:Int}{v:RV}{i:bH}{wd kd:Str}
theorem Tn.lends(G:Tn e M0 L g r dl f road k b c tl ql ds)(a:k<64)(h:Q (.ls ((pR c).map cE)) L):aw (P e) (n+1) 20 [.ref g] L Q:=by
 obtain⟨d,gt,j⟩:=G.gt;exact gt.lends a h
theorem Tn.kk(G:Tn e M0 L g r dl f road k b c tl ql ds)(hk:k<64):c.K.length<64/\∀y∈c.K,∃i:bH,y.1=bg f i:=by
 obtain⟨d,⟨_,h,M,G,_⟩,j⟩:=G.gt;exact⟨jU G.s1 hk,λy a=>(G.hk y a).1⟩
theorem Tn.out(G:Tn e M0 L g r dl f road k b c tl ql ds)(u:Gl e f road)(D:k<64)(A:b<890)(t:i.Ok)(y:Wo i.kind wd)(z:∀v j c' a,Tn e M0 j g r dl f road (k+1) (b+1) c' a ql ds->r8 f i c v c'->Q v j):
 aw (P e) (n+10) 72 [.ref g,.str i.kind,.int i.house,.int i.door,.int i.place,.int i.far,.str wd,.str ""] L Q:=by
 obtain⟨d,gt,C⟩:=G.gt;refine gt.out u.tb u.br ∅ ∅ t y λv c' a j l op=>z v j c' a ⟨⟨d+1,l,∅⟩,G.rw,G.dw,G.ne,λE w=>?_,G.so,G.lp⟩ op
 have h:=G.qk E w;rcases op with⟨_,s⟩|⟨m,_,o⟩
 . refine⟨by rw[s.nw];exact h.lo,by rw[s.nw];exact h.hi,?_,h.kw,h.p,h.q,h.m⟩
   have:=h.sf;unfold Sf gZ Rest at*;rw[s.K,s.U];exact this
 . exact⟨by rw[o.nw];exact h.lo,by rw[o.nw];exact h.hi,o.ev _ _ _ _ h.lo h.sf,h.kw,h.p,h.q,h.m⟩
theorem QD{g1:bS}{v:RV}{ww z14 z15 z16:RV}(G:Tn e M0 L g r dl f road k b c' tl ql ds)(gl:Gl e f road)(hk:k<64)(hb:b<830)(hx:M0 x=some g1.l)(n1:x≠r)(n2:x≠dl)(ok:g1.In 18)(oki:i.Ok)(ho:Wo i.kind wd)(kc:c.K.length<64)(kh:∀y∈c.K,∃i:bH,y.1=bg f i)(op:r8 f i c v c')
 (hq:∀M0' L' c' tl' ql',Tn e M0' L' g r dl f road k (b+4) c' tl' ql' ds->Q (.bl true) L'):
 (tr ((P e).Gn (n+10)) qx).S (rd Q) (sx x g r f road ww i wd (some (.ls ((pR c).map cE))) (some v) none none none (some z14) (some z15) (some z16) none none) L:=by
 have G4:Tn e M0 L g r dl f road k (b+4) c' tl ql ds:=by
  obtain⟨d,gt,hd⟩:=G.gt;exact { G with gt:=⟨d,gt,∅⟩ }
 rcases op with⟨hv,s⟩|⟨m,rfl,o⟩
 . have hz:∃z:Str,v=kept z/\(z= "full"∨z= "most"∨z= "astray"):=by
    rcases hv with rfl|rfl|rfl
    . exact⟨_,rfl,.inr (.inr rfl)⟩
    . exact⟨_,rfl,.inr (.inl rfl)⟩
    . exact⟨_,rfl,.inl rfl⟩
   obtain⟨z,rfl,hz⟩:=hz;exact x6k hz rfl (hq _ _ _ _ _ G4)
 . obtain⟨_,_,_,hg⟩:=G.gate
   refine x6l (m:=m) rfl ?_;refine x8 gl.br rfl ?_;dsimp only[List.set_cons_zero,List.set_cons_succ];refine x9 gl.br kc o.old kh rfl rfl rfl rfl ?_;refine x10 rfl rfl rfl hg ?_;refine G.moment (n:=n+9) ?_;rw[f7];have r1:=gl.r1;refine G.draw (n:=n+9) hx n1 n2 ok ⋯ ∅ ∅ λv g2 M2 L2 a1 b1 ok2 G hx=>?_
   rw[f7];dsimp only[List.set_cons_zero,List.set_cons_succ];exact qzc (th:=c'.now+1+v) G gl ∅ hx n1 n2 (ok2.le ⋯) oki ho o.mr o.ho ∅ ∅ λM0' L' ql' G=>hq _ _ _ _ _ G
theorem VH{I:bS}(G:Tn e M0 L g r dl f road k b c tl ql ds)(J:Gl e f road)(h:Wd ds ps fs)(hk:k<63)(hb:b<820)(hx:M0 x=some I.l)(u:x≠r)(w:x≠dl)(j:I.In 10)
 (Y:∀C H c' F E,Tn e C H g r dl f road (k+1) (b+5) c' F E ds->Q (.bl true) H):
 aw (P e) (n+11) 71 [.ref x,.ref g,f.r,.tup [.ref dl,.ls ps,.ls fs],.ref r,.int road] L Q:=by
 rw[us (i:=71) (d:=w5) rfl];refine⟨rfl,?_⟩;simp only[w5]
 change (tr ((P e).Gn (n+10)) zd).S (rd Q) [some (.ref x),some (.ref g),some f.r,some (.tup [.ref dl,.ls ps,.ls fs]),some (.ref r),some (.int road),none,none,none,none,none,none,none,none,none,none,none,none,none] L
 refine x0 rfl ?_;dsimp only[List.set_cons_zero,List.set_cons_succ];refine x1 rfl ?_;refine G.draw (n:=n+9) hx u w j ⋯ ⋯ ⋯ λv D M2 s l b1 j G hx=>?_
 obtain⟨kd,a,ey⟩:=vG ["note","line","note"] l b1
 change ∀{M:RM} {Q:ao},bM (.ls [.str "note",.str "line",.str "note"]) _ M Q=_ at ey
 rw[ey];have a:Kd kd:=by
  simp only[dh,sE,or_false]at a;rcases a with z|z|z
  . exact .inl z
  . exact .inr z
  . exact .inl z
 dsimp only[List.set_cons_zero,List.set_cons_succ];refine x2 a rfl ?_;dsimp only[List.set_cons_zero,List.set_cons_succ];refine x3 rfl rfl rfl rfl rfl ?_;refine G.draw (n:=n+9) hx u w j ⋯ ⋯ ⋯ λv D M2 s l b1 j G hx=>?_
 obtain⟨y,t,ey⟩:=p6 (xs:=ds) l (by rw[h.ld];exact b1)
 obtain⟨A,dd,rfl,N,O⟩:=h.hd y t;have X:∀{Q:ao},bM (.ref dl) (.int v) s Q=Q (.tup [.int A,.int dd]) s:=λ{Q}=>by
  have:=@ey s Q;rw[Li]at this;rw[Vp,G.at_ G.dw,JC];exact this
 rw[X,JP];refine⟨show 3<=sizeLine by decide,?_⟩
 refine G.draw (n:=n+9) hx u w j ⋯ ⋯ ⋯ λv D M2 s l b1 j G hx=>?_
 obtain⟨y,t,ey⟩:=p6 (xs:=ps) l (by rw[h.lp];exact b1)
 obtain⟨p,rfl,W⟩:=h.ap y t;rw[ey];refine G.draw (n:=n+9) hx u w j ⋯ ⋯ ⋯ λv D M2 s l b1 j G hx=>?_
 obtain⟨y,t,ey⟩:=p6 (xs:=fs) l (by rw[h.lf];exact b1)
 obtain⟨o,rfl,R⟩:=h.af y t;rw[ey,JP];refine⟨show 5<=sizeLine by decide,?_⟩
 dsimp only[List.set_cons_zero,List.set_cons_succ,List.cons_append,List.nil_append];obtain⟨_,_,_,U⟩:=G.gate;refine x4 rfl U ?_;refine G.lends (n:=n+9) ∅ ?_
 dsimp only[List.set_cons_zero,List.set_cons_succ];obtain⟨Z,kh⟩:=G.kk ∅
 refine x5 (i:=⟨kd,A,dd,p,o⟩) rfl rfl rfl U ?_;refine G.out (n:=n) (i:=⟨kd,A,dd,p,o⟩) J ∅ ∅ ⟨a,N,O,W,R⟩ (Lp a) λv L3 c3 tl3 G op=>?_
 dsimp only[List.set_cons_zero,List.set_cons_succ];exact QD (i:=⟨kd,A,dd,p,o⟩) G J ∅ ∅ hx u w (j.le ⋯) ⟨a,N,O,W,R⟩ (Lp a) Z kh op Y
end
section
variable {e:Env}{n:Nat}{M M0 L:RM}{Q:ao}{f:Fm}{road till:Int}{k b d:Nat}{c c':Cn}{tl:List Tk}{ql:List Qe}{ds ps fs:LR}{g r dl x:Addr}{m q:Int}{v:RV}
noncomputable abbrev sl (sc:RV) (a:Option RV) (road:Int) (f:Fm) (dl:Addr) (ps fs:LR) (g r:Addr) (xs:List Int) (h:Option RV):List (Option RV):=[some sc,a,some (.int road),some f.r,some (.tup [.ref dl,.ls ps,.ls fs]),some (.ref g),some (.ref r),some (.ls (xs.map RV.int)),h]
theorem YC{D:RD}{sc:RV}{xs:List Int}(G:Tn e M0 L g r dl f road k b c tl ql ds)(E:Gl e f road)(A:Wd ds ps fs)(O:k<63)(hb:b<800)(h0:0<=j)(N:j<1000)(hx:0<xs.length)(R:xs.length<1000)
 (U:∀H l C c' y w,Tn e l C g r dl f road (k+1) (b+6) c' y w ds->D.nx (sl sc H road f dl ps fs g r xs (some (.int j))) C):
 (tr ((P e).Gn (n+12)) By).S D (sl sc H road f dl ps fs g r xs (some (.int j))) L:=by
 unfold By;walk_at "z";refine Um (n:=n+10) h0 N hx R λx h a W=>?_
 have s:x≠r:=λz=>by have:=G.at_ G.rw;rw[<-z,a]at this;cases this
 have F:x≠dl:=λz=>by have:=G.at_ G.dw;rw[<-z,a]at this;cases this
 have G:=G.new (u:=h.l) a;have i:put M0 x h.l x=some h.l:=bJ;generalize put M0 x h.l=M1 at G i;generalize put L x h.l=L1 at G ⊢;obtain⟨_,_,_,J⟩:=G.gate;unfold Lg;walk_at "ev";rw[J];walk_at "ev";refine G.moment (n:=n+11) ?_;refine G.draw (n:=n+11) i s F W ⋯ ⋯ ⋯ λv g2 M2 L2 a1 b1 t G o=>?_
 rw[f7];refine K1 (n:=n+1) G E ∅ ∅ ∅ ∅ λM3 L3 c3 Z X G I _=>?_
 rw[nJ,ae ⋯]
 unfold Kn;walk_at "ev";refine VH (n:=n+1) G E A O ∅ (I x _ s o) s F (t.le ⋯) λM4 L4 c4 tl4 Y G=>?_
 rw[nJ,ae ⋯]
 (try walk_at "ev")
 exact U _ _ _ _ _ _ G
theorem Wx{n c:Nat}(h:c<(nums n).length):(nums n)[c]=RV.int (c:Int):=by simp[nums]
theorem rg8{x:RV}{a h i j l o s t u:Option RV}{r:List (Option RV)}{K:List (Option RV)->RM->Prop}:i7 8 x (a::h::i::j::l::o::s::t::u::r) M K=K (a::h::i::j::l::o::s::t::some x::r) M:=rfl
theorem qyZ{a p:Addr}(i:M a=some (.lst []))(j:M p=some (.lst []))(l:Q (.bl true) M):ee .Eq (.ref a) (.ref p) M Q:=by
 have e1:cz M (.ref a)= .ls []:=by unfold cz;dsimp only;rw[i]
 have h:cz M (.ref p)= .ls []:=by unfold cz;dsimp only;rw[j]
 show aB 16 (cz M (.ref a))=true/\aB 16 (cz M (.ref p))=true/\Q (.bl (aY (cz M (.ref a)) (cz M (.ref p)))) M;rw[e1,h,show aY (.ls []) (.ls [])=true by simp[aY,eV]]
 exact⟨rfl,rfl,l⟩
theorem qzg{sc:RV}(G:Tn e M0 L g r dl f road k b c tl ql ds)(o:Gl e f road)(w:k<64)(R:b<800)(y:∀l,l e.lP=some (cY e)->Q (.bl true) l):
 (tr ((P e).Gn (n+12)) Ce).S (rd Q) (sl sc z1 road f dl ps fs g r xs z8) L:=by
 obtain⟨_,_,_,u⟩:=G.gate;have r1:=o.r1;unfold Ce;walk_at "ev";rw[u];walk_at "ev";refine G.moment (n:=n+11) ?_;refine⟨pY ⋯ ⋯,?_⟩
 rw[f7];refine K1 (n:=n+1) G o w ∅ ∅ ∅ λM3 F J D a G3 N h=>?_
 obtain⟨O,s,t⟩:=h;have e0:a= []:=by
  cases a with
  |nil=>rfl
  |cons E rest=>
   have H:=s E (.head _);have I:=(G.qk E (t E (.head _))).hi;omega
 subst e0;rw[mD,ai rfl];intro p h;have j:=G3.at_ G3.rw;have i:=G3.at_ G3.lp;have C:r≠p:=λz=>by rw[z,h]at j;cases j
 have A:e.lP≠p:=λz=>by rw[z,h]at i;cases i
 exact qyZ ((put_ne C).trans j) bJ (y _ ((put_ne A).trans i))
theorem YD{sc:RV}{xs:List Int}(G:Tn e M0 L g r dl f road 0 0 c tl ql ds)(gl:Gl e f road)(wds:Wd ds ps fs)(hx:0<xs.length)(hl:xs.length<63)(hq:∀M',M' e.lP=some (cY e)->Q (.bl true) M'):
 (tr ((P e).Gn (n+12)) Cf).S (rd Q) (sl sc z1 road f dl ps fs g r xs none) L:=by
 unfold Cf;walk_at "ev";rw[bu];generalize hN:(if(xs.length:Int) > 16 then(xs.length:Int)else 16)=N
 have nn:0<=N/\N<63:=by rw[<-hN];split<;>omega
 refine⟨∅,∅,?_⟩
 refine AQ (λys σ M=>∃(k:Nat) (M0:RM) (c:Cn) (tl:List Tk) (ql:List Qe) (z1 z8:Option RV),ys=(nums N.toNat).drop k/\k+ys.length=N.toNat/\Tn e M0 M g r dl f road k (6*k) c tl ql ds/\σ=sl sc z1 road f dl ps fs g r xs z8) (λ_ _ _ _=>iz) (λσ M h=>?_) (λy ys σ M W h hW=>?_) _ _ _ ⟨0,M0,c,tl,ql,_,_,rfl,by rw[mm];omega,G,rfl⟩
 . obtain⟨k,M0,c,tl,ql,z1,z8,h1,h2,G,rfl⟩:=h
   rw[vR]at h2;dsimp only;exact qzg G gl ∅ ∅ hq
 . obtain⟨k,M0,c,tl,ql,z1,z8,h1,h2,G,rfl⟩:=h
   rw[bG]at h2;have hc:k<(nums N.toNat).length:=by rw[mm];omega
   rw[List.drop_eq_getElem_cons hc]at h1;injection h1 with e1 e2
   have e1:y= .int (k:Int):=by rw[e1,Wx]
   subst e1;rw[rg8];refine YC G gl wds ∅ ∅ ∅ ∅ hx ∅ λz1 M0' L' c' tl' ql' G'=>?_
   exact hW _ _ ⟨k+1,M0',c',tl',ql',_,_,e2,∅,by rw[show 6*(k+1)=6*k+6 by omega];exact G',rfl⟩
theorem ZC(tb:Tb e)(htb:M e.lP=some (cY e)){xs:List Int}(hq:∀M',M' e.lP=some (cY e)->Q (.bl true) M'):aw (P e) (n+13) 21 [.ls (xs.map RV.int)] M Q:=by
 rw[us (i:=21) (d:=rR) rfl];refine⟨rfl,?_⟩;simp only[rR];unfold GQ;walk_at "z";refine(Ia (n:=n+11) (xs:=xs) (k:=0)).mpr ?_;refine ym (n:=n+11) λp1 h1=>?_
 unfold GP;walk_at "z";refine gh (n:=n+11) bJ xX ⋯ ⋯ ⋯ λv1 g1 a1 b1 ok1=>?_
 rw[f7,eZ];unfold GO;walk_at "z";refine Uo (n:=n+10) (road:=1+v1) ⟨∅,∅⟩ bJ (ok1.le ⋯) λf g3 br t3 ok3=>?_
 rw[eZ];have l1:put M p1 g3.l e.lP=some (cY e):=(put_ne (λz=>by rw[z,h1]at htb;cases htb)).trans htb
 generalize put M p1 g3.l=M1 at l1 ⊢;unfold GN;walk_at "z";refine(Ia (n:=n+11) (xs:=xs) (k:=1)).mpr ?_;refine ym (n:=n+11) λp2 h2=>?_
 refine Td (n:=n+10) br bJ xX λds ps fs g4 dl wds nd hd=>?_
 rw[eZ];obtain⟨hd0,nd2⟩:=xN hd;have l2:put (put M1 p2 g4.l) dl (.lst ds) e.lP=some (cY e):=by
  rw[put_ne (λz=>by rw[z,hd0]at l1;cases l1),put_ne (λz=>by rw[z,h2]at l1;cases l1)];exact l1
 have d2:put (put M1 p2 g4.l) dl (.lst ds) dl=some (.lst ds):=bJ;generalize put (put M1 p2 g4.l) dl (.lst ds)=M2 at l2 d2 ⊢;unfold GL;walk_at "z";intro g hg;refine Uv (n:=n+5) br hg λM3 gr=>⟨rfl,?_⟩
 have gt:=gr.gt br;unfold GK;walk_at "z";intro r hr;have gt:=gt.new (o:=.lst []) hr;have nr1:e.lP≠r:=λz=>by have:=(gr.gt br).at_ l2;rw[z,hr]at this;cases this
 have nr2:dl≠r:=λz=>by have:=(gr.gt br).at_ d2;rw[z,hr]at this;cases this
 have G:Tn e (put M2 r (.lst [])) (put M3 r (.lst [])) g r dl f (1+v1) 0 0 (zR f) [] [] ds:=⟨⟨0,gt,aK _⟩,bJ,(put_ne nr2).trans d2,bZ nr2,fz _,List.Pairwise.nil,(put_ne nr1).trans l2⟩;unfold GJ;walk_at "z";have e1:fy (xs.map RV.int) (some 2) (some 63)=((xs.drop (HT.aQ xs.length 0 (some 2))).take (HT.aQ xs.length xs.length (some 63)-HT.aQ xs.length 0 (some 2))).map RV.int:=by unfold fy;rw[bu,List.map_take,List.map_drop]
 have e3:HT.aQ xs.length 0 (some 2)=min 2 xs.length:=by rw[show(2:Int)=((2:Nat):Int)from rfl,HT.hG]
 rw[e1];have ly:((xs.drop (HT.aQ xs.length 0 (some 2))).take (HT.aQ xs.length xs.length (some 63)-HT.aQ xs.length 0 (some 2))).length<=61:=by
  have e4:HT.aQ xs.length xs.length (some 63)=min 63 xs.length:=by rw[show(63:Int)=((63:Nat):Int)from rfl,HT.hG]
  rw[vW,vX,e3,e4];omega
 generalize (xs.drop (HT.aQ xs.length 0 (some 2))).take (HT.aQ xs.length xs.length (some 63)-HT.aQ xs.length 0 (some 2))=ys at ly ⊢;refine⟨by rw[bu];exact bR (show ys.length+1<=62 by omega) ⋯,?_⟩
 rw[show ys.map RV.int++ [RV.int 0]=(ys++ [0]).map RV.int from by rw[eW];rfl]
 exact YD (xs:=ys++ [0]) G ⟨tb,br,⟨∅,∅⟩,t3⟩ wds (by rw[eQ];exact Nat.succ_pos _) (by rw[eQ];show ys.length+1<63;omega) hq
end
def Cx:Nat->Addr:=λi=>([338,411,432,552,760]:List Addr).getD i 0
noncomputable def J6:List (Str×Addr):=[("out",113),("come",120),("lost",127),("wait",134),("rule",141),("unrule",148)]
noncomputable def ID:List (Str×Int):=[("note",0),("asked",1),("called",1),("up",2),("near",2),("far",2)]
noncomputable def yZ:Env:=⟨λx=>if x= "DEEDS" then wM J6 else if x= "TIME_AT" then gf ID else [],Cx,[(113,9),(120,10),(134,11)],546⟩
noncomputable def G0:List (FD×FA):=[(xE,fD H20.wy),(xI,fD H20.wA),(xr,fD H20.wB),(xH,fD H20.wC),(wX,fD H20.wD),(xG,fD H20.wF),(xp,fD H20.wG),(IG,fD H20.wJ),(xD,⟨"is_text","is_text",Sh,99,98,.str "lentgate.ends" 194⟩),(uA,fD H20.j4),(uI,fD H20.j5),(uH,fD H20.j6)]
noncomputable def G1:List (FD×FA):=[(xB,fD H20.j7),(xt,fD H20.j8),(xF,⟨"is_times","is_times",R5,228,227,.str "lentgate.forms" 475⟩),(xq,fD H20.ka),(tL,fD H20.kn),(ue,fD H20.kA),(tS,fD H20.kJ),(t7,fD H20.k7),(tM,⟨"lends","Gate.lends",Rg,638,637,.str "lentgate.gate" 1101⟩),(rR,fD H20.lQ)]
noncomputable def G2:List (FD×FA):=[(xC,fD H20.wH),(xo,fD H20.j9),(xh,fD H20.ke),(xA,fD H20.kf),(xm,fD H20.kj),(uk,fD H20.kr),(uq,fD H20.kD),(tJ,fD H20.kG),(uc,fD H20.kH),(t9,fD H20.kK),(ua,fD H20.kL),(tK,⟨"held","Talks.held",Rf,502,501,.str "lentgate.talks" 894⟩)]
noncomputable def G3:List (FD×FA):=[(aG,⟨"pass_by","Talks.pass_by",Q3,549,548,.str "lentgate.talks" 894⟩),(uy,fD H20.kW),(uz,fD H20.kX),(uw,fD H20.kZ),(ux,fD H20.k9),(ub,fD H20.lx),(xj,fD H20.lF),(xi,fD H20.lG),(qY,fD H20.lJ),(xk,fD H20.lL),(xl,⟨"_law_a_form","_law_a_form",Q5,797,796,.str "law_lentgate_k20_whole_no_answer_astray" 1425⟩),(wV,⟨"_law_a_world","_law_a_world",Q8,814,813,.str "law_lentgate_k20_whole_no_answer_astray" 1425⟩)]
noncomputable def G4:List (FD×FA):=[(wW,fD H20.wz),(xg,fD H20.j3),(wZ,fD H20.kl),(ur,fD H20.kq),(tV,fD H20.ku),(uu,fD H20.kE),(tP,⟨"is_with","Talks.is_with",Q4,469,468,.str "lentgate.talks" 894⟩),(tH,fD H20.kM),(pC,fD H20.kQ),(ud,fD H20.kN),(uo,fD H20.kU),(ma,fD H20.k8)]
noncomputable def G5:List (FD×FA):=[(tQ,fD H20.lj),(tN,fD H20.lu),(tX,fD H20.lA),(t8,fD H20.lE),(xa,⟨"_law_later","_law_later",Rc,802,801,.str "law_lentgate_k20_whole_no_answer_astray" 1425⟩),(wY,fD H20.lM)]
noncomputable def G6:List (FD×FA):=[(xn,fD H20.km),(tZ,fD H20.kC),(pG,fD H20.kO),(t6,fD H20.lD)]
noncomputable def G7:List (FD×FA):=[(pE,fD H20.kF),(pF,fD H20.kI)]
noncomputable def G8:List (FD×FA):=[(tY,fD H20.lz),(w5,⟨"_law_wrote","_law_wrote",Rb,819,818,.str "law_lentgate_k20_whole_no_answer_astray" 1425⟩)]
noncomputable def G9:List (FD×FA):=[(um,fD H20.kY)]
section
variable(Pm:Params)
theorem b0:jr (H20.K0 Pm) S Cx 546 1 G0=true:=by kernel_rfl
theorem l0:jf (H20.K0 Pm) G0:=by kernel_rfl
theorem u0:uT G0 1:=jk (n:=1) λ_=>by show _=_;kernel_rfl
theorem b1:jr (H20.K0 Pm) S Cx 546 1 G1=true:=by kernel_rfl
theorem l1:jf (H20.K0 Pm) G1:=by kernel_rfl
theorem u1:uT G1 1:=jk (n:=1) λ_=>by show _=_;kernel_rfl
theorem b2:jr (H20.K0 Pm) S Cx 546 2 G2=true:=by kernel_rfl
theorem l2:jf (H20.K0 Pm) G2:=by kernel_rfl
theorem u2:uT G2 2:=jk (n:=2) λ_ _=>by show _=_;kernel_rfl
theorem b3:jr (H20.K0 Pm) S Cx 546 2 G3=true:=by kernel_rfl
theorem l3:jf (H20.K0 Pm) G3:=by kernel_rfl
theorem u3:uT G3 2:=jk (n:=2) λ_ _=>by show _=_;kernel_rfl
theorem b4:jr (H20.K0 Pm) S Cx 546 3 G4=true:=by kernel_rfl
theorem l4:jf (H20.K0 Pm) G4:=by kernel_rfl
theorem u4:uT G4 3:=jk (n:=3) λ_ _ _=>by show _=_;kernel_rfl
theorem b5:jr (H20.K0 Pm) S Cx 546 3 G5=true:=by kernel_rfl
theorem l5:jf (H20.K0 Pm) G5:=by kernel_rfl
theorem u5:uT G5 3:=jk (n:=3) λ_ _ _=>by show _=_;kernel_rfl
theorem b6:jr (H20.K0 Pm) S Cx 546 4 G6=true:=by kernel_rfl
theorem l6:jf (H20.K0 Pm) G6:=by kernel_rfl
theorem u6:uT G6 4:=jk (n:=4) λ_ _ _ _=>by show _=_;kernel_rfl
theorem b7:jr (H20.K0 Pm) S Cx 546 5 G7=true:=by kernel_rfl
theorem l7:jf (H20.K0 Pm) G7:=by kernel_rfl
theorem u7:uT G7 5:=jk (n:=5) λ_ _ _ _ _=>by show _=_;kernel_rfl
theorem b8:jr (H20.K0 Pm) S Cx 546 6 G8=true:=by kernel_rfl
theorem l8:jf (H20.K0 Pm) G8:=by kernel_rfl
theorem u8:uT G8 6:=jk (n:=6) λ_ _ _ _ _ _=>by show _=_;kernel_rfl
theorem b9:jr (H20.K0 Pm) S Cx 546 8 G9=true:=by kernel_rfl
theorem l9:jf (H20.K0 Pm) G9:=by kernel_rfl
theorem u9:uT G9 8:=jk (n:=8) λ_ _ _ _ _ _ _ _=>by show _=_;kernel_rfl
theorem Qz:(S.bl.all λx=>rW (PySem.W.nsIn (H20.K0 Pm) mainGlobals x))=true:=by kernel_rfl
theorem QS:(S.gi.all λx=>yY x.2 (PySem.W.nsIn (H20.K0 Pm) mainGlobals x.1))=true:=by kernel_rfl
theorem QR:(S.gt.all λx=>yG (H20.K0 Pm) x.2 (PySem.W.nsIn (H20.K0 Pm) mainGlobals x.1))=true:=by kernel_rfl
theorem QU:(S.cl.zipIdx.all λx=>qv (H20.K0 Pm) (Cx x.2)&&nS (Cx x.2) (PySem.W.nsIn (H20.K0 Pm) mainGlobals x.1))=true:=by kernel_rfl
theorem QT:(S.fs.all λx=>qv (H20.K0 Pm) (Cx x.1)&&rW (PySem.W.findIn (H20.K0 Pm) (.ref (Cx x.1)) x.2))=true:=by kernel_rfl
theorem QW:zP (H20.K0 Pm) 546=true:=by kernel_rfl
theorem QV:xY (H20.K0 Pm) 548 546=true:=by kernel_rfl
theorem Gz:(H20.K0 Pm).lookup 546=none:=by kernel_rfl
end
section
variable {w:World}{h:Heap}{mg:bo}(X:(H20.K0 w.2).In h)(G:h.Ns mainGlobals mg)
include X G
theorem GB:∀x∈(G0++(G1++(G2++(G3++(G4++(G5++(G6++(G7++(G8++G9))))))))),jE (H20.K0 w.2) mg S Cx 546 x.1 x.2.g (fdOf x.2):=(mh (jG X G (b0 _) (l0 _) u0) (mh (jG X G (b1 _) (l1 _) u1) (mh (jG X G (b2 _) (l2 _) u2) (mh (jG X G (b3 _) (l3 _) u3) (mh (jG X G (b4 _) (l4 _) u4) (mh (jG X G (b5 _) (l5 _) u5) (mh (jG X G (b6 _) (l6 _) u6) (mh (jG X G (b7 _) (l7 _) u7) (mh (jG X G (b8 _) (l8 _) u8) (jG X G (b9 _) (l9 _) u9))))))))))
theorem Wn:∀d∈S.fd,∃g fd,jE (H20.K0 w.2) mg S Cx 546 d g fd:=YE (by rfl) (GB X G)
omit X G in
theorem Y8(o:Option Str):H20.hx w.2 o=wQ w (o.map Sum.inr):=by cases o<;>rfl
noncomputable def tks:List (ak):=[[.str "house" 567,.none,.str "open" 568],[.str "house" 570,.str "asked" 571,.str "open" 572],[.str "house" 574,.str "called" 575,.str "open" 576],[.str "house" 578,.str "up" 579,.str "say" 580],[.str "house" 582,.str "far" 583,.str "say" 584],[.str "house" 586,.str "up" 587,.str "close" 588],[.str "house" 590,.str "far" 591,.str "close" 592],[.str "far" 594,.none,.str "open" 595],[.str "far" 597,.str "called" 598,.str "open" 599],[.str "far" 601,.str "asked" 602,.str "open" 603],[.str "far" 605,.str "up" 606,.str "say" 607],[.str "far" 609,.str "near" 610,.str "say" 611],[.str "far" 613,.str "up" 614,.str "close" 615],[.str "far" 617,.str "near" 618,.str "close" 619]]
theorem WR:qd PySem.Challenge.pw_lentgate_k20_whole_no_answer_astray w (H20.K0 w.2) mg "LINE_STEPS" ((S.tt.lookup ("LINE_STEPS":Str)).getD []):=Vh (tk:=tks) (kt:=H20.kt) (vt:=H20.vt) (hx:=H20.hx w.2) (mX X G (n:="LINE_STEPS") (v:=.ref 250) (by kernel_rfl)) (show(H20.K0 w.2).lookup 250=some (H20.DD w.2) by kernel_rfl) ⋯ (by kernel_rfl) Y8 (by kernel_rfl) (by decide+kernel) (by decide+kernel) (by decide+kernel)
theorem XU:Hd PySem.Challenge.pw_lentgate_k20_whole_no_answer_astray w (H20.K0 w.2) mg (P yZ):=by
 refine qyu X G (Qz _) (QS _) (QR _) (QU _) (QT _) ?_ (λx l hx=>by obtain⟨rfl,rfl⟩:=U3 hx;exact WR X G) (Wn X G) (λ_ _ _ _=>⟨⋯,λh X2=>qy1 X G (QW _) X2⟩) ?_
 . show ∀x∈[("DEEDS":Str),("TIME_AT":Str)],_
   refine vZ.mpr ⟨show KTab _ _ _ _ _ (wM J6)from Vk (mX X G (n:="DEEDS") (v:=.ref 149) (by kernel_rfl)) (show(H20.K0 w.2).lookup 149=some (H20.qE w.2) by kernel_rfl) ⋯ ⟨⟨_,rfl⟩,rfl,rfl,⟨_,rfl⟩,rfl,rfl,⟨_,rfl⟩,rfl,rfl,⟨_,rfl⟩,rfl,rfl,⟨_,rfl⟩,rfl,rfl,⟨_,rfl⟩,rfl,rfl,trivial⟩ (by decide+kernel),?_⟩
   refine vZ.mpr ⟨show KTab _ _ _ _ _ (gf ID)from Vj (mX X G (n:="TIME_AT") (v:=.ref 216) (by kernel_rfl)) (show(H20.K0 w.2).lookup 216=some (H20.qF w.2) by kernel_rfl) ⋯ ⟨⟨_,rfl⟩,rfl,⟨_,rfl⟩,⟨_,rfl⟩,rfl,⟨_,rfl⟩,⟨_,rfl⟩,rfl,⟨_,rfl⟩,⟨_,rfl⟩,rfl,⟨_,rfl⟩,⟨_,rfl⟩,rfl,⟨_,rfl⟩,⟨_,rfl⟩,rfl,⟨_,rfl⟩,trivial⟩ (by decide+kernel),?_⟩
   exact fz _
 . show ∀q∈[((113:Addr),(9:Nat)),((120:Addr),(10:Nat)),((134:Addr),(11:Nat))],_
   refine vZ.mpr ⟨⟨uA,rfl,rfl,by kernel_rfl⟩,?_⟩
   refine vZ.mpr ⟨⟨uI,rfl,rfl,by kernel_rfl⟩,?_⟩
   refine vZ.mpr ⟨⟨uH,rfl,rfl,by kernel_rfl⟩,?_⟩
   exact fz _
end
def aL:FA:=⟨"law","law",ZT,826,825,H20.iU⟩
theorem tbE:Tb yZ:=⟨⟨_,by rfl,.head _⟩,⟨_,by rfl,.tail _ (.head _)⟩,⟨_,by rfl,.tail _ (.tail _ (.head _))⟩,by rfl,by rfl,by rfl,by rfl,by rfl,by rfl⟩
theorem Ve(ns:List Int):aw (P yZ) 13 21 [.ls (ns.map RV.int)] (rQ 546 S.lp S.lq) (λv M2=>v= .bl true/\M2 546=some (.tb 546 S.lp S.lq)):=ZC tbE Jv λ_ h=>⟨rfl,h⟩
theorem lV{p:Params}(X:(H20.K p).In h):(H20.K0 p).In h/\h.get? 546=some (PySem.W.tabObj #[]):=
 ⟨λa o e=>X a o (by show List.lookup a (H20.K0 p++_)=_;rw[List.lookup_append,e];rfl),X 546 _ (by show List.lookup _ (H20.K0 p++_)=_;rw[List.lookup_append,Gz];rfl)⟩
theorem walk{l:PySem.W.OpenLaw}{q:Program}{loose:aA}{XP:(bo)->Heap->Prop}{YP:World->Heap->Prop}{d:DefRec}(hn:l.most=some 63)(hp:l.prog=PySem.Challenge.pw_lentgate_k20_whole_no_answer_astray)(hdn:d.name= "law")(hdf:d.params.defaults= [])
 (hY:∀(w:World) (h:Heap),YP w h->(H20.K0 w.2).In h/\h.get? 546=some (PySem.W.tabObj #[])):PySem.W.WalkO q loose XP YP l.row.toRowW d [] (λf vs=>PySem.call f vs):=by
 refine R.jC (n:=63) (k:=13+1) (x:="script") (K:=H20.K0) (sp:=aw (P yZ) 13 21) (T:=546) (c:=548) (pos:=S.lp) (lq:=S.lq) hn ⋯ hdf ⟨rfl,⋯,⋯⟩ hY Gz (λp h X=>IK (QV p) X) (λw mg fa h X G hm=>?_) λns _=>Ve ns
 have hl:=GB X G (rR,aL) (dW.mpr (.inr (dW.mpr (.inl (.tail _ (.tail _ (.tail _ (.tail _ (.tail _ (.tail _ (.tail _ (.tail _ (.tail _ (.head _))))))))))))));have hf:=hl.k0 rfl;rw[hdn]at hm;have:fa=aL.g:=by have:=hm.symm.trans hf;injection this with this;injection this
 subst this;rw[hp];exact⟨fdOf aL,λs u=>.of_eq (by kernel_rfl),λbase kb _=>(Aa (XU X G) kb 13 21 rR aL.g (fdOf aL) rfl hl).1⟩
end K20
open PySem PySem.W PyProof.Rows
theorem K20.wa:looksOpen PySem.Challenge.pw_lentgate_k20_whole_no_answer_astray=true:=by kernel_rfl
theorem K20.wb:(PySem.Challenge.rw_lentgate_k20_whole_no_answer_astray).row.wellSaid=true:=by
 delta OpenRow.wellSaid OpenRow.partSaid
 rw[show looksOpen (PySem.Challenge.rw_lentgate_k20_whole_no_answer_astray).row.prog=true from K20.wa];kernel_rfl
theorem K20.ws:PySem.Challenge.rw_lentgate_k20_whole_no_answer_astray.wellSaid=true:=by
 delta OpenLaw.wellSaid
 rw[K20.wb];kernel_rfl
theorem PySem.Challenge.cw_lentgate_k20_whole_no_answer_astray_holds : PySem.Challenge.rw_lentgate_k20_whole_no_answer_astray.Holds := by
 w_on;refine PySem.W.holds_law K20.ws λsaid=>?_
 refine PySem.W.holds_open (r:=(PySem.Challenge.rw_lentgate_k20_whole_no_answer_astray).row) (q:=H20.q) (loose:=H20.loose) (Xt:=H20.Xt) (XP:=PySem.W.XL H20.q [])
  (Yf:=(PySem.W.kHook H20.K H20.ks H20.gQ).obs) (Ya:=(PySem.W.kHook H20.K H20.ks H20.gQ).val) (YP:=(PySem.W.kHook H20.K H20.ks H20.gQ).says) (N:=H20.NN)
  H20.left (PySem.W.Hook.of _) (PySem.W.Hook.keeps _) (λs e=>PySem.W.xl_of s (Bool.and_eq_true_iff.mp e).1) PySem.W.XL.keeps (by rfl) (by rfl) (by rfl)
  (λs e=>PySem.W.recFacts_of (Bool.and_eq_true_iff.mp e).2) (by rfl) (by assumption) (by decide+kernel) ⟨rfl,rfl,rfl,rfl,rfl,by decide+kernel⟩ ?hw ?hc
 (case hw=>w_witness2)
 k_fill
 exact K20.walk (l:=PySem.Challenge.rw_lentgate_k20_whole_no_answer_astray) rfl rfl rfl rfl (λw h Y=>K20.lV (PySem.W.kIn_of Y))
