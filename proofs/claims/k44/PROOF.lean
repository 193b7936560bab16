import PyProof.Rows.All
import Wide.All
import OpenK.AllK
import Wide.FinOn
import Lean
import PyProof.EqAt
import PyProof.EqKinds
import PyProof.TupleCall
import PyProof.NeKinds
import PyProof.ZipIter
import KE.KSortTup
import KE.KDictSum
import PyProof.FString5
import KE.KSortedM
import KE.KEqDict
import PyProof.DictWalks
import KE.KDictList
import PyProof.Conv_int_bool
import KE.KSortKey
import KE.KLam
import KE.KIntText
import PyProof.Rows.EnumRows
import PySem.Challenge.RW_lentgate_k44_whole_behind_a_wide_gate
set_option Elab.async false
set_option linter.all false
set_option maxRecDepth 100000
set_option genInjectivity false
set_option genSizeOfSpec false
set_option genSizeOf false
set_option bootstrap.genMatcherCode false
set_option maxHeartbeats 0
set_option autoImplicit true
local macro_rules|`(∅)=>`(by lia)
local macro_rules|`(⋯)=>`(by decide)
abbrev ah:=PySem.W.Frag
def eA1:=@PySem.W.Fast.te10110043849684766642
def eB1:=@PySem.W.Fast.te14364793385576792824
def ai:=@PySem.wpAny_bind
def bx:=@PySem.Heap.get?_push_of_some
def aA:=@List.mem_map
def ab:=@if_neg
def aW:=@List.length_map
def bj:=@Bool.and_eq_true
def aD:=@Nat.le_refl
def aC:=@PySem.wpAny_pure
def ag:=@if_pos
def bW:=@List.length_cons
def bp:=@List.map_map
def c0:=@PySem.Heap.get?_push_size
def cb:=@List.mem_filter
def bB:=@PySem.Heap.lt_size
def bX:=@List.map_cons
def cu:=@decide_eq_true
def bQ:=@Nat.le_trans
def c6:=@List.mem_append
def eG:=@List.mem_singleton
def gP:=@List.mem_of_find?_eq_some
def eI:=@of_decide_eq_true
def eX:=@List.size_toArray
def fA:=@Nat.lt_of_lt_of_le
def fF:=@List.length_append
def eC:=@List.map_append
def cE:=@Nat.ne_of_lt
def gm:=@List.forall_mem_nil
def mG:=@PySem.W.Fast.te10295753902157049106
def eV:=@Option.some.inj
def fx:=@List.all_eq_true
def fR:=@List.getElem?_map
def fy:=@decide_eq_false
def i8:=@List.mem_append_right
def iI:=@Bool.false_ne_true
def iJ:=@Nat.lt_of_le_of_lt
def fz:=@List.all_cons
def ib:=@decide_eq_true_eq
def jw:=@List.mem_of_getElem?
def aU:=@absurd
def fC:=@List.mem_cons
def jY:=@List.length_filter_le
def mH:=@List.getElem?_eq_some_iff
def jx:=@List.map_congr_left
def iK:=@PySem.wpAny_call_entry
def i9:=@Bool.not_eq_true'
def iL:=@List.nodup_cons
def jy:=@List.filter_congr
def kK:=@Bool.false_eq_true
def jZ:=@List.find?_eq_none
def gn:=@Nat.lt_trans
def eW:=@beq_iff_eq
def ju:=@List.filter_cons
def jW:=@PySem.wpAny_truthy_bool
def jX:=@PySem.wpAny_newObj_type
def rS:=@List.getElem?_append_left
def nM:=@Option.map_eq_some_iff
def mF:=@List.filter_eq_self
def nN:=@List.mem_cons_of_mem
def cx:=@Ne.symm
def iH:=@Nat.zero_add
def jv:=@List.mem_range
def kL:=@List.nil_append
def j4:=@List.find?_some
def kM:=@decide_eq_decide
def nQ:=@beq_eq_false_iff_ne
def mK:=@PySem.W.emptyDict
def mL:=@Option.some.injEq
def wB:=@PyProof.Rows.callWith_type1
def jz:=@PySem.wpAny_holding
def zR:=@PyProof.Rows.slot_tuple_getitem
def nR:=@List.pairwise_map
def gQ:=@PySem.wpAny_mono
def j5:=@Nat.lt_irrefl
def mM:=@List.find?_cons
def ja:=@Nat.le_succ
def nS:=@List.lookup_cons
def uj:=@Bool.and_eq_true_iff
def uk:=@List.forall_mem_cons
def gG:=@LawfulBEq.eq_of_beq
def kN:=@List.any_cons
def mN:=@PySem.W.mg_of
def wC:=@List.length_eq_zero_iff
def mP:=@List.nodup_nil
def rV:=@Option.isSome_map
def nT:=@PySem.W.instObj
def nU:=@List.append_nil
def um:=@List.replicate_succ
def nO:=@List.filter_map
def wq:=@List.filter_eq_nil_iff
def uc:=@Int.emod_lt_of_pos
def j3:=@Nat.zero_le
def zK:=@Option.isSome_iff_exists
def rT:=@PySem.W.kia_one
def ud:=@PySem.wpAny_dictEntries
def mJ:=@Nat.le_of_lt
def zL:=@Nat.add_sub_cancel_left
def wt:=@List.mem_map_of_mem
def wu:=@List.mem_filterMap
def wx:=@List.mem_cons_self
def wy:=@List.filter_filter
def ue:=@Nat.not_lt_zero
def uf:=@Option.map_some
def zM:=@List.length_replicate
def ug:=@List.forIn_cons
def uh:=@Int.emod_nonneg
def wz:=@List.length_range
def zN:=@List.mem_append_left
def wA:=@PySem.W.plainGet
def ui:=@List.map_nil
def zO:=@PySem.W.callWith_K
def zP:=@PySem.W.hasDictIn
def zQ:=@List.flatten_cons
def rU:=@Int.le_refl
def zJ:=@Nat.lt_succ_of_le
noncomputable section
abbrev aF:=List (PySem.Addr×PySem.Obj)
abbrev aK:=PySem.Value->PySem.Shared->Prop
abbrev br:=PySem.Str->Option PySem.Value
abbrev au:=List PySem.Value
abbrev bc:=List PySem.Expr
abbrev az:=List PySem.Str
abbrev cI:=Option PySem.Value
namespace R
open PySem PySem.W PyProof.Rows
def pw(b:Nat->Nat->Bool)(n:Nat):KasT α->(α->Prop)->Prop
 | .ret a,Q=>Q a
 | .ask i j k,Q=>i<n/\j<n/\pw b n (k (b i j)) Q
theorem sP{n:Nat}{g:α->KasT β}:∀{t:KasT α},pw lt n t (λa=>pw lt n (g a) Q)->pw lt n (t.bind g) Q
 | .ret _,h=>h
 | .ask _ _ _,⟨a,b,h⟩=>⟨a,b,sP h⟩
theorem Ly{n:Nat}{s:Shared}(c:∀i j C,i<n->j<n->C (lt i j) s->cmp i j C s):∀{t:KasT α},pw lt n t (λa=>Q a s)->t.kasWp cmp Q s
 | .ret _,h=>h
 | .ask i j _,⟨a,b,h⟩=>c i j _ a b (Ly c h)
structure Ar(n:Nat)(p:Array Nat):Prop where
 sz:p.size=n
 pm:p.toList.Perm (List.range n)
section
variable {O:KeyOrd}{f:Nat->O.α}{n:Nat}{p:Array Nat}
theorem ni:p.getD k 0=(p[k]?).getD 0:=by simp
theorem Ar.lt(a:Ar n p)(b:0<n)(k):p.getD k 0<n:=by
 rw[ni];cases e:p[k]? with
 |none=>exact b
 |some x=>
  have:x∈p.toList:=jw (by rw[Array.getElem?_toList];exact e)
  exact jv.mp (a.pm.mem_iff.mp this)
noncomputable def ky (f:Nat->O.α)(p:Array Nat)(i:Nat):O.α:=f (p.getD i 0)
def SU(f:Nat->O.α)(p:Array Nat)(k:Nat):Prop:=∀i j,i<=j->j<k->O.kle (ky f p i) (ky f p j)
def SD(f:Nat->O.α)(p:Array Nat)(k:Nat):Prop:=∀i j,i<=j->j<k->O.kle (ky f p j) (ky f p i)
theorem SU.snoc(h:SU f p m)(d:1<=m)(c:O.kle (ky f p (m-1)) (ky f p m)):SU f p (m+1):=λi j a g=>by
 by_cases e:j<m
 . exact h i j a e
 have:j=m:=by lia
 subst this
 by_cases b:i=j
 . subst b;exact KeyOrd.kle_refl _
 . exact KeyOrd.kle_trans (h i (j-1) ∅ ∅) c
theorem SD.snoc(h:SD f p m)(d:1<=m)(c:O.kle (ky f p m) (ky f p (m-1))):SD f p (m+1):=λi j a g=>by
 by_cases e:j<m
 . exact h i j a e
 have:j=m:=by lia
 subst this
 by_cases b:i=j
 . subst b;exact KeyOrd.kle_refl _
 . exact KeyOrd.kle_trans c (h i (j-1) ∅ ∅)
theorem Ce{i j:Nat}(a:j<=p.size)(k:Nat):ky f (kas_rev p i j) k=if i<=k/\k<j then ky f p (i+j-1-k)else ky f p k:=by
 unfold ky kas_rev;rw[ni,getElem?_mirror_all a,ni,ni];split<;>rfl
theorem Bq{i j:Nat}(a:j<=p.size)(h:∀k,i<=k->k<j->ky f p k=ky f p (j-1))(k:Nat):ky f (kas_rev p i j) k=ky f p k:=by
 rw[Ce a];split
 . rename_i q
   rw[h (i+j-1-k) ∅ ∅,h k q.1 q.2]
 . rfl
theorem Ar.rev(a:Ar n p)(i j):Ar n (kas_rev p i j):=⟨by rw[kas_rev_size];exact a.sz,(Array.perm_iff_toList_perm.mp (mirror_perm p i j _)).trans a.pm⟩
theorem Ar.P1(a:Ar n p)(i j):Ar n (bubble p i j):=⟨by rw[bubble_size];exact a.sz,(Array.perm_iff_toList_perm.mp (bubble_perm p i j)).trans a.pm⟩
theorem SD.up(h:SD f p m)(a:m<=p.size):SU f (kas_rev p 0 m) m:=λi j b c=>by
 rw[Ce a,Ce a,ag ⟨∅,∅⟩,ag ⟨∅,∅⟩]
 exact h _ _ ∅ ∅
theorem BY(h:SD f p m)(e:∀k,ky f p' k=ky f p k):SD f p' m:=λi j a b=>by rw[e,e];exact h i j a b
noncomputable abbrev ir (f:Nat->O.α) (i j:Nat):Bool:=O.blt (f i) (f j)
theorem B4{Q:Nat->Prop}(a:Ar n p)(hn:0<n):∀(u m:Nat),1<=m->m+u<=n->SU f p m->(∀m',m<=m'->m'<=m+u->SU f p m'->(m'=m+u∨O.klt (ky f p m') (ky f p (m'-1)))->Q m')->pw (ir f) n (kas_asc p u m) Q
 |0,m,_,_,hs,hq=>hq m (aD _) (aD _) hs (.inl rfl)
 |u+1,m,h1,h2,hs,hq=>by
  refine⟨a.lt hn _,a.lt hn _,?_⟩;cases e:ir f (p.getD m 0) (p.getD (m-1) 0)with
  |true=>exact hq m (aD _) ∅ hs (.inr e)
  |false=>exact B4 a hn u (m+1) ∅ ∅ (hs.snoc h1 e) λm' b c d e=>hq m' ∅ ∅ d (e.elim (λz=>.inl ∅) .inr)
structure Dn(f:Nat->O.α)(n:Nat)(p:Array Nat)(m q:Nat):Prop where
 a:Ar n p
 s:SD f p m
 le:q+1<=m
 r:∀i,m-(q+1)<=i->i<m->ky f p i=ky f p (m-1)
theorem yq{Q:Array Nat×Nat×Nat->Prop}(hn:0<n):∀(u:Nat) (p:Array Nat) (m q:Nat),m+u<=n->Dn f n p m q->(∀p' m' q',Dn f n p' m' q'->m<=m'->m'<=m+u->Q (p',m',q'))->pw (ir f) n (kas_desc u p m q) Q
 |0,p,m,q,_,d,hq=>hq p m q d (aD _) (aD _)
 |u+1,p,m,q,hu,d,hq=>by
  have m1:1<=m:=bQ (Nat.le_add_left 1 q) d.le;refine⟨d.a.lt hn _,d.a.lt hn _,?_⟩;cases e:ir f (p.getD m 0) (p.getD (m-1) 0)with
  |true=>
   have e':O.klt (ky f p m) (ky f p (m-1)):=e;dsimp only;rw[ag rfl];split
   . have sm:=Bq (f:=f) (p:=p) (i:=m-(q+1)) (j:=m) (by rw[d.a.sz];lia) d.r
     refine yq hn u _ (m+1) 0 ∅ ⟨d.a.rev _ _,(BY d.s sm).snoc m1 (by rw[sm,sm];exact KeyOrd.kle_of_klt e'),∅,λi a b=>by rw[show i=m+1-1 by lia]⟩ λp' m' q' d' b c=>hq p' m' q' d' ∅ ∅
   . exact yq hn u _ (m+1) 0 ∅ ⟨d.a,d.s.snoc m1 (KeyOrd.kle_of_klt e'),∅,λi a b=>by rw[show i=m+1-1 by lia]⟩ λp' m' q' d' b c=>hq p' m' q' d' ∅ ∅
  |false=>
   have e':O.kle (ky f p (m-1)) (ky f p m):=e;dsimp only;rw[ab (by simp)]
   refine⟨d.a.lt hn _,d.a.lt hn _,?_⟩;cases e2:ir f (p.getD (m-1) 0) (p.getD m 0)with
   |true=>exact hq p m q d (aD _) ∅
   |false=>
    have e3:ky f p m=ky f p (m-1):=O.total _ _ e e2;exact yq hn u p (m+1) (q+1) ∅ ⟨d.a,d.s.snoc m1 e2,by have:=d.le;lia,λi a b=>by
     rw[show m+1-1=m by lia]
     by_cases z:i=m
     . rw[z]
     . rw[d.r i ∅ ∅,e3]⟩ λp' m' q' d' b c=>hq p' m' q' d' ∅ ∅
theorem IV{Q:Nat×Array Nat->Prop}{m:Nat}(hn:0<n)(h1:1<=m)(hm:m<=n)(a:Ar n p)(s:SD f p m)(hq:∀m' p',Ar n p'->SU f p' m'->1<=m'->m'<=n->Q (m',p')):pw (ir f) n (kas_tail3 m n p) Q:=by
 unfold kas_tail3;exact sP (B4 (a.rev _ _) hn _ _ h1 ∅ (s.up (by rw[a.sz];exact hm)) λm' b c d _=>hq m' _ (a.rev _ _) d ∅ ∅)
theorem IW{Q:Nat×Array Nat->Prop}{m:Nat}(hn:0<n)(hm:m+1<=n)(a:Ar n p)(s:SD f p (m+1))(hq:∀m' p',Ar n p'->SU f p' m'->1<=m'->m'<=n->Q (m',p')):pw (ir f) n (kas_descPart m n p) Q:=by
 unfold kas_descPart;refine sP (yq hn _ p (m+1) 0 ∅ ⟨a,s,∅,λi b c=>by rw[show i=m+1-1 by lia]⟩ λp' m' q' d b c=>?_)
 dsimp only;split
 . have sm:=Bq (f:=f) (p:=p') (i:=m'-(q'+1)) (j:=m') (by rw[d.a.sz];lia) d.r
   exact IV hn ∅ ∅ (d.a.rev _ _) (BY d.s sm) hq
 . exact IV hn ∅ ∅ d.a d.s hq
theorem VI(d:1<=n)(a:Ar n p)(g:∀l t,Ar n t->SU f t l->1<=l->l<=n->Q (l,t)):pw (ir f) n (kas_count n p) Q:=by
 unfold kas_count;refine sP (B4 a d _ 1 (aD _) ∅ (λi j b c=>by rw[show i=j by lia];exact KeyOrd.kle_refl _) λm b c o z=>?_)
 split
 . exact g m p a o b ∅
 . rename_i y
   have A:m≠n:=by simpa using y
   have z:O.klt (ky f p m) (ky f p (m-1)):=z.resolve_left ∅
   split
   . refine⟨a.lt d _,a.lt d _,?_⟩
     cases e:ir f (p.getD 0 0) (p.getD (m-1) 0)with
     |true=>exact g m p a o b ∅
     |false=>
      have x:O.kle (ky f p (m-1)) (ky f p 0):=e;have r:∀k,0<=k->k<m->ky f p k=ky f p (m-1):=λk _ h=>KeyOrd.kle_antisymm (o k (m-1) ∅ ∅) (KeyOrd.kle_trans x (o 0 k ∅ h))
      have v:=Bq (f:=f) (p:=p) (i:=0) (j:=m) (by rw[a.sz];lia) r
      have u:SD f p m:=λi j s w=>by rw[r j ∅ w,r i ∅ ∅];exact KeyOrd.kle_refl _
      exact IW d ∅ (a.rev _ _) ((BY u v).snoc b (by rw[v,v];exact KeyOrd.kle_of_klt z)) g
   . have:m=1:=by lia
     subst this;have u:SD f p 1:=λi j s w=>by rw[show i=j by lia];exact KeyOrd.kle_refl _
     exact IW d ∅ a (u.snoc b (KeyOrd.kle_of_klt z)) g
theorem Bm(a:Ar n p)(d:0<n)(h:SU f p k)(g:∀l,l<=k->(∀i,i<l->O.kle (ky f p i) (ky f p k))->(∀i,l<=i->i<k->O.kle (ky f p k) (ky f p i))->Q l):
 ∀u l r,l<=r->r<=k->r-l<=u->(∀i,i<l->O.kle (ky f p i) (ky f p k))->(∀i,r<=i->i<k->O.kle (ky f p k) (ky f p i))->pw (ir f) n (kas_place p k u l r) Q
 |0,l,r,h1,h2,h3,h4,h5=>g l ∅ h4 (by rw[show l=r by lia];exact h5)
 |u+1,l,r,h1,h2,h3,h4,h5=>by
  unfold kas_place;split
  . exact g l ∅ h4 (by rw[show l=r by lia];exact h5)
  . refine⟨a.lt d _,a.lt d _,?_⟩
    cases e:ir f (p.getD k 0) (p.getD ((l+r) / 2) 0)with
    |true=>
     have j:O.klt (ky f p k) (ky f p ((l+r) / 2)):=e;exact Bm a d h g u l ((l+r) / 2) ∅ ∅ ∅ h4 λi b c=>KeyOrd.kle_trans (KeyOrd.kle_of_klt j) (h _ i b c)
    |false=>
     have j:O.kle (ky f p ((l+r) / 2)) (ky f p k):=e;exact Bm a d h g u ((l+r) / 2+1) r ∅ h2 ∅ (λi b=>KeyOrd.kle_trans (h i _ ∅ ∅) j) h5
theorem Ky{k l:Nat}(a:k<p.size)(b:l<=k)(i:Nat):ky f (bubble p k (k-l)) i=if i=l then ky f p k else if l<i/\i<=k then ky f p (i-1)else ky f p i:=by
 unfold ky;rw[ni,getElem?_bubble a _ ∅,ni,ni,ni,show k-(k-l)=l by lia]
 repeat' split
 all_goals rfl
theorem JZ(r:0<n)(t:∀g,Ar n g->SU f g n->Q g):∀(u:Nat) (p:Array Nat) (k:Nat),Ar n p->SU f p k->k+u=n->pw (ir f) n (kas_bin u p k) Q
 |0,p,k,a,s,h=>t p a (by rw[<-show k=n by lia];exact s)
 |u+1,p,k,a,s,h=>by
  refine sP (Bm a r s (λl o lo hi=>JZ r t u _ (k+1) (a.P1 _ _) (λi j v y=>?_) ∅) k 0 k (j3 _) (aD _) ∅ (λi z=>aU z (ue _)) λi b c=>aU c ∅)
  have m:k<p.size:=by rw[a.sz];lia
  rw[Ky m o,Ky m o]
  by_cases d:i=l<;>by_cases e:j=l
  . rw[ag d,ag e];exact KeyOrd.kle_refl _
  . rw[ag d,ab e,ag ⟨∅,∅⟩];exact hi _ ∅ ∅
  . rw[ab d,ag e,ab ∅];exact lo _ ∅
  . rw[ab d,ab e]
    by_cases w:l<i
    . rw[ag ⟨w,∅⟩,ag ⟨∅,∅⟩];exact s _ _ ∅ ∅
    . rw[ab ∅]
      by_cases x:l<j
      . rw[ag ⟨x,∅⟩];exact s _ _ ∅ ∅
      . rw[ab ∅];exact s _ _ ∅ ∅
theorem WX(b:1<=n)(c:∀p,Ar n p->SU f p n->Q p):pw (ir f) n (kas_sort n) Q:=by
 unfold kas_sort;refine sP (VI b ⟨by simp,by simp⟩ λm p a s d e=>?_)
 dsimp only;split
 . rw[show max m 1=m by lia]
   exact JZ b c _ p m a s ∅
 . exact c p a ((show m=n by lia) ▸ s)
end
end R
namespace L2
open PySem PySem.Spec PyProof.Rows
abbrev Key:=Sum Int Str
noncomputable def kq:Key->Value->Bool
 | .inl k,v=>Value.isInt k v
 | .inr x,v=>Value.isStrOf x v
noncomputable def OQ (w:World):Key->Int
 | .inl k=>hashInt k
 | .inr x=>hashStr w x
theorem ji:∀{k:Key} {v:Value},kq k v=true->(∃i t,k=Sum.inl i/\v=Value.int i t)∨(∃x t,k=Sum.inr x/\v=Value.str x t)
 | .inl i,v,h=>by
  obtain⟨t,e⟩:=Value.isInt_shape (k:=i) (v:=v) h;exact .inl ⟨i,t,rfl,e⟩
 | .inr x,v,h=>by
  obtain⟨t,e⟩:=Value.isStrOf_shape (x:=x) (v:=v) h;exact .inr ⟨x,t,rfl,e⟩
theorem Um(i)(t):kq (.inl i) (.int i t)=true:=by simp[kq,Value.isInt]
theorem Ul(x)(t):kq (.inr x) (.str x t)=true:=by simp[kq,Value.isStrOf]
theorem Zt(a b):decide ((Sum.inl a:Key)=Sum.inl b)=(a==b):=by
 by_cases e:a=b
 . subst e;simp
 . have h:¬(Sum.inl a:Key)=Sum.inl b:=λq=>e (Sum.inl.inj q)
   rw[fy h];exact(nQ.mpr e).symm
theorem Zq(a b):decide ((Sum.inr a:Key)=Sum.inr b)=decide (a=b):=by
 by_cases e:a=b
 . subst e;simp
 . have h:¬(Sum.inr a:Key)=Sum.inr b:=λq=>e (Sum.inr.inj q)
   rw[fy h,fy e]
theorem Zs(a)(b):decide ((Sum.inl a:Key)=Sum.inr b)=false:=fy (λq=>nomatch q)
theorem Zr(a)(b):decide ((Sum.inr a:Key)=Sum.inl b)=false:=fy (λq=>nomatch q)
noncomputable def cZ (prog:Program)(w:World):PySem.KeyKind prog w Key where
 is:=kq
 hash:=OQ w
 inj:=λv a b ha hb=>by
  rcases ji ha with⟨i,t,rfl,rfl⟩|⟨x,t,rfl,rfl⟩
  . rcases ji hb with⟨j,u,rfl,e⟩|⟨y,u,rfl,e⟩
    . injection e with e1 _;rw[e1]
    . exact nomatch e
  . rcases ji hb with⟨j,u,rfl,e⟩|⟨y,u,rfl,e⟩
    . exact nomatch e
    . injection e with e1 _;rw[e1]
 byValue:=λk v h=>by
  rcases ji h with⟨i,t,rfl,rfl⟩|⟨x,t,rfl,rfl⟩<;>rfl
 pyHash:=λhv h=>by
  rcases ji hv with⟨i,t,rfl,rfl⟩|⟨x,t,rfl,rfl⟩
  . exact wpAny_pyHash_int h
  . exact wpAny_pyHash_str h
 eqBool:=λhu hv h=>by
  rcases ji hu with⟨i,t,rfl,rfl⟩|⟨x,t,rfl,rfl⟩
  . rcases ji hv with⟨j,u,rfl,rfl⟩|⟨y,u,rfl,rfl⟩
    . rw[Zt]at h;exact wpAny_eqBool_int h
    . rw[Zs]at h;exact SeqAt.EqAt.int_str i t y u _ _ _ _ h
  . rcases ji hv with⟨j,u,rfl,rfl⟩|⟨y,u,rfl,rfl⟩
    . rw[Zr]at h;exact SeqAt.EqAt.str_int x t j u _ _ _ _ h
    . rw[Zq]at h;exact wpAny_eqBool_str h
 «strs»:=λk x t v h=>by
  rcases ji h with⟨i,u,rfl,e⟩|⟨y,u,rfl,e⟩
  . exact nomatch e
  . injection e with e1 _
    subst e1;cases v<;>rfl
theorem S3(prog)(w)(i)(t):(cZ prog w).is (.inl i) (.int i t)=true:=Um i t
theorem GP(prog)(w)(x)(t):(cZ prog w).is (.inr x) (.str x t)=true:=Ul x t
inductive V where
 |aw|bl (b:Bool)|int (i:Int)|str (x:Str)|wQ (b:Array UInt8)|qm (b:UInt64)|ref (a:Addr)|ty (n:String)
 deriving DecidableEq
abbrev LV:=List V
noncomputable def RelV:V->Value->Prop
 | .aw,u=>u=Value.none
 | .bl b,u=>u=Value.bool b
 | .int i,u=>∃t,u=Value.int i t
 | .str x,u=>∃t,u=Value.str x t
 | .wQ b,u=>∃t,u=Value.bytes b t
 | .qm b,u=>∃t,u=Value.float b t
 | .ref a,u=>u=Value.ref a
 | .ty n,u=>u=Value.type n
abbrev Vals:LV->au->Prop:=Paired RelV
theorem Vals.length{us:au}(r:Vals xs us):xs.length=us.length:=Paired.length r
theorem Vals.get:∀{xs:LV} {us:au} {i:Nat} {x:V},Vals xs us->xs[i]? =some x->∃u,us[i]? =some u/\RelV x u
 |_,_,_,_,.nil,e=>by simp at e
 |_,_,0,_,.cons r _,e=>by simp at e;subst e;exact⟨_,rfl,r⟩
 |_,_,i+1,x,.cons _ t,e=>by
  obtain⟨u,a,b⟩:=Vals.get (i:=i) (x:=x) t (by simpa using e)
  exact⟨u,by simpa using a,b⟩
theorem Vals.set{x:V}(r:RelV x u):∀{xs:LV} {us:au} (i:Nat),Vals xs us->Vals (xs.set i x) (us.set i u)
 |_,_,_,.nil=>.nil
 |_,_,0,.cons _ t=>.cons r t
 |_,_,i+1,.cons q t=>.cons q (Vals.set r i t)
theorem Vals.append:∀{xs ys:LV} {us ws:au},Vals xs us->Vals ys ws->Vals (xs++ys) (us++ws)
 |_,_,_,_,.nil,s=>s
 |_,_,_,_,.cons r t,s=>.cons r (Vals.append t s)
theorem Vals.take:∀{xs:LV} {us:au} (n:Nat),Vals xs us->Vals (xs.take n) (us.take n)
 |_,_,0,_=>.nil
 |_,_,_+1,.nil=>.nil
 |_,_,n+1,.cons r t=>.cons r (Vals.take n t)
theorem Vals.drop:∀{xs:LV} {us:au} (n:Nat),Vals xs us->Vals (xs.drop n) (us.drop n)
 |_,_,0,r=>r
 |_,_,_+1,.nil=>.nil
 |_,_,n+1,.cons _ t=>Vals.drop n t
def bM:Option V->cI->Prop
 |some v,some u=>RelV v u
 |none,none=>True
 |_,_=>False
def KV:List (κ×V)->List (κ×Value)->Prop:=Paired λ(p:κ×V) (q:κ×Value)=>p.1=q.1/\RelV p.2 q.2
noncomputable def kV:Key->V
 | .inl i=>.int i
 | .inr x=>.str x
abbrev bG:=Option Key
noncomputable def oV:bG->V
 |none=>.aw
 |some k=>kV k
noncomputable def zl:Option Key->Value->Bool
 |none,.none=>true
 |none,_=>false
 |some k,v=>kq k v
noncomputable def w5 (w:World):Option Key->Int
 |none=>0xFCA86420
 |some k=>OQ w k
theorem lM:∀{k:Option Key} {v:Value},zl k v=true->(k=none/\v=Value.none)∨∃j,k=some j/\kq j v=true
 |none,v,h=>by cases v<;>first|exact .inl ⟨rfl,rfl⟩|(simp[zl]at h)
 |some k,v,h=>.inr ⟨k,rfl,h⟩
theorem G6:kq k Value.none=false:=by cases k<;>rfl
section
variable {prog:Program}{w:World}{A:Around}{E:aK}{s:Shared}
theorem Uh(h:Q 0xFCA86420 { s with toks:=s.toks+1 }):wpAny (model prog w) A (PySem.pyHash .none) Q E s:=by
 have a:s.TypeIs .none "NoneType":=rfl;unfold PySem.pyHash;have b:[Value.none].any Value.onHeap=false:=rfl;refine ai ?_;rw[cRoomFor,ab (by rw[b];exact iI)];refine aC ?_
 refine ai (wpAny_specialOf a F.slot_NoneType_hash.lookup ?_);show wpAny _ _ (if(some (Value.builtin "NoneType.__hash__")==some Value.none)=true then _ else _) Q E s
 rw[ab (by rw[beq_builtin_none];exact iI)]
 refine ai (wpAny_specialOf a F.slot_NoneType_hash.lookup ?_);show wpAny _ _ (callSpecialIfBoundUnlessNone? .none "__hash__" _ >>= _) Q E s;refine ai (wpAny_callSpecialIfBoundUnlessNone?_slot a F.slot_NoneType_hash
  (iK F.slot_NoneType_hash a F.entry_NoneType_hash
   (show wpAny _ _ (do ret (<-mkInt 0xFCA86420)) _ _ s from wpAny_ret_mkInt ?_) (F.args_NoneType_hash_1 _)))
 show wpAny _ _ (if(decide (-(2:Int) ^ 63<=0xFCA86420)&&decide ((0xFCA86420:Int)<2 ^ 63))=true then _ else _) Q E _
 rw[ag ⋯]
 exact aC h
end
noncomputable def optKind (prog:Program)(w:World):PySem.KeyKind prog w (Option Key) where
 is:=zl
 hash:=w5 w
 inj:=λv a b ha hb=>by
  rcases lM ha with⟨rfl,rfl⟩|⟨j,rfl,hj⟩
  . rcases lM hb with⟨rfl,_⟩|⟨i,rfl,hi⟩
    . rfl
    . rw[G6]at hi;cases hi
  . rcases lM hb with⟨rfl,rfl⟩|⟨i,rfl,hi⟩
    . rw[G6]at hj;cases hj
    . rw[(cZ prog w).inj v j i hj hi]
 byValue:=λk v h=>by
  rcases lM h with⟨rfl,rfl⟩|⟨j,rfl,hj⟩
  . rfl
  . exact(cZ prog w).byValue j v hj
 pyHash:=λhv h=>by
  rcases lM hv with⟨rfl,rfl⟩|⟨j,rfl,hj⟩
  . exact Uh h
  . exact(cZ prog w).pyHash hj h
 eqBool:=λ{A E s a b u v Q} hu hv h=>by
  rcases lM hu with⟨rfl,rfl⟩|⟨i,rfl,hi⟩
  . rcases lM hv with⟨rfl,rfl⟩|⟨j,rfl,hj⟩
    . exact SeqAt.EqAt.same _ _ _ _ _ (by simpa using h)
    . have e:decide ((none:Option Key)=some j)=false:=fy (λq=>nomatch q)
      rw[e]at h;rcases ji hj with⟨k,t,rfl,rfl⟩|⟨x,t,rfl,rfl⟩
      . exact SeqAt.EqAt.none_int k t _ _ _ _ h
      . exact SeqAt.EqAt.none_str x t _ _ _ _ h
  . rcases lM hv with⟨rfl,rfl⟩|⟨j,rfl,hj⟩
    . have e:decide ((some i:Option Key)=none)=false:=fy (λq=>nomatch q)
      rw[e]at h;rcases ji hi with⟨k,t,rfl,rfl⟩|⟨x,t,rfl,rfl⟩
      . exact SeqAt.EqAt.int_none k t _ _ _ _ h
      . exact SeqAt.EqAt.str_none x t _ _ _ _ h
    . have e:decide (some i=some j)=decide (i=j):=by
       by_cases q:i=j
       . subst q;simp
       . rw[fy q,fy λz=>q (eV z)]
      rw[e]at h;exact(cZ prog w).eqBool hi hj h
 «strs»:=λk x t v h=>by
  rcases lM h with⟨rfl,e⟩|⟨j,rfl,hj⟩
  . cases e
  . exact(cZ prog w).strs j x t v hj
inductive HO where
 |lst (xs:LV)
 |tup (xs:LV)
 |dK (kvs:List (Key×V))|dT (kvs:List (List bG×V))
 |set (S:Int->Bool) (n:Nat)
 |ins (C dx:Addr) (fs:List (Str×V))
 |own (x:Addr)
 |xd (fs:List (Str×V))
 |met (f x:Addr)
 |zD (lo hi:Int)
 |aX (o:Obj) (u:HO)
 |mE (ps:Array Value)
 |ext (φ:Heap->Prop)
abbrev Hp:=Addr->Option HO
noncomputable def upd (H:Hp)(a:Addr)(o:HO):Hp:=λb=>if b=a then some o else H b
theorem ej{a:Addr}:upd H a o a=some o:=by unfold upd;rw[ag rfl]
theorem aZ{a b:Addr}(h:b≠a):upd H a o b=H b:=by unfold upd;rw[ab h]
theorem Wk{a:Addr}:upd (upd H a o) a u=upd H a u:=by
 funext b;unfold upd;split<;>rfl
theorem Lj{H:Hp}{a b:Addr}{o u:HO}(h:H a=some o)(h':H b=some u)(d:o≠u):a≠b:=by
 intro e;subst e;rw[h]at h';exact d (eV h')
theorem fh{H:Hp}{a b:Addr}{o:HO}(h:H a=some o)(h':H b=none):a≠b:=by
 intro e;subst e;rw[h]at h';cases h'
section
variable(P:Program)(w:World)
noncomputable def aB (H:Hp)(h:Heap)(a:Addr):HO->Prop
 | .lst b=>b.length<=sizeLine/\∃(ae:au) (n:Nat),Vals b ae/\h.get? a=some { cls:=.type "list",data:=.seq ae.toArray n }
 | .tup b=>b.length<=sizeLine/\∃ae:au,Vals b ae/\IsTup h a ae.toArray
 | .dK kvs=>kvs.length<=sizeLine/\(a==sysModules)=false/\∃vs,KV kvs vs/\h.DictOf (cZ P w) a vs
 | .dT kvs=>kvs.length<=sizeLine/\(a==sysModules)=false/\∃b:List (List bG×Addr×Value),
  Paired (λ(p:List bG×V) (q:List bG×Addr×Value)=>p.1=q.1/\H q.2.1=some (.tup (p.1.map oV))/\RelV p.2 q.2.2) kvs b/\
  ∃o d i,h.get? a=some o/\o.ExactDict/\o.data= .dict d i/\d.toList=b.map (entryOfKey (tupleKind (optKind P w)))/\(b.map (·.1)).Nodup
 | .set S n=>h.SetOf (intKind P w) a S n
 | .ins C dx fs=>H dx=some (.own a)/\fs.length<=1000/\dx≠a/\h.get? a=some (nT C dx)/\
  ∃c,h.Ns1 dx c/\(∀f,bM (fs.lookup f) (c f))/\PySem.Within c (fs.map (·.1))
 | .own _=>∃o,h.get? a=some o
 | .xd fs=>∃c,h.Ns1 a c/\∀f,bM (fs.lookup f) (c f)
 | .zD lo hi=>∃t u v,h.get? a=some { cls:=.type "range",data:=.fields #[.int lo t,.int hi u,.int 1 v] }
 | .aX o u=>h.get? a=some o/\aB H h a u
 | .mE ps=>h.get? a=some { cls:=.none,data:=.fields ps }
 | .met f x=>h.get? a=some (PySem.W.methodObj (.ref f) (.ref x))
 | .ext φ=>φ h/\(∃o,h.get? a=some o)/\∀e g:Heap,φ e->(∀o,e.get? a=some o->g.get? a=some o)->φ g
def cX(H:Hp)(h:Heap):Prop:=∀a o,H a=some o->aB P w H h a o
end
section
variable {P:Program}{w:World}{H H':Hp}{h h':Heap}{a:Addr}{o:HO}
theorem aB.lt(x:aB P w H h a o):a<h.objs.size:=by
 cases o with
 |lst xs=>obtain⟨_,_,_,_,e⟩:=x;exact bB e
 |tup xs=>obtain⟨_,_,_,p⟩:=x;exact p.lt
 |dK kvs=>obtain⟨_,_,_,_,o,_,_,e,_⟩:=x;exact bB e
 |dT kvs=>obtain⟨_,_,_,_,o,_,_,e,_⟩:=x;exact bB e
 |set S n=>obtain⟨o,_,_,_,e,_⟩:=x;exact bB e
 |ins C dx fs=>obtain⟨_,_,_,e,_⟩:=x;exact bB e
 |own y=>obtain⟨_,e⟩:=x;exact bB e
 |xd fs=>obtain⟨_,⟨_,_,_,e,_⟩,_⟩:=x;exact bB e
 |zD lo hi=>obtain⟨_,_,_,e⟩:=x;exact bB e
 |aX ob u=>obtain⟨e,_⟩:=x;exact bB e
 |mE ps=>exact bB (show h.get? a=some _ from x)
 |met f y=>exact bB (show h.get? a=some _ from x)
 |ext φ=>obtain⟨_,⟨_,e⟩,_⟩:=x;exact bB e
theorem Paired.qz{F G:α->β->Prop}:∀{l₁:List α} {l₂:List β},Paired F l₁ l₂->(∀a b,F a b->G a b)->Paired G l₁ l₂
 |_,_,.nil,_=>.nil
 |_,_,.cons r t,f=>.cons (f _ _ r) (Paired.qz t f)
theorem aB.fu(x:aB P w H h a o)(k:∀b u,(b=a∨H b=some (.own a))->h.get? b=some u->h'.get? b=some u)
 (A:∀b,H b=some (.own a)->H' b=some (.own a)) (D:∀b j,H b=some (.tup j)->H' b=some (.tup j)):aB P w H' h' a o:=by
 induction o with
 |lst j=>obtain⟨z,ae,n,r,e⟩:=x;exact⟨z,ae,n,r,k _ _ (.inl rfl) e⟩
 |tup j=>obtain⟨z,ae,r,ob,e,c⟩:=x;exact⟨z,ae,r,ob,k _ _ (.inl rfl) e,c⟩
 |dK kvs=>obtain⟨z,y,vs,r,ob,i,g,e,c⟩:=x;exact⟨z,y,vs,r,ob,i,g,k _ _ (.inl rfl) e,c⟩
 |dT kvs=>
  obtain⟨z,y,j,r,ob,i,g,e,c⟩:=x;exact⟨z,y,j,Paired.qz r λp q z=>⟨z.1,D _ _ z.2.1,z.2.2⟩,ob,i,g,k _ _ (.inl rfl) e,c⟩
 |set S n=>obtain⟨ob,i,g,t,e,c⟩:=x;exact⟨ob,i,g,t,k _ _ (.inl rfl) e,c⟩
 |ins C dx fs=>
  obtain⟨d,z,E,e,l,⟨m,i,g,s,c⟩,r⟩:=x;exact⟨A _ d,z,E,k _ _ (.inl rfl) e,l,⟨m,i,g,k _ _ (.inr d) s,c⟩,r⟩
 |own y=>obtain⟨ob,e⟩:=x;exact⟨ob,k _ _ (.inl rfl) e⟩
 |xd fs=>obtain⟨l,⟨m,i,g,e,c⟩,r⟩:=x;exact⟨l,⟨m,i,g,k _ _ (.inl rfl) e,c⟩,r⟩
 |zD lo hi=>obtain⟨t,u,v,e⟩:=x;exact⟨t,u,v,k _ _ (.inl rfl) e⟩
 |aX ob u ih=>obtain⟨e,q⟩:=x;exact⟨k _ _ (.inl rfl) e,ih q⟩
 |mE ps=>
  have e:h.get? a=some { cls:=.none,data:=.fields ps }:=x;show h'.get? a=some { cls:=.none,data:=.fields ps };exact k a _ (.inl rfl) e
 |met f y=>
  have e:h.get? a=some (PySem.W.methodObj (.ref f) (.ref y)):=x;show h'.get? a=some (PySem.W.methodObj (.ref f) (.ref y));exact k a _ (.inl rfl) e
 |ext φ=>obtain⟨p,⟨o,e⟩,st⟩:=x;exact⟨st _ _ p λo q=>k _ _ (.inl rfl) q,⟨o,k _ _ (.inl rfl) e⟩,st⟩
theorem cX.lt(x:cX P w H h)(e:H a=some o):a<h.objs.size:=(x a o e).lt
theorem cX.fresh(x:cX P w H h)(e:h.objs.size<=a):H a=none:=by
 cases q:H a with
 |none=>rfl
 |some u=>exact aU (fA (x.lt q) e) (j5 _)
theorem cX.kept(x:cX P w H h)(k:∀b u,h.get? b=some u->h'.get? b=some u):cX P w H h':=λa o e=>
 (x a o e).fu (λb u _ q=>k b u q) (λ_ q=>q) λ_ _ q=>q
theorem cX.laid(x:cX P w H h)(k:∀b u,h.get? b=some u->h'.get? b=some u)(i:h.objs.size<=a)(d:aB P w (upd H a o) h' a o):cX P w (upd H a o) h':=λb u e=>by
 have g:=x.fresh i
 by_cases f:b=a
 . subst f;rw[ej]at e;cases e;exact d
 . rw[aZ f]at e
   exact(x b u e).fu (λc v _ q=>k c v q) (λc q=>by rw[aZ (fh q g)];exact q) λc j q=>by rw[aZ (fh q g)];exact q
end
def Rd(H:Hp)(a:Addr)(u:HO):Prop:=H a=some u∨∃o,H a=some (.aX o u)
theorem Rd.ok{P:Program}{a:Addr}(r:Rd H a u)(x:cX P w H h):aB P w H h a u:=by
 rcases r with r|⟨o,r⟩
 . exact x a u r
 . obtain⟨_,q⟩:=x a _ r
   exact q
noncomputable def ur:Option HO->Prop
 |some (.lst _)=>True
 |some (.dK _)=>True
 |some (.dT _)=>True
 |some (.set _ _)=>True
 |some (.ins _ _ _)=>True
 |some (.ext _)=>True
 |_=>False
section
variable {P:Program}{w:World}{H:Hp}{h h':Heap}{x e:Addr}{o':HO}
theorem cX.write(A:cX P w H h)(j:ur (H x))(o:e=x∨H e=some (.own x))(k:∀b u,b≠e->h.get? b=some u->h'.get? b=some u)(m:∃u,h'.get? e=some u)
 (n:aB P w (upd H x o') h' x o'):cX P w (upd H x o') h':=λb u q=>by
 have d:∀c y,H c=some (.own y)->c≠x:=λc y r z=>by subst z;rw[r]at j;exact j
 have f:∀c l,H c=some (.tup l)->c≠x:=λc l r z=>by subst z;rw[r]at j;exact j
 by_cases g:b=x
 . subst g;rw[ej]at q;cases q;exact n
 . rw[aZ g]at q
   by_cases a:b=e
   . have s:H b=some (.own x):=by
      rcases o with z|z
      . exact aU (a.trans z) g
      . rw[a];exact z
     rw[q]at s;cases s;obtain⟨v,t⟩:=m;exact⟨v,by rw[a];exact t⟩
   . refine(A b u q).fu (λc v i r=>k c v ?_ r) (λc r=>by rw[aZ (d c b r)];exact r) λc l r=>by rw[aZ (f c l r)];exact r
     rcases i with rfl|i
     . exact a
     . rintro rfl
       rcases o with z|z
       . exact d c b i z
       . rw[i]at z;cases z;exact g rfl
end
structure Un(fs ex:List Addr)(H H':Hp)(h h':Heap):Prop where
 keep:∀b o,h.get? b=some o->H b=none->b∉fs->b∉ex->h'.get? b=some o
 slot:∀b o,h.get? b=some o->H b=none->b∈fs->b∉ex->∃sl,h'.get? b=some { o with slots:=sl }
 free:∀b o,h.get? b=some o->H b=none->b∉ex->H' b=none
 there:∀b o,h.get? b=some o->b∉ex->∃o',h'.get? b=some o'
 bO:∀b xs,H b=some (.tup xs)->H' b=some (.tup xs)
 aY:∀b o u,H b=some (.aX o u)->H' b=some (.aX o u)
 fw:∀b ps,H b=some (.mE ps)->∃more,H' b=some (.mE (ps++more))
section
variable {fs fs' ex ex':List Addr}{H H1 H2:Hp}{h h1 h2 h':Heap}{a x e:Addr}{o:HO}
theorem Un.any(u:Un fs ex H H1 h h1){b:Addr}{ob:Obj}(q:h.get? b=some ob)(n:H b=none)(hx:b∉ex):∃sl,h1.get? b=some { ob with slots:=sl }:=by
 by_cases c:b∈fs
 . exact u.slot b ob q n c hx
 . exact⟨ob.slots,u.keep b ob q n c hx⟩
theorem Un.kept(k:∀b u,h.get? b=some u->h'.get? b=some u):Un fs ex H H h h':=
 ⟨λb ob q _ _ _=>k b ob q,λb ob q _ _ _=>⟨ob.slots,k b ob q⟩,λ_ _ _ n _=>n,λb ob q _=>⟨ob,k b ob q⟩,λ_ _ q=>q,λ_ _ _ q=>q,λ_ c q=>⟨#[],by rw[q];simp⟩⟩
theorem Un.refl:Un fs ex H H h h:=Un.kept λ_ _ q=>q
theorem Un.laid(k:∀b u,h.get? b=some u->h'.get? b=some u)(d:h.objs.size<=a)(c:H a=none):Un fs ex H (upd H a o) h h' where
 keep:=λb u q _ _ _=>k b u q
 slot:=λb u q _ _ _=>⟨u.slots,k b u q⟩
 free:=λb u q n _=>by rw[aZ (cE (fA (bB q) d))];exact n
 there:=λb u q _=>⟨u,k b u q⟩
 bO:=λb f q=>by rw[aZ (fh q c)];exact q
 aY:=λb u f q=>by rw[aZ (fh q c)];exact q
 fw:=λb g q=>⟨#[],by rw[aZ (fh q c),q];simp⟩
theorem Un.write(d:ur (H x))(j:e=x∨H e=some (.own x))(k:∀b u,b≠e->h.get? b=some u->h'.get? b=some u)(f:∃u,h'.get? e=some u):Un fs ex H (upd H x o) h h':=by
 have hx:∀b,H b=none->b≠x:=λb n z=>by subst z;rw[n]at d;exact d
 have i:∀b,H b=none->b≠e:=λb n z=>by
  subst z;rcases j with r|r
  . exact hx b n r
  . rw[n]at r;cases r
 have g:∀b u,H b=some u->¬ur (some u)->b≠x:=λb u q nm z=>by subst z;rw[q]at d;exact nm d
 refine⟨λb u q n _ _=>k b u (i b n) q,λb u q n _ _=>⟨u.slots,k b u (i b n) q⟩,λb u q n _=>by rw[aZ (hx b n)];exact n,λb u q _=>?_,
  λb l q=>by rw[aZ (g b _ q λz=>z)];exact q,λb u l q=>by rw[aZ (g b _ q λz=>z)];exact q,λb m q=>⟨#[],by rw[aZ (g b _ q λz=>z),q];simp⟩⟩
 by_cases c:b=e
 . subst c;exact f
 . exact⟨u,k b u c q⟩
end
noncomputable def zF (h:Heap)(H:Hp):List Addr:=(List.range h.objs.size).filter λa=>(H a).isSome
noncomputable def nz (h:Heap)(H:Hp):Heap:=PySem.W.hideAll h (zF h H)
theorem Us(h)(H):(nz h H).objs.size=h.objs.size:=PySem.W.hideAll_size _ _
theorem Ik{h:Heap}{b:Addr}(e:h.get? b=some o)(n:H b=none):(nz h H).get? b=some o:=
 PySem.W.hideAll_get _ e λhm=>by
  have q:(H b).isSome=true:=(cb.mp hm).2;rw[n]at q;simp at q
theorem WJ{b:Addr}(e:(nz h H).get? b=some o):h.get? b=some o/\H b=none:=by
 have a:h.get? b=some o:=PySem.W.of_hideAll (zF h H) e;refine⟨a,?_⟩;cases q:H b with
 |none=>rfl
 |some x=>
  have c:b∈zF h H:=cb.mpr ⟨jv.mpr (bB a),by simp[q]⟩
  have z:(nz h H).get? b=none:=PySem.W.hideAll_none (zF h H) c;rw[z]at e;cases e
noncomputable def yF (g h:Heap)(L:Addr):aF:=(List.range h.objs.size).filterMap λa=>if a=L∨(g.get? a).isSome=true then none else(h.get? a).map λo=>(a,o)
theorem S4{g h:Heap}{L a:Addr}(c:a≠L)(d:g.get? a=none)(b:h.get? a=some o):(a,o)∈yF g h L:=
 wu.mpr ⟨a,jv.mpr (bB b),by simp[c,d,b]⟩
theorem SR{g h:Heap}{p:Addr×Obj}(c:p∈yF g h L):p.1≠L/\g.get? p.1=none/\h.get? p.1=some p.2:=by
 obtain⟨b,_,e⟩:=wu.mp c;split at e
 . cases e
 . rename_i a
   cases q:h.get? b with
   |none=>rw[q]at e;simp at e
   |some u=>
    rw[q]at e;simp only[uf,mL]at e;subst e;refine⟨λz=>a (.inl z),?_,q⟩
    show g.get? b=none;cases r:g.get? b with
    |none=>rfl
    |some v=>exact(a (.inr (by simp[r]))).elim
noncomputable def rest (g h:Heap)(L d:Addr):aF:=(yF g h L).filter λp=>decide (p.1≠d)
theorem IS{g h:Heap}{L d a:Addr}(b:a≠L)(c:g.get? a=none)(e:h.get? a=some o)(f:a≠d):(a,o)∈rest g h L d:=
 cb.mpr ⟨S4 b c e,cu f⟩
theorem Vj{g h:Heap}:News g L h (yF g h L):=λp d=>let⟨a,b,c⟩:=SR d;⟨c,a,b⟩
theorem GU{g h h':Heap}(k:∀b o,g.get? b=some o->h.get? b=some o)(F:Fr g L h' m)(N:News g L h' (rest g h L d)):
 ∀b o,b≠L->b≠d->h.get? b=some o->h'.get? b=some o:=λb o a c e=>by
 cases q:g.get? b with
 |some u=>
  have:=k b u q;rw[e]at this;cases this;exact F.keep b _ q
 |none=>exact(N (b,o) (IS a q e c)).1
structure Mod(K:ah)(mg:br)(base:Heap):Prop where
 iU:K.In base
 glob:base.Ns mainGlobals mg
 blt:∃mb,base.Ns builtinsNs mb/\∀x:Str,x≠"__name__"->mb x=bootBuiltins x
 nolimit:base.NoLimit
structure Cx where
 prog:Program
 w:World
 K:ah
 mg:br
 base:Heap
 A:Around
 N:az
 s₀:Shared
 H₀:Hp
 env:Env
 outer:List Env
 stack:List Env
 ex:List Addr
 fn:Str->Bool
 calm:Bool
 pn:aF
 xe:aK
noncomputable def iT (l:List Env):List Addr:=l.filterMap (·.frame)
noncomputable abbrev Cx.fs (X:Cx):List Addr:=iT X.outer
def wM(sc:Scope)(x:Str):Prop:=sc.names.lookup x=some .local∨sc.names.lookup x=some .cell∨sc.names.lookup x=some .free
def Loc(sc:Scope)(x:Str):Prop:=sc.names.lookup x=some .local∨sc.names.lookup x=some .cell
def Look(env:Env)(h:Heap)(m:br)(x:Str)(u:Value):Prop:=
 (env.kindOf x=some .local/\m x=some u)∨((env.kindOf x=some .cell∨env.kindOf x=some .free)/\∃c,env.cells.lookup x=some c/\h.IsCell c (some u))
structure Cx.Ok(X:Cx):Prop where
 mod:Mod X.K X.mg X.base
 kind:X.env.scope.kind= .function
 glob:X.env.globals=mainGlobals
 blt:X.env.builtins=builtinsNs
 above:X.s₀.heap.objs.size<=X.env.locals
 inj:∀x y c,X.env.cells.lookup x=some c->X.env.cells.lookup y=some c->x=y
 has:∀x,(X.env.kindOf x=some .cell∨X.env.kindOf x=some .free)->∃c,X.env.cells.lookup x=some c
 rX:∀x c,X.fn x=true->X.env.cells.lookup x=some c->X.s₀.heap.objs.size<=c
 hd:X.calm=true->X.A.handled=none
 frames:X.A.frames=some X.stack
 wk:X.stack=X.outer∨(X.stack=X.env::X.outer/\X.env.frame=some X.env.locals)
 uB:∀b∈X.ex,b≠X.env.locals/\∀x c,X.env.cells.lookup x=some c->c≠b
 bs:∀b o,X.base.get? b=some o->X.s₀.heap.get? b=some o/\X.H₀ b=none
 jC:X.base.objs.size<=X.s₀.heap.objs.size
 iW:∀b o,X.base.get? b=some o->b∉X.ex
 iR:∀b∈X.ex,b∉X.fs
 dM:X.s₀.heap.FunFrames X.base X.outer
 mV:∀b∈X.fs,X.H₀ b=none
structure Inv(X:Cx)(pins:aF)(σ:List (Option V))(H:Hp)(s:Shared):Prop where
 ok:X.Ok
 os:s.os=X.s₀.os
 bare:AllBare s.gens
 base:Un X.fs X.ex X.H₀ H X.s₀.heap s.heap
 loc:∃m,s.heap.Ns X.env.locals m/\∀(i:Nat) (x:Str) (v:V),X.N[i]? =some x->σ[i]? =some (some v)->wM X.env.scope x->∃u,RelV v u/\Look X.env s.heap m x u
 cell:∀x c,X.env.cells.lookup x=some c->∃v,s.heap.IsCell c v
 free:H X.env.locals=none
 cg:∀x c,X.env.cells.lookup x=some c->H c=none
 pin:∀p∈X.pn++pins,s.heap.get? p.1=some p.2/\H p.1=none/\p.1≠X.env.locals/\p.1∉X.fs/\∀v,p.2.data≠.cell v
 av:cX X.prog X.w H s.heap
 len:σ.length=X.N.length
section
variable {X:Cx}{pins:aF}{σ:List (Option V)}{H H':Hp}{s:Shared}{h':Heap}
theorem Cx.Ok.AB(ok:X.Ok){b:Addr}(e:X.base.get? b=some o):b∉X.fs:=λhb=>by
 have:=(ok.dM.mem hb).1;rw[e]at this;cases this
theorem Inv.bs(I:Inv X pins σ H s):∀b o,X.base.get? b=some o->s.heap.get? b=some o/\H b=none:=λb o e=>
 ⟨I.base.keep b o (I.ok.bs b o e).1 (I.ok.bs b o e).2 (I.ok.AB e) (I.ok.iW b o e),I.base.free b o (I.ok.bs b o e).1 (I.ok.bs b o e).2 (I.ok.iW b o e)⟩
theorem Inv.bk(I:Inv X pins σ H s):∀b o,X.base.get? b=some o->s.heap.get? b=some o:=λb o e=>(I.bs b o e).1
theorem Inv.mod(I:Inv X pins σ H s):Mod X.K X.mg X.base:=I.ok.mod
theorem Inv.dE(I:Inv X pins σ H s):X.K.In s.heap:=I.ok.mod.iU.keeps I.bk
theorem Inv.fr(I:Inv X pins σ H s):∃m,Fr X.base X.env.locals s.heap m:=
 let⟨m,hn,_⟩:=I.loc
 ⟨m,hn,I.bk,bQ I.ok.jC I.ok.above⟩
theorem Inv.lt(I:Inv X pins σ H s):X.env.locals<s.heap.objs.size:=let⟨_,hn,_⟩:=I.loc;hn.lt
theorem Inv.sz(I:Inv X pins σ H s):X.s₀.heap.objs.size<=s.heap.objs.size:=bQ I.ok.above (mJ I.lt)
theorem Inv.uK(I:Inv X pins σ H s){a:Addr}(h:s.heap.objs.size<=a):a∉X.fs:=λhb=>by
 obtain⟨_,o,ho,_⟩:=I.ok.dM.mem hb;exact aU (fA (bB ho) (bQ I.sz h)) (j5 _)
theorem Inv.og(I:Inv X pins σ H s):∀x c,X.env.cells.lookup x=some c->c≠X.env.locals:=λx c e z=>by
 obtain⟨v,o,f,d⟩:=I.cell x c e;obtain⟨m,⟨i,h,g,b,a,_⟩,_⟩:=I.loc;rw[z,b]at f;cases f;rw[a]at d;cases d
theorem Inv.dM(I:Inv X pins σ H s):s.heap.FunFrames X.base X.outer:=by
 have a:∀(l:List Env),(∀b∈iT l,b∈X.fs)->X.s₀.heap.FunFrames X.base l->s.heap.FunFrames X.base l:=by
  intro l
  induction l with
  |nil=>intro _ _;trivial
  |cons env r ih=>
   intro hs i;obtain⟨h,⟨L,o,f,j,k,g⟩,m⟩:=i;have c:L∈X.fs:=hs L (by unfold iT;rw[List.filterMap_cons,f];exact wx)
   obtain⟨sl,e⟩:=I.base.slot L o k (I.ok.mV L c) c λz=>I.ok.iR L z c
   exact⟨h,⟨L,_,f,j,e,g⟩,ih (λb d=>hs b (by unfold iT;rw[List.filterMap_cons,f];exact nN _ d)) m⟩
 exact a X.outer (λ_ d=>d) I.ok.dM
theorem Inv.stack(I:Inv X pins σ H s):s.heap.FunFrames X.base X.stack:=by
 rcases I.ok.wk with e|⟨e,a⟩
 . rw[e];exact I.dM
 . rw[e]
   obtain⟨m,b,_⟩:=I.loc;refine .cons (by rw[I.ok.kind];decide) a b ?_ I.dM
   exact Heap.get?_none_of_le (bQ I.ok.jC I.ok.above)
theorem Inv.fQ(I:Inv X pins σ H s):∀b∈iT X.stack,b∈X.env.locals::X.fs:=λb a=>by
 rcases I.ok.wk with e|⟨e,c⟩
 . rw[e]at a;exact nN _ a
 . rw[e]at a
   unfold iT at a;rw[List.filterMap_cons,c]at a;exact a
theorem Inv.iG(I:Inv X pins σ H s):∀b∈iT X.stack,H b=none:=λb a=>by
 rcases fC.mp (I.fQ b a)with e|a
 . rw[e];exact I.free
 . obtain⟨_,o,c,_⟩:=I.ok.dM.mem a
   exact I.base.free b o c (I.ok.mV b a) λz=>I.ok.iR b z a
theorem Inv.step{t':Nat}{d':Drawn}{ch:List Addr}(I:Inv X pins σ H s)
 (hch:∀b∈ch,(b∈X.ex∨X.s₀.heap.objs.size<=b)/\b≠X.env.locals/\(∀x c,X.env.cells.lookup x=some c->c≠b)/\∀p∈X.pn++pins,p.1≠b)
 (keep:∀b o,b≠X.env.locals->b∉X.fs->b∉ch->s.heap.get? b=some o->H b=none->h'.get? b=some o)
 (slot:∀b o,b≠X.env.locals->b∈X.fs->b∉ch->s.heap.get? b=some o->H b=none->∃sl,h'.get? b=some { o with slots:=sl }) (free:∀b o,b∉ch->s.heap.get? b=some o->H b=none->H' b=none)
 (there:∀b o,b∉ch->s.heap.get? b=some o->∃o',h'.get? b=some o')
 (bO:∀b xs,H b=some (.tup xs)->H' b=some (.tup xs)) (aY:∀b o u,H b=some (.aX o u)->H' b=some (.aX o u)) (fw:∀b ps,H b=some (.mE ps)->∃more,H' b=some (.mE (ps++more)))
 (ns:∀m,s.heap.Ns X.env.locals m->h'.Ns X.env.locals m) (av:cX X.prog X.w H' h') (hg:AllBare g'):
 Inv X pins σ H' { s with heap:=h',gens:=g',drawn:=d',toks:=t' }:=by
 have neL:∀b o,X.s₀.heap.get? b=some o->b≠X.env.locals:=λb o e=>cE (fA (bB e) I.ok.above)
 have neC:∀b o,X.s₀.heap.get? b=some o->b∉X.ex->b∉ch:=λb o e hx hb=>by
  rcases(hch b hb).1 with z|z
  . exact hx z
  . exact aU (fA (bB e) z) (j5 _)
 have cellK:∀x c,X.env.cells.lookup x=some c->∀v,s.heap.IsCell c v->h'.IsCell c v:=λx c e v ⟨o,ho,hd⟩=>by
  have nch:c∉ch:=λz=>(hch c z).2.2.1 x c e rfl
  by_cases hc:c∈X.fs
  . obtain⟨sl,q⟩:=slot c o (I.og x c e) hc nch ho (I.cg x c e)
    exact⟨_,q,hd⟩
  . exact⟨o,keep c o (I.og x c e) hc nch ho (I.cg x c e),hd⟩
 refine⟨I.ok,I.os,hg,⟨λb o e n hb hx=>?_,λb o e n hb hx=>?_,λb o e n hx=>?_,λb o e hx=>?_,λb xs e=>bO b xs (I.base.bO b xs e),λb o xs e=>aY b o xs (I.base.aY b o xs e),λb ps e=>?_⟩,?_,λx c e=>?_,?_,λx c e=>?_,λp hp=>?_,av,I.len⟩
 . exact keep b o (neL b o e) hb (neC b o e hx) (I.base.keep b o e n hb hx) (I.base.free b o e n hx)
 . obtain⟨sl,e1⟩:=I.base.slot b o e n hb hx
   obtain⟨sl',e2⟩:=slot b _ (neL b o e) hb (neC b o e hx) e1 (I.base.free b o e n hx);exact⟨sl',e2⟩
 . obtain⟨o',e1⟩:=I.base.there b o e hx
   exact free b o' (neC b o e hx) e1 (I.base.free b o e n hx)
 . obtain⟨o',e1⟩:=I.base.there b o e hx
   exact there b o' (neC b o e hx) e1
 . obtain⟨m1,e1⟩:=I.base.fw b ps e
   obtain⟨m2,e2⟩:=fw b _ e1;exact⟨m1++m2,by rw[e2,Array.append_assoc]⟩
 . obtain⟨m,hn,hl⟩:=I.loc
   refine⟨m,ns m hn,λi x v e1 e2 e3=>?_⟩
   obtain⟨u,r,l⟩:=hl i x v e1 e2 e3;refine⟨u,r,?_⟩;rcases l with l|⟨k,c,e,z⟩
   . exact .inl l
   . exact .inr ⟨k,c,e,cellK x c e _ z⟩
 . obtain⟨v,z⟩:=I.cell x c e
   exact⟨v,cellK x c e v z⟩
 . obtain⟨m,⟨o,_,_,ho,_⟩,_⟩:=I.loc
   exact free _ o (λz=>(hch _ z).2.1 rfl) ho I.free
 . obtain⟨v,o,ho,hd⟩:=I.cell x c e
   exact free c o (λz=>(hch c z).2.2.1 x c e rfl) ho (I.cg x c e)
 . obtain⟨e,n,ne,nf,d⟩:=I.pin p hp
   have nch:p.1∉ch:=λz=>(hch p.1 z).2.2.2 p hp rfl
   exact⟨keep p.1 p.2 ne nf nch e n,free p.1 p.2 nch e n,ne,nf,d⟩
theorem Inv.un(I:Inv X pins σ H s)(u:Un X.fs [] H H' s.heap h')(h:cX X.prog X.w H' h'):Inv X pins σ H' { s with heap:=h',toks:=t' }:=by
 obtain⟨m,⟨o,t,l,g,r⟩,_⟩:=id I.loc;obtain⟨sl,i⟩:=u.any g I.free (by simp)
 exact I.step (g':=s.gens) (d':=s.drawn) (ch:=[]) (λ_ z=>nomatch z) (λb o _ f _ e n=>u.keep b o e n f (by simp)) (λb o _ f _ e n=>u.slot b o e n f (by simp)) (λb o _ e n=>u.free b o e n (by simp)) (λb o _ e=>u.there b o e (by simp)) u.bO u.aY u.fw (λm' j=>by
  obtain⟨v,d,c,a,k⟩:=j;rw[g]at a;cases a;exact⟨_,d,c,i,k⟩) h I.bare
theorem Inv.call{ch:List Addr}(I:Inv X pins σ H s)(u:Un (iT X.stack) ch H H' s.heap h')(k:cX X.prog X.w H' h')(t:AllBare g')
 (d:∀b∈ch,(b∈X.ex∨X.s₀.heap.objs.size<=b)/\b≠X.env.locals/\(∀x c,X.env.cells.lookup x=some c->c≠b)/\∀p∈X.pn++pins,p.1≠b):
 Inv X pins σ H' { s with heap:=h',gens:=g',drawn:=d',toks:=t' }:=by
 obtain⟨m,⟨o,A,y,j,r⟩,_⟩:=id I.loc;obtain⟨sl,i⟩:=u.any j I.free λz=>(d _ z).2.1 rfl
 exact I.step (ch:=ch) d (λb o i l a e n=>u.keep b o e n (λz=>(fC.mp (I.fQ b z)).elim i l) a) (λb o _ _ a e n=>u.any e n a) (λb o a e n=>u.free b o e n a) (λb o a e=>u.there b o e a) u.bO u.aY u.fw (λm' v=>by
  obtain⟨C,h,g,f,w⟩:=v;rw[j]at f;cases f;exact⟨_,h,g,i,w⟩) k t
theorem Inv.turned(I:Inv X pins σ H s)(k:∀b o,b≠it->s.heap.get? b=some o->h'.get? b=some o)(w:H it=none)(f:it≠X.env.locals)
 (i:it∈X.ex∨X.s₀.heap.objs.size<=it) (j:∀x c,X.env.cells.lookup x=some c->c≠it) (l:∀p∈X.pn++pins,p.1≠it):Inv X pins σ H { s with heap:=h',toks:=t' }:=by
 have d:∀b u,H b=some u->b≠it:=λb u e z=>by rw[z,w]at e;cases e
 refine I.step (g':=s.gens) (d':=s.drawn) (ch:=[it]) (λb m=>?_) (λb o _ _ a e _=>k b o (λz=>a (by simp[z])) e) (λb o _ _ a e _=>⟨o.slots,k b o (λz=>a (by simp[z])) e⟩) (λ_ _ _ _ n=>n)
  (λb o a e=>⟨o,k b o (λz=>a (by simp[z])) e⟩) (λ_ _ e=>e) (λ_ _ _ e=>e) (λb A e=>⟨#[],by rw[e];simp⟩) (λm t=>?_) (λb u e=>?_) I.bare
 . have e:b=it:=by simpa using m
   subst e;exact⟨i,f,j,l⟩
 . obtain⟨o,h,g,y,r⟩:=t
   exact⟨o,h,g,k _ o (cx f) y,r⟩
 . refine(I.av b u e).fu (λc v a q=>k c v ?_ q) (λ_ q=>q) λ_ _ q=>q
   rcases a with z|z
   . rw[z];exact d b u e
   . exact d c _ z
theorem Inv.tok(I:Inv X pins σ H s)(t:Nat):Inv X pins σ H { s with toks:=t }:=I.un (h':=s.heap) (t':=t) Un.refl I.av
theorem Inv.kept(I:Inv X pins σ H s)(k:∀b u,s.heap.get? b=some u->h'.get? b=some u):Inv X pins σ H { s with heap:=h',toks:=t' }:=I.un (Un.kept k) (I.av.kept k)
theorem Inv.laid{a:Addr}(I:Inv X pins σ H s)(k:∀b u,s.heap.get? b=some u->h'.get? b=some u)(c:s.heap.objs.size<=a)(d:aB X.prog X.w (upd H a o) h' a o):
 Inv X pins σ (upd H a o) { s with heap:=h',toks:=t' }:=I.un (Un.laid k c (I.av.fresh c)) (I.av.laid k c d)
theorem Inv.write{x e:Addr}(I:Inv X pins σ H s)(f:ur (H x))(d:e=x∨H e=some (.own x))(k:∀b u,b≠e->s.heap.get? b=some u->h'.get? b=some u)(a:∃u,h'.get? e=some u)
 (c:aB X.prog X.w (upd H x o) h' x o):Inv X pins σ (upd H x o) { s with heap:=h',toks:=t' }:=I.un (Un.write f d k a) (I.av.write f d k a c)
theorem Inv.eF(I:Inv X pins σ H s)(h:∀p∈a,s.heap.get? p.1=some p.2/\H p.1=none/\p.1≠X.env.locals/\p.1∉X.fs/\∀v,p.2.data≠.cell v):Inv X a σ H s:=
 ⟨I.ok,I.os,I.bare,I.base,I.loc,I.cell,I.free,I.cg,λp b=>(c6.mp b).elim (λz=>I.pin p (zN _ z)) (h p),I.av,I.len⟩
theorem IM{N:az}(d:N.Nodup){i j:Nat}{x:Str}(a:N[i]? =some x)(b:N[j]? =some x):i=j:=by
 obtain⟨e,e1⟩:=mH.mp a;obtain⟨f,c⟩:=mH.mp b;exact(List.getElem_inj d).mp (e1.trans c.symm)
theorem Hq{i:Nat}{x:Str}{v:V}(I:Inv X pins σ H s)(hN:X.N.Nodup)(hi:X.N[i]? =some x)(hx:Loc X.env.scope x)(r:RelV v u)
 (h:∀s',Inv X pins (σ.set i (some v)) H s'->(∃a,Heap.SameBut a s.heap s'.heap/\(a=X.env.locals∨X.env.cells.lookup x=some a))->Q () s') (hf:X.fn x=true∨X.env.scope.names.lookup x=some .local):wpAny M A (storeName X.env x u) Q E s:=by
 obtain⟨m,hn,hl⟩:=id I.loc;have O:(X.env.scope.kind== .class||(X.env.scope.kind== .module&&X.env.locals != X.env.globals))=false:=by rw[I.ok.kind];rfl
 have w:i<σ.length:=by rw[I.len];exact(mH.mp hi).1
 have og:=I.og;have f:∀{a:Addr} {h':Heap},(∃o,s.heap.get? a=some o/\H a=none)->Heap.SameBut a s.heap h'->cX X.prog X.w H h':=λ{a h'} ha hs b ob e=>by
  obtain⟨_,_,l⟩:=ha;refine(I.av b ob e).fu (λc Z g q=>(hs.2 c ?_).trans q) (λ_ q=>q) λ_ _ q=>q
  rintro rfl;rcases g with rfl|g
  . rw[l]at e;cases e
  . rw[l]at g;cases g
 rcases hx with C|C
 . refine wpAny_storeName_local C hn (λh' hn' hs=>?_) O
   obtain⟨oL,_,_,hoL,_⟩:=id hn;refine h _ ⟨I.ok,I.os,I.bare,⟨λb o e n D hx=>?_,λb o e n D hx=>?_,I.base.free,λb o e hx=>?_,I.base.bO,I.base.aY,I.base.fw⟩,⟨_,hn',λj y v' e1 t e3=>?_⟩,λy c e=>?_,I.free,I.cg,λp hp=>?_,f ⟨oL,hoL,I.free⟩ hs,by simpa using I.len⟩ ⟨_,hs,.inl rfl⟩
   . exact(hs.2 b (cE (fA (bB e) I.ok.above))).trans (I.base.keep b o e n D hx)
   . obtain⟨sl,e1⟩:=I.base.slot b o e n D hx
     exact⟨sl,(hs.2 b (cE (fA (bB e) I.ok.above))).trans e1⟩
   . obtain⟨o',e1⟩:=I.base.there b o e hx
     exact⟨o',(hs.2 b (cE (fA (bB e) I.ok.above))).trans e1⟩
   . by_cases J:j=i
     . subst J
       rw[hi]at e1;cases e1;rw[List.getElem?_set_self w]at t;cases t;exact⟨u,r,.inl ⟨C,by simp⟩⟩
     . rw[List.getElem?_set_ne (cx J)]at t
       obtain⟨u',r',q⟩:=hl j y v' e1 t e3;refine⟨u',r',?_⟩;rcases q with⟨k,e⟩|⟨k,c,e,z⟩
       . refine .inl ⟨k,?_⟩
         have:y≠x:=λe=>J (IM hN e1 (e ▸ hi))
         simp[this,e]
       . exact .inr ⟨k,c,e,z.sameBut hs (og y c e)⟩
   . obtain⟨Z,z⟩:=I.cell y c e
     exact⟨Z,z.sameBut hs (og y c e)⟩
   . obtain⟨e,n,Y,nf,d⟩:=I.pin p hp
     exact⟨(hs.2 p.1 Y).trans e,n,Y,nf,d⟩
 . have F:X.fn x=true:=by
    rcases hf with z|z
    . exact z
    . rw[z]at C;cases C
   obtain⟨c,g⟩:=I.ok.has x (.inl C);obtain⟨Z,z⟩:=I.cell x c g;refine wpAny_storeName_cell I.ok.kind C g z (λh' L hs=>?_)
   obtain⟨oc,R,U⟩:=id z;refine h { s with heap:=h' } ⟨I.ok,I.os,I.bare,⟨λb o e n D hx=>?_,λb o e n D hx=>?_,I.base.free,λb o e hx=>?_,I.base.bO,I.base.aY,I.base.fw⟩,⟨m,hn.sameBut hs (cx (og x c g)),λj y v' e1 t e3=>?_⟩,λy W e=>?_,I.free,I.cg,λp hp=>?_,f ⟨oc,R,I.cg x c g⟩ hs,by simpa using I.len⟩ ⟨c,hs,.inr g⟩
   . exact(hs.2 b (cE (fA (bB e) (I.ok.rX x c F g)))).trans (I.base.keep b o e n D hx)
   . obtain⟨sl,e1⟩:=I.base.slot b o e n D hx
     exact⟨sl,(hs.2 b (cE (fA (bB e) (I.ok.rX x c F g)))).trans e1⟩
   . obtain⟨o',e1⟩:=I.base.there b o e hx
     exact⟨o',(hs.2 b (cE (fA (bB e) (I.ok.rX x c F g)))).trans e1⟩
   . by_cases J:j=i
     . subst J
       rw[hi]at e1;cases e1;rw[List.getElem?_set_self w]at t;cases t;exact⟨u,r,.inr ⟨.inl C,c,g,L⟩⟩
     . rw[List.getElem?_set_ne (cx J)]at t
       obtain⟨u',r',q⟩:=hl j y v' e1 t e3;refine⟨u',r',?_⟩;rcases q with q|⟨k,W,e,z'⟩
       . exact .inl q
       . refine .inr ⟨k,W,e,z'.sameBut hs ?_⟩
         rintro rfl;exact J (IM hN e1 (I.ok.inj _ _ _ e g ▸ hi))
   . by_cases N:W=c
     . subst N;exact⟨_,L⟩
     . obtain⟨w2,z2⟩:=I.cell y W e
       exact⟨w2,z2.sameBut hs N⟩
   . obtain⟨e,n,Y,nf,d⟩:=I.pin p hp
     refine⟨(hs.2 p.1 ?_).trans e,n,Y,nf,d⟩;intro q;rw[q,R]at e;have q':oc=p.2:=eV e;exact d Z (by rw[<-q'];exact U)
theorem yk{i:Nat}{x:Str}{v:V}{Q:Unit->Shared->Prop}(I:Inv X pins σ H s)(hN:X.N.Nodup)(hi:X.N[i]? =some x)(hx:Loc X.env.scope x)(r:RelV v u)
 (h:∀s',Inv X pins (σ.set i (some v)) H s'->Q () s') (hf:X.fn x=true∨X.env.scope.names.lookup x=some .local):wpAny M A (storeName X.env x u) Q E s:=
 Hq I hN hi hx r (λs' I' _=>h s' I') hf
theorem Inv.ux{s':Shared}{ch:List Addr}(I:Inv X pins σ H s)(g:s'.os=s.os)(u:Un (iT X.stack) ch H H' s.heap s'.heap)(d:cX X.prog X.w H' s'.heap)(f:AllBare s'.gens)
 (a:∀b∈ch,(b∈X.ex∨X.s₀.heap.objs.size<=b)/\b≠X.env.locals/\(∀x c,X.env.cells.lookup x=some c->c≠b)/\∀p∈X.pn++pins,p.1≠b):Inv X pins σ H' s':=by
 obtain⟨h',g',d',t',h⟩:=s';have e:h=s.os:=g;subst e;exact I.call (g':=g') (t':=t') (d':=d') u d f a
end
abbrev XK:=Value->Option Addr->Hp->Prop
abbrev St:=List (Option V)
abbrev VK:=V->Hp->Prop
abbrev TE:=St->Hp->VK->Prop
abbrev TT:=St->Hp->(Bool->Hp->Prop)->Prop
abbrev TA:=St->Hp->(LV->Hp->Prop)->Prop
structure Ends where
 nx:St->Hp->Prop
 rt:VK
 bk:St->Hp->Prop:=λ_ _=>False
 ct:St->Hp->Prop:=λ_ _=>False
abbrev TS:=Ends->St->Hp->Prop
def EP(X:Cx)(a:aF)(σ:St)(Q:VK)(u:Value)(s':Shared):Prop:=∃v b,Inv X a σ b s'/\RelV v u/\Q v b
def TP(X:Cx)(a:aF)(σ:St)(Q:Bool->Hp->Prop)(b:Bool)(s':Shared):Prop:=∃c,Inv X a σ c s'/\Q b c
def AP(X:Cx)(a:aF)(σ:St)(Q:LV->Hp->Prop)(us:au)(s':Shared):Prop:=∃vs b,Inv X a σ b s'/\Vals vs us/\Q vs b
def SP(X:Cx)(b:aF)(D:Ends)(f:Flow)(s':Shared):Prop:=
 match f with
 | .next=>∃a c,Inv X b a c s'/\D.nx a c
 | .brk=>∃a c,Inv X b a c s'/\D.bk a c
 | .cont=>∃a c,Inv X b a c s'/\D.ct a c
 | .ret u=>∃v a c,Inv X b a c s'/\RelV v u/\D.rt v c
def PE(X:Cx)(e:Expr)(t:TE):Prop:=
 ∀a s b H Q,Inv X a b H s->t b H Q->wpAny (model X.prog X.w) X.A (eval e X.env) (EP X a b Q) X.xe s
def PT(X:Cx)(e:Expr)(t:TT):Prop:=
 ∀(a:aF) (s:Shared) (σ:St) (H:Hp) (Q:Bool->Hp->Prop),Inv X a σ H s->t σ H Q->wpAny (model X.prog X.w) X.A (isTrue e X.env (eval e X.env)) (TP X a σ Q) X.xe s
def PW(X:Cx)(e:Expr)(t:TT):Prop:=
 ∀(a:Sem Value) (pins:aF) (s:Shared) (σ:St) (H:Hp) (Q:Bool->Hp->Prop),Inv X pins σ H s->t σ H Q->wpAny (model X.prog X.w) X.A (isTrue e X.env a) (TP X pins σ Q) X.xe s
theorem PW.pt{e:Expr}{t:TT}(h:PW X e t):PT X e t:=h _
def PA(X:Cx)(es:bc)(t:TA):Prop:=
 ∀(a:Pos) (pins:aF) (s:Shared) (σ:St) (H:Hp) (Q:LV->Hp->Prop),Inv X pins σ H s->t σ H Q->wpAny (model X.prog X.w) X.A (spliced (backTo a (starEach es X.env))) (AP X pins σ Q) X.xe s
def PS(X:Cx)(st:Stmt)(t:TS):Prop:=
 ∀a s b H D,Inv X a b H s->t D b H->wpAny (model X.prog X.w) X.A (exec st X.env) (SP X a D) X.xe s
def gq(X:Cx)(st:List Stmt)(t:TS):Prop:=
 ∀a s b H D,Inv X a b H s->t D b H->wpAny (model X.prog X.w) X.A (execs st X.env) (SP X a D) X.xe s
theorem ay{t:Sem α}{s:Shared}(h:wpAny M A t Q E s)(b:∀a s,Q a s->Q' a s):wpAny M A t Q' E s:=gQ h b λ_ _ x=>x
section
variable {X:Cx}
def Q3(i:Nat):TE:=λσ H Q=>∃v,σ[i]? =some (some v)/\Q v H
def tC(v:V):TE:=λ_ H Q=>Q v H
theorem Y0{i:Nat}{x:Str}(k:X.N[i]? =some x)(w:wM X.env.scope x)(f:(x==("__debug__":Str))=false:=by decide)(d:(x==("__classdict__":Str))=false:=by decide):PE X (.Name x pos) (Q3 i):=by
 intro b s y H Q I h;obtain⟨v,e,h⟩:=h;obtain⟨m,t,n⟩:=I.loc;obtain⟨u,r,l⟩:=n i x v k e w;have fin:EP X b y Q u s:=⟨v,H,I,r,h⟩;rcases l with⟨a,o⟩|⟨a,c,j,g⟩
 . exact wpAny_Name (wpAny_loadName_local I.ok.kind a t o fin) f
 . rcases a with a|a
   . exact wpAny_Name (wpAny_loadName_cell I.ok.kind a j g fin) f
   . exact wpAny_Name (wpAny_loadName_free I.ok.kind a j g fin d) f
theorem Yv{i j pos}:PE X (.Constant (.int i) j pos) (tC (.int i)):=λ_ _ _ H _ I h=>wpAny_Constant_int ⟨.int i,H,I.tok _,⟨_,rfl⟩,h⟩
theorem qvQ{b j pos}:PE X (.Constant (.bool b) j pos) (tC (.bl b)):=λ_ _ _ H _ I h=>Constant_bool ⟨.bl b,H,I,rfl,h⟩
theorem Yu{j pos}:PE X (.Constant .none j pos) (tC .aw):=λ_ _ _ H _ I h=>Constant_none ⟨.aw,H,I,rfl,h⟩
theorem Yr{x j pos}:PE X (.Constant (.str x) j pos) (tC (.str x)):=λ_ _ _ H _ I h=>Calls.Constant_str ⟨.str x,H,I.tok _,⟨_,rfl⟩,h⟩
def Gl(X:Cx)(x:Str):Prop:=X.env.kindOf x=some .globalImplicit
theorem m6{s:Shared}{x:Str}(I:Inv X pins σ H s)(b:Gl X x)(c:X.mg x=some u)(h:Q u s)
 (a:(x==("__debug__":Str))=false:=by decide):wpAny (model X.prog X.w) X.A (eval (.Name x pos) X.env) Q E s:=
 Calls.Name_function_global I.ok.kind b (Calls.loadGlobal_global (by rw[I.ok.glob];exact I.mod.glob.keeps I.bk) c h) a
theorem ng{s:Shared}{x:Str}(I:Inv X pins σ H s)(d:Gl X x)(e:X.mg x=none)(g:bootBuiltins x=some u)(h:Q u s)
 (f:x≠"__name__":=by decide) (c:(x==("__debug__":Str))=false:=by decide):wpAny (model X.prog X.w) X.A (eval (.Name x pos) X.env) Q E s:=by
 obtain⟨i,a,b⟩:=I.mod.blt;exact Calls.Name_function_global I.ok.kind d (Calls.loadGlobal_builtin (by rw[I.ok.glob];exact I.mod.glob.keeps I.bk) e (by rw[I.ok.blt];exact a.keeps I.bk) ((b x f).trans g) h) c
theorem Xc{x:Str}{v:V}(b:Gl X x)(c:X.mg x=some u)(r:RelV v u)(a:(x==("__debug__":Str))=false:=by decide):PE X (.Name x pos) (tC v):=
 λ_ _ _ H _ I h=>m6 I b c ⟨v,H,I,r,h⟩ a
theorem Xf{x:Str}{v:V}(b:Gl X x)(c:X.mg x=none)(e:bootBuiltins x=some u)(r:RelV v u)(d:x≠"__name__":=by decide)(a:(x==("__debug__":Str))=false:=by decide):PE X (.Name x pos) (tC v):=
 λ_ _ _ H _ I h=>ng I b c e ⟨v,H,I,r,h⟩ d a
variable {a b:Expr}{ta tb:TE}{pos:Pos}
def PC(X:Cx)(op:CmpOp)(a b:Expr)(t:TE):Prop:=
 ∀c s f H Q,Inv X c f H s->t f H Q->
  wpAny (model X.prog X.w) X.A (eval a X.env) (λv d=>wpAny (model X.prog X.w) X.A (eval b X.env) (λu e=>wpAny (model X.prog X.w) X.A (compareOp op v u) (EP X c f Q) X.xe e) X.xe d) X.xe s
theorem qhs(b:Expr){op:CmpOp}(h:op≠.In)(d:op≠.NotIn):behindInMarks op b=false:=by
 have e1:(op==CmpOp.In)=false:=by cases op<;>first|rfl|exact aU rfl h
 have c:(op==CmpOp.NotIn)=false:=by cases op<;>first|rfl|exact aU rfl d
 cases b<;>simp[behindInMarks,e1,c]
def tB(t:TE):TT:=λσ H Q=>t σ H λx H1=>∃c,x= .bl c/\Q c H1
theorem J2{op:CmpOp}{t:TE}(h:PC X op a b t)(h1:behindInMarks op b=false):PE X (.Compare a [op] [b] pos) t:=λpins s σ H Q I hw=>wpAny_Compare1 (h pins s σ H Q I hw) h1
theorem B5{op:CmpOp}{t:TE}(h:PC X op a b t)(e:behindInMarks op b=false):PT X (.Compare a [op] [b] pos) (tB t):=by
 intro c s l H Q I i;refine wpAny_isTrue_Compare1 (ay (h c s l H _ I i) λv m e=>ay e λu n g=>ay g λc o k=>?_) e;obtain⟨x,H1,f,r1,j⟩:=k
 obtain⟨d,rfl,q⟩:=j;cases r1;exact jW ⟨H1,f,q⟩
theorem YO{e:Expr}{t:TE}(h:PE X e t)(i:∀c,isTrue e X.env c=(do let v<-c;standAt e.pos;holding [v] (truthy v)):=by intro _;rfl):PT X e (tB t):=by
 intro f s m H Q I j;refine isTrue_plain (ay (h f s m H _ I j) λv n l=>?_) (i _);obtain⟨x,H1,g,r1,k⟩:=l
 obtain⟨d,rfl,q⟩:=k;cases r1;exact jW ⟨H1,g,q⟩
variable {tA tB':TT}{rest:bc}
def Rh(t u:TT):TT:=λσ H Q=>t σ H λc H1=>if c=true then u σ H1 Q else Q false H1
def tOr(t u:TT):TT:=λσ H Q=>t σ H λc H1=>if c=true then Q true H1 else u σ H1 Q
def Q9(t:TT):TT:=λσ H Q=>t σ H λc H1=>Q (!c) H1
theorem WY(f:PT X a tA):PW X (.BoolOp .And [a] pos) tA:=by
 intro j d s g H Q I h;refine isTrue_and (ay (f d s g H Q I h) λc i e=>?_)
 cases c with
 |true=>exact isTrue_and_nil e
 |false=>exact e
theorem YM(f:PT X a tA):PW X (.BoolOp .Or [a] pos) tA:=by
 intro j d s g H Q I h;refine isTrue_or (ay (f d s g H Q I h) λc i e=>?_)
 cases c with
 |false=>exact isTrue_or_nil e
 |true=>exact e
theorem YN(i:PT X a tA)(j:PW X (.BoolOp .And (b::rest) pos) tB'):PW X (.BoolOp .And (a::b::rest) pos) (Rh tA tB'):=by
 intro l d s g H Q I h;refine isTrue_and (ay (i d s g H _ I h) λc k m=>?_);obtain⟨H1,e,f⟩:=m
 cases c with
 |true=>exact j l d k g H1 Q e f
 |false=>exact⟨H1,e,f⟩
theorem qvH(i:PT X a tA)(j:PW X (.BoolOp .Or (b::rest) pos) tB'):PW X (.BoolOp .Or (a::b::rest) pos) (tOr tA tB'):=by
 intro l d s g H Q I h;refine isTrue_or (ay (i d s g H _ I h) λc k m=>?_);obtain⟨H1,e,f⟩:=m
 cases c with
 |true=>exact⟨H1,e,f⟩
 |false=>exact j l d k g H1 Q e f
theorem YQ(e:PT X a tA):PT X (.UnaryOp .Not a pos) (Q9 tA):=by
 intro d s f H Q I h;exact isTrue_not (e d s f H (λc H1=>Q (!c) H1) I h)
def quQ(ta tb:TE):TE:=λσ H Q=>ta σ H λx H1=>∃c,x= .bl c/\if c=true then tb σ H1 Q else Q (.bl false) H1
def Q8(ta tb:TE):TE:=λσ H Q=>ta σ H λx H1=>∃c,x= .bl c/\if c=true then Q (.bl true) H1 else tb σ H1 Q
def Z9(ta:TE):TE:=λσ H Q=>ta σ H λx H1=>∃c,x= .bl c/\Q (.bl (!c)) H1
theorem Ys{op}{t:TE}(h:PE X a t):PE X (.BoolOp op [a] pos) t:=λpins s σ H Q I hw=>BoolOp_one (h pins s σ H Q I hw)
theorem Yx(i:PE X a ta)(j:PE X (.BoolOp .And (b::rest) pos) tb):PE X (.BoolOp .And (a::b::rest) pos) (quQ ta tb):=by
 intro d s g H Q I h;refine BoolOp_and (ay (i d s g H _ I h) λv k l=>?_);obtain⟨x,H1,f,r1,e⟩:=l
 obtain⟨c,rfl,e⟩:=e;cases r1;refine jW ?_;cases c with
 |true=>exact j d k g H1 Q f e
 |false=>exact⟨.bl false,H1,f,rfl,e⟩
theorem qvN(i:PE X a ta)(j:PE X (.BoolOp .Or (b::rest) pos) tb):PE X (.BoolOp .Or (a::b::rest) pos) (Q8 ta tb):=by
 intro d s g H Q I h;refine BoolOp_or (ay (i d s g H _ I h) λv k l=>?_);obtain⟨x,H1,f,r1,e⟩:=l
 obtain⟨c,rfl,e⟩:=e;cases r1;refine jW ?_;cases c with
 |false=>exact j d k g H1 Q f e
 |true=>exact⟨.bl true,H1,f,rfl,e⟩
theorem Yt(g:PE X a ta):PE X (.UnaryOp .Not a pos) (Z9 ta):=by
 intro d s j H Q I h;refine UnaryOp_ (ay (g d s j H _ I h) λv k i=>?_);obtain⟨x,H1,f,r1,e⟩:=i
 obtain⟨c,rfl,e⟩:=e;cases r1;exact not_of (jW ⟨.bl (!c),H1,f,rfl,e⟩)
def tIf(t:TT)(ta tb:TE):TE:=λσ H Q=>t σ H λc H1=>if c=true then ta σ H1 Q else tb σ H1 Q
theorem U6(m:PT X c tA)(k:PE X a ta)(l:PE X b tb):PE X (.IfExp c a b pos) (tIf tA ta tb):=by
 intro e s f H Q I h;refine wpAny_IfExp (ay (m e s f H _ I h) λd j n=>?_);obtain⟨H1,g,i⟩:=n
 cases d with
 |true=>exact k e j f H1 Q g i
 |false=>exact l e j f H1 Q g i
end
def c7(K:ah)(H:Hp)(a:Addr)(xs:LV):Prop:=
 Rd H a (.lst xs)∨
  ∃(o:Obj) (ae:Array Value) (n:Nat),K.lookup a=some o/\o.cls= .type "list"/\o.dict=none/\o.data= .seq ae n/\ae.size<=sizeLine/\Vals xs ae.toList
def bS(K:ah)(H:Hp)(a:Addr)(xs:LV):Prop:=
 Rd H a (.tup xs)∨
  ∃(o:Obj) (ae:Array Value) (n:Nat),K.lookup a=some o/\o.cls= .type "tuple"/\o.data= .seq ae n/\ae.size<=sizeLine/\Vals xs ae.toList
noncomputable def SH:Value->Option V
 | .none=>some .aw
 | .bool b=>some (.bl b)
 | .int i _=>some (.int i)
 | .str x _=>some (.str x)
 | .bytes b _=>some (.wQ b)
 | .float b _=>some (.qm b)
 | .ref a=>some (.ref a)
 | .type n=>some (.ty n)
 |_=>none
theorem RelV.abs{x:V}(r:RelV x u):SH u=some x:=by
 cases x with
 |aw=>cases r;rfl
 |bl _=>cases r;rfl
 |int _=>obtain⟨t,rfl⟩:=r;rfl
 |str _=>obtain⟨t,rfl⟩:=r;rfl
 |wQ _=>obtain⟨t,rfl⟩:=r;rfl
 |qm _=>obtain⟨t,rfl⟩:=r;rfl
 |ref _=>cases r;rfl
 |ty _=>cases r;rfl
theorem RelV.inj{x y:V}(r:RelV x u)(q:RelV y u):x=y:=eV (r.abs.symm.trans q.abs)
theorem Vals.inj:∀{xs ys:LV} {us:au},Vals xs us->Vals ys us->xs=ys
 |_,_,_,.nil,.nil=>rfl
 |_,_,_,.cons r t,.cons r' t'=>by rw[r.inj r',Vals.inj t t']
section
variable {X:Cx}{pins:aF}{σ:St}{H:Hp}{s:Shared}{a:Addr}{xs ys:LV}
theorem c7.of{K:ah}(h:H a=some (.lst xs)):c7 K H a xs:=.inl (.inl h)
theorem bS.of{K:ah}(h:H a=some (.tup xs)):bS K H a xs:=.inl (.inl h)
theorem Inv.list(I:Inv X pins σ H s)(h:c7 X.K H a xs):∃ae:au,Vals xs ae/\PlainL s.heap a ae.toArray/\xs.length<=sizeLine:=by
 rcases h with h|⟨o,ae,n,d,b,c,hs,f,r⟩
 . obtain⟨z,ae,n,r,e⟩:=h.ok I.av
   exact⟨ae,r,⟨_,n,e,rfl,rfl,rfl⟩,z⟩
 . refine⟨ae.toList,r,⟨o,n,I.dE a o d,b,c,by simpa using hs⟩,?_⟩
   have e:=r.length;simp only[Array.length_toList]at e;lia
theorem Inv.tuple(I:Inv X pins σ H s)(h:bS X.K H a xs):∃ae:au,Vals xs ae/\IsTup s.heap a ae.toArray/\xs.length<=sizeLine:=by
 rcases h with h|⟨o,ae,n,c,b,hs,d,r⟩
 . obtain⟨z,ae,r,p⟩:=h.ok I.av
   exact⟨ae,r,p,z⟩
 . refine⟨ae.toList,r,⟨o,I.dE a o c,b,n,by simpa using hs⟩,?_⟩
   have e:=r.length;simp only[Array.length_toList]at e;lia
theorem Inv.jI(I:Inv X pins σ H s)(h:c7 X.K H a xs)(h':c7 X.K H a ys):xs=ys:=by
 obtain⟨ae,r,⟨o,n,e,_,_,d⟩,_⟩:=I.list h;obtain⟨b,g,⟨j,i,f,_,_,c⟩,_⟩:=I.list h';rw[e]at f;cases f;rw[d]at c;injection c with d1 _
 have:ae=b:=by simpa using congrArg Array.toList d1
 subst this;exact r.inj g
theorem Inv.i7(I:Inv X pins σ H s)(h:bS X.K H a xs)(h':bS X.K H a ys):xs=ys:=by
 obtain⟨ae,r,⟨o,e,_,n,d⟩,_⟩:=I.tuple h;obtain⟨b,g,⟨j,f,_,i,c⟩,_⟩:=I.tuple h';rw[e]at f;cases f;rw[d]at c;injection c with d1 _
 have:ae=b:=by simpa using congrArg Array.toList d1
 subst this;exact r.inj g
end
noncomputable abbrev Cx.wish (X:Cx) (E:aK):Cx:={ X with xe:=E }
noncomputable abbrev Cx.sA (X:Cx):Cx:=X.wish λ_ _=>False
theorem Cx.Ok.wish{X:Cx}(a:X.Ok)(E):(X.wish E).Ok:=
 ⟨a.mod,a.kind,a.glob,a.blt,a.above,a.inj,a.has,a.rX,a.hd,a.frames,a.wk,a.uB,a.bs,a.jC,a.iW,a.iR,a.dM,a.mV⟩
theorem Cx.Ok.cq{X:Cx}(a:(X.wish E).Ok):X.Ok:=
 ⟨a.mod,a.kind,a.glob,a.blt,a.above,a.inj,a.has,a.rX,a.hd,a.frames,a.wk,a.uB,a.bs,a.jC,a.iW,a.iR,a.dM,a.mV⟩
section
variable {X:Cx}{pins:aF}{σ:St}{H:Hp}{s:Shared}{E:aK}
theorem Inv.wish(I:Inv X pins σ H s)(E):Inv (X.wish E) pins σ H s:=⟨I.ok.wish E,I.os,I.bare,I.base,I.loc,I.cell,I.free,I.cg,I.pin,I.av,I.len⟩
theorem Inv.cq(I:Inv (X.wish E) pins σ H s):Inv X pins σ H s:=⟨I.ok.cq,I.os,I.bare,I.base,I.loc,I.cell,I.free,I.cg,I.pin,I.av,I.len⟩
theorem SP.cq(h:SP (X.wish E) pins D f s'):SP X pins D f s':=by
 cases f with
 |next=>obtain⟨a,b,I,q⟩:=h;exact⟨a,b,I.cq,q⟩
 |brk=>obtain⟨a,b,I,q⟩:=h;exact⟨a,b,I.cq,q⟩
 |cont=>obtain⟨a,b,I,q⟩:=h;exact⟨a,b,I.cq,q⟩
 |ret u=>obtain⟨v,a,b,I,r,q⟩:=h;exact⟨v,a,b,I.cq,r,q⟩
theorem gq.sA{st:List Stmt}{t:TS}(h:gq X.sA st t):gq X st t:=λpins s σ H D I a=>
 gQ (h pins s σ H D (I.wish _) a) (λ_ _ q=>q.cq) λ_ _ z=>False.elim z
end
section
variable {X:Cx}{st:Stmt}{rest:List Stmt}{t u:TS}{e:Expr}{te:TE}{pos:Pos}
def quI:TS:=λD a H=>D.nx a H
def Q5(t u:TS):TS:=λD a H=>t { D with nx:=u D } a H
theorem WZ:gq X [] quI:=λ_ _ a H _ I h=>wpAny_execs_nil ⟨a,H,I,h⟩
theorem VL(g:PS X st t)(i:gq X rest u):gq X (st::rest) (Q5 t u):=by
 intro a s k H D I h;refine wpAny_execs_cons (ay (g a s k H { D with nx:=u D } I h) λf j q=>?_)
 cases f with
 |next=>
  obtain⟨b,c,d,q⟩:=q;exact i a j b c D d q
 |ret v=>exact q
 |brk=>exact q
 |cont=>exact q
theorem Inv.quiet{s:Shared}(I:Inv X pins σ H s):interactive X.env=false:=by simp[interactive,I.ok.kind]
def quM(te:TE):TS:=λD a H=>te a H λ_ H1=>D.nx a H1
theorem W4(c:PE X e te)(hs:swapsWith e none pos.line X.env=pure false:=by rfl):PS X (.Expr e pos) (quM te):=by
 intro a s b H D I h;exact wpAny_Expr_any (ay (c a s b H _ I h) λv d ⟨x,H1,I1,r1,q1⟩=>⟨b,H1,I1,q1⟩) I.quiet hs
def Q6(te:TE):TS:=λD a H=>te a H D.rt
theorem YT(c:PE X e te):PS X (.Return (some e) pos) (Q6 te):=by
 intro a s b H D I h;exact wpAny_Return_some (ay (c a s b H _ I h) λv d ⟨x,H1,I1,r1,q1⟩=>⟨x,b,H1,I1,r1,q1⟩)
def Z7:TS:=λD _ H=>D.rt .aw H
theorem W3:PS X (.Return none pos) Z7:=λ_ _ a H _ I h=>wpAny_Return_none ⟨.aw,a,H,I,rfl,h⟩
def Rb(c:TT)(t u:TS):TS:=λD a H=>c a H λb H1=>if b=true then t D a H1 else u D a H1
theorem qvJ{a b:List Stmt}(n:PT X c tc)(l:gq X a t)(m:gq X b u):PS X (.If c a b pos) (Rb tc t u):=by
 intro f s g H D I h;refine wpAny_If (ay (n f s g H _ I h) λd k o=>?_);obtain⟨H1,i,j⟩:=o
 cases d with
 |true=>exact l f k g H1 D i j
 |false=>exact m f k g H1 D i j
end
abbrev TG:=V->St->Hp->(St->Hp->Prop)->Prop
abbrev mS:=LV->St->Hp->(St->Hp->Prop)->Prop
def PG(X:Cx)(a:Expr)(t:TG):Prop:=
 ∀(b:aF) (s:Shared) (σ:St) (H:Hp) (v:V) (u:Value) (Q:St->Hp->Prop),Inv X b σ H s->RelV v u->t v σ H Q->
  wpAny (model X.prog X.w) X.A (assign a X.env u) (λ_ e=>∃c d,Inv X b c d e/\Q c d) X.xe s
def nX(X:Cx)(e:bc)(t:mS):Prop:=
 ∀(a:aF) (s:Shared) (σ:St) (H:Hp) (vs:LV) (us:au) (Q:St->Hp->Prop),Inv X a σ H s->Vals vs us->t vs σ H Q->
  wpAny (model X.prog X.w) X.A (assignInOrder ((assignEach e X.env).map (·.2)) us) (λ_ d=>∃b c,Inv X a b c d/\Q b c) X.xe s
abbrev zu:=V->V->V->Hp->(Hp->Prop)->Prop
def zv(X:Cx)(t:zu):Prop:=
 ∀(a:aF) (s:Shared) (σ:St) (H:Hp) (o i v:V) (ov iv u:Value) (Q:Hp->Prop),Inv X a σ H s->RelV o ov->RelV i iv->RelV v u->t o i v H Q->
  wpAny (model X.prog X.w) X.A (setItem ov iv u) (λ_ c=>∃b,Inv X a σ b c/\Q b) X.xe s
section
variable {X:Cx}{pos:Pos}
def CT(i:Nat):TG:=λv a H Q=>Q (a.set i (some v)) H
theorem yr{i:Nat}{x:Str}(c:X.N.Nodup)(hi:X.N[i]? =some x)(hx:Loc X.env.scope x)(d:X.fn x=true∨X.env.scope.names.lookup x=some .local):PG X (.Name x pos) (CT i):=by
 intro a s e H v u Q I r h;exact wpAny_assign_Name (yk I c hi hx r (λs' b=>⟨_,H,b,h⟩) d)
def OV:mS:=λvs a H Q=>vs= []/\Q a H
def LB(t:TG)(u:mS):mS:=λvs σ H Q=>∃v r,vs=v::r/\t v σ H λσ' H'=>u r σ' H' Q
theorem Jw:nX X [] OV:=by
 intro a s b H vs us Q I r h;obtain⟨e,h⟩:=h;subst e;cases r;exact assignInOrder_nil ⟨b,H,I,h⟩
theorem IH{e:Expr}{t:TG}(d:PG X e t)(f:nX X es u)
 (hs:(assignEach (e::es) X.env).map (·.2)=assign e X.env::(assignEach es X.env).map (·.2):=by rfl):nX X (e::es) (LB t u):=by
 intro a s k H vs us Q I r h;obtain⟨v,l,e1,h⟩:=h;subst e1;cases r with
 |cons r rr=>
  rw[hs];refine assignInOrder_cons (ay (d a s k H _ _ _ I r h) λ_ i j=>?_);obtain⟨b,H1,c,g⟩:=j
  exact f a i b H1 _ _ Q c rr g
def OU(K:ah)(n:Nat)(t:mS):TG:=λv c H Q=>∃a b,v= .ref a/\bS K H a b/\b.length=n/\t b c H Q
theorem J0{t:mS}{n:Nat}(hc:X.calm=true)(h:nX X es t)
 (hn:(assignEach es X.env).length=n:=by rfl) (hst:(assignEach es X.env).findIdx? (·.1)=none:=by rfl):PG X (.Tuple es k pos) (OU X.K n t):=by
 intro pins s σ H v u Q I r hw;obtain⟨a,xs,e1,hq,hl,hw⟩:=hw;subst e1;cases r;obtain⟨ae,rv,ht,hz⟩:=I.tuple hq;refine assign_Tuple_tuple (I.ok.hd hc) ht (by simp[hn,<-hl,rv.length]) hst λh' hx=>?_
 have I1:Inv X pins σ H { s with heap:=h' }:=I.kept (t':=s.toks) λb o e=>hx b o (cE (bB e)) e
 exact h pins _ σ H xs _ Q I1 (by simpa using rv) hw
def Rp(to ti:TE)(t:zu):TG:=λv σ H Q=>to σ H λo H1=>ti σ H1 λi H2=>t o i v H2 λH3=>Q σ H3
theorem YZ{o i:Expr}{t:zu}(ho:PE X o to)(hi:PE X i ti)(hs:zv X t)
 (ha:∀v,assign (.Subscript o i pos) X.env v=(do
  let ov<-holding [v] (eval o X.env)
  let iv<-holding [v,ov] (eval i X.env)
  standAt pos
  holding [v,ov,iv] (setItem ov iv v)
  release [v,ov,iv] []):=by intro _;rfl):PG X (.Subscript o i pos) (Rp to ti t):=by
 intro pins s σ H v u Q I r h;rw[ha];refine ai (jz (ay (ho pins s σ H _ I h) λov s1 zz=>?_));obtain⟨x,H1,I1,r1,q1⟩:=zz
 refine ai (jz (ay (hi pins s1 σ H1 _ I1 q1) λiv s2 zz=>?_));obtain⟨y,H2,I2,r2,q2⟩:=zz
 refine ai (wpAny_standAt (ai (jz (ay (hs pins s2 σ H2 x y v ov iv u _ I2 r1 r2 r q2) λ_ s3 zz=>?_))));obtain⟨H3,I3,q3⟩:=zz
 exact wpAny_release ⟨σ,H3,I3,q3⟩
def O8(b:TE)(g:TG):TS:=λD a H=>b a H λx H1=>g x a H1 D.nx
theorem YX{tg e:Expr}{g:TG}(f:PE X e te)(i:PG X tg g)(hs:swapsWithSole [tg] e pos.line X.env=pure false:=by rfl)(j:swappedStores [tg] e X.env=pure none:=by rfl)
 (d:(assignEach [tg] X.env).map (·.2)= [assign tg X.env]:=by rfl):PS X (.Assign [tg] e pos) (O8 te g):=by
 intro a s b H D I h;refine wpAny_Assign_stores (ay (f a s b H _ I h) λv l m=>?_) hs j;obtain⟨x,H1,c,r1,k⟩:=m
 rw[d];exact ay (i a l b H1 x v _ c r1 k) λ_ n q=>q
theorem YS{i:Nat}{x:Str}{e:Expr}(d:X.N.Nodup)(hi:X.N[i]? =some x)(hx:Loc X.env.scope x)(f:PE X e te)(hs:swapsWith e (some (.Name x pos')) pos.line X.env=pure false:=by rfl)(g:X.fn x=true∨X.env.scope.names.lookup x=some .local):
 PS X (.Assign [.Name x pos'] e pos) (O8 te (CT i)):=by
 intro a s l H D I h;refine wpAny_Assign_Name (ay (f a s l H _ I h) λv m k=>?_) hs;obtain⟨y,H1,b,r1,j⟩:=k
 exact yk b d hi hx r1 (λs2 c=>⟨_,H1,c,j⟩) g
def Q7(i j:Nat)(b:TA):TS:=λD a H=>b a H λvs H1=>∃v w,vs= [v,w]/\D.nx ((a.set i (some v)).set j (some w)) H1
theorem YU{i j:Nat}{x y:Str}{a b:Expr}{m n pt:Pos}{kt k2 pt2}(N:X.calm=true)(z:X.N.Nodup)(hi:X.N[i]? =some x)(O:X.N[j]? =some y)(k:i≠j)
 (hx:X.env.scope.names.lookup x=some .local) (A:X.env.scope.names.lookup y=some .local) (M:PA X [a,b] ta)
 (Q:swappedStores [.Tuple [.Name x m,.Name y n] kt pt] (.Tuple [a,b] k2 pt2) X.env=pure (some [x,y]))
 (hs:swapsWithSole [.Tuple [.Name x m,.Name y n] kt pt] (.Tuple [a,b] k2 pt2) pos.line X.env=pure false:=by rfl):
 PS X (.Assign [.Tuple [.Name x m,.Name y n] kt pt] (.Tuple [a,b] k2 pt2) pos) (Q7 i j ta):=by
 intro c s C H D I h;rw[exec_Assign_arm];refine ai (wpAny_standAt ?_);rw[hs];refine ai (aC ?_);rw[ab ⋯]
 refine ai (Tuple_ (ay (M _ c s C H _ I h) λus d R=>?_));obtain⟨vs,H1,E,r1,r⟩:=R
 obtain⟨v,w,e1,r⟩:=r;subst e1;obtain⟨f,g,rfl,rv,t⟩:∃f g,us= [f,g]/\RelV v f/\RelV w g:=by
  cases r1 with
  |cons p q=>
   cases q with
   |cons p' q'=>
    cases q';exact⟨_,_,rfl,p,p'⟩
 refine jX ?_ (by show 2<=sizeLine;decide)
 have F:Inv X c C H1 { d with heap:=d.heap.push { cls:=.type "tuple",data:=.seq [f,g].toArray } }:=E.kept (t':=d.toks) λb o e=>bx _ e
 rw[Q];refine ai (aC ?_);show wpAny (model X.prog X.w) X.A (do rule "assign.swapped-stores";let items<-unpackItems (.ref d.heap.objs.size) 2 none;assignInOrder [λv=>bindName X.env y v,λv=>bindName X.env x v] items.reverse;pure Flow.next) _ _ _
 refine ai (wpAny_rule (ai (unpackItems_tuple (items:=#[f,g]) (I.ok.hd N) (IsTup.new d.heap _) λh' l=>?_)))
 have J:=F.kept (h':=h') (t':=d.toks) λb o e=>l b o (cE (bB e)) e
 show wpAny _ _ (assignInOrder [λv=>bindName X.env y v,λv=>bindName X.env x v] [g,f] >>= λ_=>pure Flow.next) _ _ _
 refine ai (assignInOrder_cons (wpAny_bindName (yk J z O (.inl A) t (λs2 L=>?_) (.inr A))))
 refine assignInOrder_cons (wpAny_bindName (yk L z hi (.inl hx) rv (λs3 u=>assignInOrder_nil (aC ?_)) (.inr hx)))
 rw[List.set_comm _ _ (cx k)]at u;exact⟨_,H1,u,r⟩
end
structure It where
 go:Nat->Hp->Prop
 DZ:Nat->Hp->V->Hp->Prop
 stop:Nat->Hp->Prop
def kE(X:Cx)(a:aF)(H:Hp)(b:Addr):Prop:=
 H b=none/\b≠X.env.locals/\b∉X.fs/\(b∈X.ex∨X.s₀.heap.objs.size<=b)/\(∀x c,X.env.cells.lookup x=some c->c≠b)/\∀p∈X.pn++a,p.1≠b
theorem Inv.gv{s:Shared}{b:Addr}(I:Inv X pins σ H s)(a:s.heap.objs.size<=b)(d:H' b=none):kE X pins H' b:=by
 refine⟨d,Nat.ne_of_gt (fA I.lt a),I.uK a,.inr (bQ I.sz a),λx c e z=>?_,λp f z=>?_⟩
 . obtain⟨v,q⟩:=I.cell x c e
   exact aU (fA q.lt (by rw[z];exact a)) (j5 _)
 . exact aU (fA (bB (I.pin p f).1) (by rw[z];exact a)) (j5 _)
structure Turn(P:Program)(w:World)(K:ah)(tg:Expr)(J:It)(fp:List Addr)(it:Addr)(tn:Nat->Heap->Prop):Prop where
 mem:it∈fp
 obj:∀i h,tn i h->∀b∈fp,∃o,h.get? b=some o/\∀v,o.data≠.cell v
 keep:∀i h h',tn i h->(∀b∈fp,∀o,h.get? b=some o->h'.get? b=some o)->tn i h'
 item:∀(X:Cx),X.prog=P->X.w=w->X.K=K->X.calm=true->∀(i:Nat) (pins:aF) (s:Shared) (σ:St) (H:Hp) (E:aK),Inv X pins σ H s->(∀b∈fp,kE X pins H b)->tn i s.heap->J.go i H->
  wpAny (model P w) X.A (pyNext (.ref it)) (λr s1=>∃u,r=some u/\
   wpAny (model P w) X.A (letOwnedTupleGo tg (.ref it) u) (λ_ s2=>∃x H',Inv X pins σ H' s2/\RelV x u/\J.DZ i H x H'/\tn (i+1) s2.heap/\∀b∈fp,H' b=none) E s1) E s
 done:∀(X:Cx),X.prog=P->X.w=w->X.K=K->X.calm=true->∀(i:Nat) (pins:aF) (s:Shared) (σ:St) (H:Hp) (E:aK),Inv X pins σ H s->(∀b∈fp,kE X pins H b)->tn i s.heap->J.stop i H->
  wpAny (model P w) X.A (pyNext (.ref it)) (λr s1=>r=none/\Inv X pins σ H s1) E s
 self:∀(A:Around) (i:Nat) (s:Shared) (Q:aK) (E:aK),tn i s.heap->Q (.ref it) s->wpAny (model P w) A (pyIter (.ref it)) Q E s
abbrev TI:=St->Hp->(It->Hp->Prop)->Prop
def D3(X:Cx)(a:aF)(σ:St)(tg:Expr)(R:It->Hp->Prop)(c:Value)(f:Shared):Prop:=
 ∃(e:Addr) (d:List Addr) (tn:Nat->Heap->Prop) (J:It) (H':Hp),c= .ref e/\Inv X a σ H' f/\Turn X.prog X.w X.K tg J d e tn/\tn 0 f.heap/\(∀b∈d,kE X a H' b)/\R J H'
def PI(X:Cx)(tg b:Expr)(d:TI):Prop:=
 ∀(a:aF) (s:Shared) (σ:St) (H:Hp) (R:It->Hp->Prop),Inv X a σ H s->d σ H R->
  wpAny (model X.prog X.w) X.A (eval b X.env) (λv c=>wpAny (model X.prog X.w) X.A (pyIter v) (D3 X a σ tg R) X.xe c) X.xe s
theorem vA{s:Shared}{tg:Expr}{n:String}{vs:Array Value}(e:s.heap.get? it=some o)(b:o.cls= .type n)(c:o.data= .fields vs)
 (d:["enumerate","zip","dict_itemiterator","dict_reverseitemiterator","odict_iterator","itertools.zip_longest","itertools.pairwise"].contains n=false) (a:Q () s):wpAny M A (letOwnedTupleGo tg (.ref it) u) Q E s:=by
 unfold letOwnedTupleGo;cases tg<;>first
  |exact aC a
  |(cases u<;>first
   |exact aC a
   |(refine ai (wpAny_load e ?_)
     rw[b,c];show wpAny M A (if(["enumerate","zip","dict_itemiterator","dict_reverseitemiterator","odict_iterator","itertools.zip_longest","itertools.pairwise"].contains n&&vs[0]? ==some (rawInt _))=true then _ else _) Q E s
     rw[ab (by intro h;rw[d,Bool.false_and]at h;cases h)]
     exact aC a))
noncomputable def wF (K:ah)(a:Addr):It:=
 ⟨λi H=>∃b x,c7 K H a b/\b[i]? =some x,λi H x c=>c=H/\∀b,c7 K H a b->b[i]? =some x,λi H=>∃b,c7 K H a b/\b.length<=i⟩
noncomputable def D1 (K:ah)(a:Addr):It:=
 ⟨λi H=>∃b x,bS K H a b/\b[i]? =some x,λi H x c=>c=H/\∀b,bS K H a b->b[i]? =some x,λi H=>∃b,bS K H a b/\b.length<=i⟩
noncomputable def wG (lo:Int)(n:Nat):It:=⟨λi _=>i<n,λi H x a=>a=H/\x= .int (lo+i),λi _=>n<=i⟩
theorem Uc{P:Program}{K:ah}{tg:Expr}(a it:Addr):Turn P w K tg (wF K a) [it] it (λi h=>h.IsListIter it a i) where
 mem:=by simp
 obj:=λi h st b hb=>by
  have e:b=it:=by simpa using hb
  subst e;obtain⟨o,e,c,d⟩:=st;exact⟨o,e,λv z=>by rw[d]at z;cases z⟩
 keep:=λi h h' st k=>st.at λo e=>k it (by simp) o e
 item:=by
  intro X hP hw hK hc i pins s σ H E I hf st hg;subst hP hw hK;obtain⟨xs,x,hq,hx⟩:=hg;obtain⟨ae,rv,p,hz⟩:=I.list hq;obtain⟨u,hu,ru⟩:=rv.get hx;obtain⟨f0,f1,f2,f3,f4,f5⟩:=hf it (by simp)
  refine wpAny_pyNext_list_item st p.isList (x:=u) (by simpa using hu) λh' st' sb=>?_
  have I1:Inv X pins σ H { s with heap:=h' }:=I.turned (t':=s.toks) (λb o hb e=>(sb.2 b hb).trans e) f0 f1 f3 f4 f5
  obtain⟨o,e,c,d⟩:=id st';exact⟨u,rfl,vA (s:={ s with heap:=h' }) e c d ⋯ ⟨x,H,I1,ru,⟨rfl,λys hy=>by rw[I.jI hy hq];exact hx⟩,st',λb hb=>(hf b hb).1⟩⟩
 done:=by
  intro X hP hw hK hc i pins s σ H E I hf st hg;subst hP hw hK;obtain⟨xs,hq,hx⟩:=hg;obtain⟨ae,rv,p,hz⟩:=I.list hq;obtain⟨f0,f1,f2,f3,f4,f5⟩:=hf it (by simp)
  have hl:=rv.length;exact wpAny_pyNext_list_end (I.ok.hd hc) st p.isList (by simp;lia) λh' eb=>⟨rfl,I.turned (t':=s.toks) (λb o hb e=>eb b o hb e) f0 f1 f3 f4 f5⟩
 self:=λ_ _ _ _ _ st h=>wpAny_pyIter_listiter st h
theorem Tq{P:Program}{K:ah}{tg:Expr}(a it:Addr):Turn P w K tg (D1 K a) [it] it (λi h=>h.IsTupleIter it a i) where
 mem:=by simp
 obj:=λi h st b hb=>by
  have e:b=it:=by simpa using hb
  subst e;obtain⟨o,e,c,d⟩:=st;exact⟨o,e,λv z=>by rw[d]at z;cases z⟩
 keep:=λi h h' st k=>st.at λo e=>k it (by simp) o e
 item:=by
  intro X hP hw hK hc i pins s σ H E I hf st hg;subst hP hw hK;obtain⟨xs,x,hq,hx⟩:=hg;obtain⟨ae,rv,p,hz⟩:=I.tuple hq;obtain⟨u,hu,ru⟩:=rv.get hx;obtain⟨f0,f1,f2,f3,f4,f5⟩:=hf it (by simp)
  refine wpAny_pyNext_tuple_item st (show s.heap.IsTuple a ae.toArray from p) (x:=u) (by simpa using hu) λh' st' sb=>?_
  have I1:Inv X pins σ H { s with heap:=h' }:=I.turned (t':=s.toks) (λb o hb e=>(sb.2 b hb).trans e) f0 f1 f3 f4 f5
  obtain⟨o,e,c,d⟩:=id st';exact⟨u,rfl,vA (s:={ s with heap:=h' }) e c d ⋯ ⟨x,H,I1,ru,⟨rfl,λys hy=>by rw[I.i7 hy hq];exact hx⟩,st',λb hb=>(hf b hb).1⟩⟩
 done:=by
  intro X hP hw hK hc i pins s σ H E I hf st hg;subst hP hw hK;obtain⟨xs,hq,hx⟩:=hg;obtain⟨ae,rv,p,hz⟩:=I.tuple hq;obtain⟨f0,f1,f2,f3,f4,f5⟩:=hf it (by simp)
  have hl:=rv.length;exact wpAny_pyNext_tuple_end (I.ok.hd hc) st (show s.heap.IsTuple a ae.toArray from p) (by simp;lia) λh' eb=>⟨rfl,I.turned (t':=s.toks) (λb o hb e=>eb b o hb e) f0 f1 f3 f4 f5⟩
 self:=λ_ _ _ _ _ st h=>wpAny_pyIter_tupleiter st h
theorem Tr{P:Program}{K:ah}{tg:Expr}(it:Addr)(lo:Int)(n:Nat):Turn P w K tg (wG lo n) [it] it (λi h=>IsRangeIter h it (lo+(i:Nat)*1) ((n:Int)-(i:Nat)) 1) where
 mem:=by simp
 obj:=λi h st b hb=>by
  have e:b=it:=by simpa using hb
  subst e;exact⟨_,st,λv z=>by
   have z':Data.fields _=Data.cell v:=z;cases z'⟩
 keep:=λi h h' st k=>k it (by simp) _ st
 item:=by
  intro X hP hw hK hc i pins s σ H E I hf st hg;subst hP hw hK;obtain⟨f0,f1,f2,f3,f4,f5⟩:=hf it (by simp)
  have W:=Walks.range (prog:=X.prog) (w:=X.w) (I.ok.hd hc) it lo 1 n;refine W.item i s _ _ hg st λv h' tk hv st' kk=>?_
  obtain⟨t,rfl⟩:=hv;have I1:Inv X pins σ H { s with heap:=h',toks:=tk }:=I.turned (λb o hb e=>kk b o (by simpa using hb) e) f0 f1 f3 f4 f5
  refine⟨_,rfl,vA (s:={ s with heap:=h',toks:=tk }) (n:="range_iterator") st' rfl rfl ⋯ ⟨.int (lo+i),H,I1,⟨t,?_⟩,⟨rfl,rfl⟩,st',λb hb=>(hf b hb).1⟩⟩
  rw[Int.mul_one]
 done:=by
  intro X hP hw hK hc i pins s σ H E I hf st hg;subst hP hw hK;obtain⟨f0,f1,f2,f3,f4,f5⟩:=hf it (by simp)
  exact wpAny_pyNext_range_end (I.ok.hd hc) st (by have:n<=i:=hg;lia) λh' eb=>⟨rfl,I.turned (t':=s.toks) (λb o hb e=>eb b o hb e) f0 f1 f3 f4 f5⟩
 self:=λ_ _ _ _ _ st h=>wpAny_pyIter_rangeiter st h
section
variable {X:Cx}{tg:Expr}
theorem VC{s:Shared}{lo hi:Int}{t u v:Tok}(I:Inv X pins σ H s)(d:-(2 ^ 62)<=lo)(f:lo<2 ^ 62)(g:-(2 ^ 62)<=hi)(h:hi<2 ^ 62)
 (q:R (wG lo (hi-lo).toNat) H):wpAny (model X.prog X.w) X.A (pyIter (.ref s.heap.objs.size)) (D3 X pins σ tg R) E { s with heap:=s.heap.push { cls:=.type "range",data:=.fields #[.int lo t,.int hi u,.int 1 v] },toks:=tk }:=by
 refine wpAny_pyIter_range (IsRange.new ..) (small_one d f g h) ?_;have a:Inv X pins σ H { s with heap:=s.heap.push { cls:=.type "range",data:=.fields #[.int lo t,.int hi u,.int 1 v] },toks:=tk }:=I.kept λb o e=>bx _ e
 refine⟨(s.heap.push { cls:=.type "range",data:=.fields #[.int lo t,.int hi u,.int 1 v] }).objs.size,[(s.heap.push { cls:=.type "range",data:=.fields #[.int lo t,.int hi u,.int 1 v] }).objs.size],_,_,H,rfl,
  a.kept (t':=tk) λb o e=>bx _ e,Tr _ lo (hi-lo).toNat,?_,λb i=>?_,q⟩
 . have e1:lo+((0:Nat):Int)*1=lo:=by simp
   have c:(((hi-lo).toNat:Nat):Int)-((0:Nat):Int)=Builtin.Range.rangeSize lo hi 1:=by rw[rangeSize_one];split<;>lia
   show IsRangeIter _ _ (lo+((0:Nat):Int)*1) ((((hi-lo).toNat:Nat):Int)-((0:Nat):Int)) 1;rw[e1,c];exact c0 _ rfl
 . have e:b=(s.heap.push { cls:=.type "range",data:=.fields #[.int lo t,.int hi u,.int 1 v] }).objs.size:=by simpa using i
   subst e;exact a.gv (aD _) (a.av.fresh (aD _))
def qwl(ta:TA):TI:=λσ H R=>ta σ H λvs H1=>∃j:Int,vs= [.int j]/\-(2 ^ 62)<=j/\j<2 ^ 62/\R (wG 0 j.toNat) H1
theorem Uu{a:Expr}{p pos:Pos}(g:Gl X "range")(i:X.mg "range" =none)(f:PA X [a] ta)(hs:starEach [a] X.env= [(false,eval a X.env)]:=by rfl):PI X tg (.Call (.Name "range" p) [a] [] pos) (qwl ta):=by
 intro b s m H R I h;refine Call_ (ng I g i boot_range (wB (ay (f pos b s m H _ I h) λus n l=>?_) hs rfl));obtain⟨vs,H1,d,r1,c⟩:=l
 obtain⟨j,e,c,k,q⟩:=c;subst e;cases r1 with
 |cons r rr=>
  cases rr;obtain⟨t,rfl⟩:=r;exact call_range_1 (VC d ∅ ∅ c k (by simpa using q))
noncomputable def Rc (wi:TI)(g:TG)(tb:TS):TS:=λD σ H=>wi σ H λJ H1=>∃W:Nat->Nat->St->Hp->Prop,(∃m,W 0 m σ H1)/\∀i m σ H,W i m σ H->
 (J.stop i H/\D.nx σ H)∨(J.go i H/\∃N:St->Hp->Prop,(∀σ' H',N σ' H'->∃m',m'<m/\W (i+1) m' σ' H')/\∀x H',J.DZ i H x H'->g x σ H' λσ2 H2=>tb { D with nx:=N,ct:=N,bk:=D.nx } σ2 H2)
noncomputable def qN (a:List Addr)(h:Heap):aF:=a.filterMap λb=>(h.get? b).map λo=>(b,o)
theorem AM{h:Heap}{b:Addr}(a:b∈fp)(e:h.get? b=some o):(b,o)∈qN fp h:=wu.mpr ⟨b,a,by rw[e];rfl⟩
theorem HH{p:Addr×Obj}(d:p∈qN fp h):p.1∈fp/\h.get? p.1=some p.2:=by
 obtain⟨b,c,e⟩:=wu.mp d;cases q:h.get? b with
 |none=>rw[q]at e;cases e
 |some o=>
  rw[q]at e;have a:(b,o)=p:=eV e;subst a;exact⟨c,q⟩
theorem Inv.pinned{s:Shared}(I:Inv X pins σ H s)(j:∀b∈c,kE X pins H b)(k:∀b∈c,∃o,s.heap.get? b=some o/\∀v,o.data≠.cell v):Inv X (pins++qN c s.heap) σ H s:=
 I.eF λp l=>(c6.mp l).elim (λz=>I.pin p (i8 _ z)) λz=>by
  obtain⟨f,e⟩:=HH z;obtain⟨g,h,i,_⟩:=j p.1 f;obtain⟨o,a,d⟩:=k p.1 f;rw[e]at a;cases a;exact⟨e,g,h,i,d⟩
theorem Inv.dv{s:Shared}(I:Inv X (pins++pl) σ H s):Inv X pins σ H s:=I.eF λp a=>I.pin p (i8 _ (zN _ a))
theorem YV{body:List Stmt}{g:TG}{tb:TS}(M:PassesOwn (model X.prog X.w) X.A X.env X.xe)(hc:X.calm=true)(hi:PI X tg iter wi)(hg:PG X tg g)(r:gq X body tb)
 (hs:∀x,foldedSetIterable iter X.env x=pure x:=by intro _;rfl):PS X (.For tg iter body [] pos) (Rc wi g tb):=by
 intro a s σ H D I h;refine wpAny_For (ay (hi a s σ H _ I h) λv s1 h1=>ay h1 λitv s2 h2=>?_) hs
 obtain⟨it,F,tn,J,H2,e,I2,T,st2,f2,W,⟨m0,w0⟩,Y⟩:=h2;subst e;have t:∀{z:Hp},(∀b∈F,z b=none)->∀b∈F,kE X a z b:=λhn b r=>⟨hn b r,(f2 b r).2⟩
 refine codeAny_forLoop_any (λn s'=>∃i w z,Inv X a w z s'/\tn i s'.heap/\(∀b∈F,z b=none)/\W i n w z) ?_ m0 ⟨0,σ,H2,I2,st2,λb r=>(f2 b r).1,w0⟩
 rintro n s3 ⟨i,y,Z,I3,Q,L,w3⟩;rcases Y i n y Z w3 with⟨U,qn⟩|⟨go,N,hN,R⟩
 . refine wpAny_passesOwn M (ay (T.done X rfl rfl rfl hc i a s3 y Z X.xe I3 (t L) Q U) λr s4 E=>?_);obtain⟨hr,I4⟩:=E
   subst hr;exact wpAny_execs_nil ⟨y,Z,I4,qn⟩
 . refine wpAny_passesOwn M (ay (T.item X rfl rfl rfl hc i a s3 y Z X.xe I3 (t L) Q go) λr s4 E=>?_);obtain⟨u,hr,h4⟩:=E
   subst hr;refine wpAny_passesOwn M (ay h4 λ_ s5 E=>?_);obtain⟨x,H5,I5,r5,y5,C,fr5⟩:=E
   have I5':=I5.pinned (t fr5) (T.obj _ _ C);refine wpAny_passesOwn M (ay (hg _ s5 y H5 x u _ I5' r5 (R x H5 y5)) λ_ s6 E=>?_);obtain⟨σ6,H6,I6,q6⟩:=E
   refine wpAny_passesOwn M (ay (r _ s6 σ6 H6 _ I6 q6) λf s7 A=>?_)
   have l:∀{c:St} {j:Hp},Inv X (a++qN F s5.heap) c j s7->N c j->∃m,m<n/\∃i w z,Inv X a w z s7/\tn i s7.heap/\(∀b∈F,z b=none)/\W i m w z:=λ{c j} k O=>by
    obtain⟨m',hm,w7⟩:=hN c j O;refine⟨m',hm,i+1,c,j,k.dv,T.keep _ _ _ C λb r o e=>(k.pin (b,o) (i8 _ (i8 _ (AM r e)))).1,λb r=>?_,w7⟩
    obtain⟨o,e,d⟩:=T.obj _ _ C b r;exact(k.pin (b,o) (i8 _ (i8 _ (AM r e)))).2.1
   cases f with
   |next=>obtain⟨c,j,k,O⟩:=A;exact l k O
   |cont=>obtain⟨c,j,k,O⟩:=A;exact l k O
   |brk=>obtain⟨c,j,k,A⟩:=A;exact⟨c,j,k.dv,A⟩
   |ret v=>obtain⟨x7,c,j,k,r7,A⟩:=A;exact⟨x7,c,j,k.dv,r7,A⟩
end
abbrev R2:=V->V->Hp->VK->Prop
def dw(X:Cx)(f:Value->Value->Sem Value)(r:R2):Prop:=
 ∀a s b H x y v u Q,Inv X a b H s->RelV x v->RelV y u->r x y H Q->
  wpAny (model X.prog X.w) X.A (f v u) (EP X a b Q) X.xe s
def cU(X:Cx)(f:Value)(r:LV->Hp->VK->Prop):Prop:=
 ∀a s c H b us Q,Inv X a c H s->Vals b us->r b H Q->
  wpAny (model X.prog X.w) X.A (call f us) (EP X a c Q) X.xe s
def ua(r:R2)(ta tb:TE):TE:=λσ H Q=>ta σ H λx H1=>tb σ H1 λy H2=>r x y H2 Q
def rI(C:Int->Int->Prop)(g:Int->Int->V):R2:=λx y H Q=>∃i j,x= .int i/\y= .int j/\C i j/\Q (g i j) H
def mD(g:Int->Int->V):R2:=λx y H Q=>∃i j,x= .int i/\y= .int j/\Q (g i j) H
section
variable {X:Cx}{a b c:Expr}{ta tb tc:TE}{pos:Pos}
theorem Dl(n:PE X a ta)(o:PE X b tb){d:aF}{s:Shared}{σ:St}{H:Hp}{R:V->V->Hp->Prop}(I:Inv X d σ H s)
 (h:ta σ H λx H1=>tb σ H1 λy e=>R x y e) {Q:aK} {f:Value->Value->Sem Value}
 (r:∀v u j x y e,Inv X d σ e j->RelV x v->RelV y u->R x y e->wpAny (model X.prog X.w) X.A (f v u) Q X.xe j):
 wpAny (model X.prog X.w) X.A (eval a X.env) (λv g=>wpAny (model X.prog X.w) X.A (eval b X.env) (λu i=>wpAny (model X.prog X.w) X.A (f v u) Q X.xe i) X.xe g) X.xe s:=by
 refine ay (n d s σ H _ I h) λv A k=>?_;obtain⟨x,H1,l,r1,t⟩:=k
 refine ay (o d A σ H1 _ l t) λu j k=>?_;obtain⟨y,e,m,z,w⟩:=k
 exact r v u j x y e m r1 z w
theorem qvO{op:Operator}(j:dw X (binaryOp op) r)(g:PE X a ta)(i:PE X b tb):PE X (.BinOp a op b pos) (ua r ta tb):=by
 intro d s n H Q I h;exact wpAny_BinOp (Dl g i I h λv u m x y e f k l q=>j d m n e x y v u Q f k l q)
theorem xa{g:Int->Int->Int}
 (d:∀i j t u s Q E,C i j->Q (.int (g i j) s.toks) { s with toks:=s.toks+1 }->wpAny (model X.prog X.w) X.A (f (.int i t) (.int j u)) Q E s):
 dw X f (rI C λi j=>.int (g i j)):=by
 intro e s o H x y v u Q I l m h;obtain⟨i,j,rfl,rfl,k,q⟩:=h;obtain⟨t,rfl⟩:=l;obtain⟨n,rfl⟩:=m;exact d i j t n s _ _ k ⟨.int (g i j),H,I.tok _,⟨_,rfl⟩,q⟩
theorem OK{g:Int->Int->Int}
 (d:∀i j t u s Q E,Q (.int (g i j) s.toks) { s with toks:=s.toks+1 }->wpAny (model X.prog X.w) X.A (f (.int i t) (.int j u)) Q E s):
 dw X f (mD λi j=>.int (g i j)):=by
 intro e s n H x y v u Q I k l h;obtain⟨i,j,rfl,rfl,q⟩:=h;obtain⟨t,rfl⟩:=k;obtain⟨m,rfl⟩:=l;exact d i j t m s _ _ ⟨.int (g i j),H,I.tok _,⟨_,rfl⟩,q⟩
theorem zk{g:Int->Int->Bool}
 (d:∀i j t u s Q E,Q (.bool (g i j)) s->wpAny (model X.prog X.w) X.A (f (.int i t) (.int j u)) Q E s):
 dw X f (mD λi j=>.bl (g i j)):=by
 intro e s n H x y v u Q I k l h;obtain⟨i,j,rfl,rfl,q⟩:=h;obtain⟨t,rfl⟩:=k;obtain⟨m,rfl⟩:=l;exact d i j t m s _ _ ⟨.bl (g i j),H,I,rfl,q⟩
def Sq(i j:Int):Prop:=0<j/\j<1073741824
def So(i j:Int):Prop:=0<=j/\j<=1000000/\i.natAbs<2 ^ 64
def iM(i j:Int):Prop:=(-(2 ^ 64)<i/\i<2 ^ 64)∨(-(2 ^ 64)<j/\j<2 ^ 64)
theorem iM.ok{i j:Int}(h:iM i j):IntMulOk i j:=by
 rcases h with⟨d,e⟩|⟨d,e⟩
 . exact .of_left (intBits_le_64 d e)
 . exact .of_right (intBits_le_64 d e)
theorem YH:dw X (binaryOp .Add) (mD λi j=>.int (i+j)):=OK λ_ _ _ _ _ _ _ q=>add_int q
theorem YB:dw X (binaryOp .Sub) (mD λi j=>.int (i-j)):=OK λ_ _ _ _ _ _ _ q=>sub_int q
theorem YE:dw X (binaryOp .Mult) (rI iM λi j=>.int (i*j)):=xa λ_ _ _ _ _ _ _ d q=>mul_int q d.ok
theorem WE:dw X (binaryOp .FloorDiv) (rI Sq λi j=>.int (i / j)):=xa λi j _ _ _ _ _ d q=>by
 have e:(0:Int)<j:=d.1;have f:j<1073741824:=d.2;exact floordiv_int ∅ (by rw[Int.fdiv_eq_ediv_of_nonneg i ∅];exact q) (.inl (PyProof.noPylong_small ∅))
theorem YF:dw X (binaryOp .Mod) (rI (λ_ j=>0<j) λi j=>.int (i % j)):=xa λi j _ _ _ _ _ d q=>by
 have e:(0:Int)<j:=d;exact mod_int' ∅ (by rw[Int.fmod_eq_emod_of_nonneg i ∅];exact q)
theorem YD:dw X (binaryOp .Pow) (rI So λi j=>.int (i ^ j.toNat)):=xa λ_ _ _ _ _ _ _ d q=>pow_int_small d.1 d.2.1 d.2.2 q
theorem KQ{s:Shared}(I:Inv X pins σ H s)(q:Q (.bl k) H)(e:k=k'):EP X pins σ Q (.bool k') s:=by
 subst e;exact⟨.bl k,H,I,rfl,q⟩
theorem qvT:dw X (compareOp .Lt) (mD λi j=>.bl (decide (i<j))):=zk λ_ _ _ _ _ _ _ q=>lt_int q
theorem qvU:dw X (compareOp .LtE) (mD λi j=>.bl (decide (i<=j))):=zk λ_ _ _ _ _ _ _ q=>le_int q
theorem qvV:dw X (compareOp .Gt) (mD λi j=>.bl (decide (j<i))):=zk λ_ _ _ _ _ _ _ q=>gt_int q
theorem qvW:dw X (compareOp .GtE) (mD λi j=>.bl (decide (j<=i))):=zk λ_ _ _ _ _ _ _ q=>ge_int q
theorem YG:dw X (compareOp .Is) (λx y H Q=>y= .aw/\Q (.bl (decide (x= .aw))) H):=by
 intro d s g H x y v u Q I e f h;obtain⟨rfl,q⟩:=h;cases f;refine is_none_gen (KQ I q ?_);cases x<;>first
  |(cases e;rfl)
  |(obtain⟨t,rfl⟩:=e;rfl)
theorem WD:dw X (compareOp .IsNot) (λx y H Q=>y= .aw/\Q (.bl (!decide (x= .aw))) H):=by
 intro d s g H x y v u Q I e f h;obtain⟨rfl,q⟩:=h;cases f;refine isnot_none_gen (KQ I q ?_);cases x<;>first
  |(cases e;rfl)
  |(obtain⟨t,rfl⟩:=e;rfl)
theorem qm9(b:Expr){op:CmpOp}(h:op≠.In:=by decide)(e:op≠.NotIn:=by decide):behindInMarks op b=false:=by
 have e1:(op==CmpOp.In)=false:=by cases op<;>first|rfl|exact aU rfl h
 have d:(op==CmpOp.NotIn)=false:=by cases op<;>first|rfl|exact aU rfl e
 cases b<;>simp[behindInMarks,e1,d]
theorem Jx{op:CmpOp}(k:dw X (compareOp op) r)(g:PE X a ta)(i:PE X b tb)(j:behindInMarks op b=false):PE X (.Compare a [op] [b] pos) (ua r ta tb):=by
 intro d s o H Q I h;exact wpAny_Compare1 (Dl g i I h λv u n x y e f l m q=>k d n o e x y v u Q f l m q) j
def Ld(t:TE):TT:=λσ H Q=>t σ H λx H'=>∃k,x= .bl k/\Q k H'
theorem IY{op:CmpOp}(l:dw X (compareOp op) r)(g:PE X a ta)(i:PE X b tb)(j:behindInMarks op b=false):PT X (.Compare a [op] [b] pos) (Ld (ua r ta tb)):=by
 intro d s f H Q I h;refine wpAny_isTrue_Compare1 (ay (g d s f H _ I h) λv m ⟨x,H1,I1,r1,q1⟩=>ay (i d m f H1 _ I1 q1) λu n ⟨y,H2,I2,r2,q2⟩=>
  ay (l d n f H2 x y v u _ I2 r1 r2 q2) λc o ⟨z,H3,I3,r3,k,e,q3⟩=>?_) j
 subst e;cases r3;exact jW ⟨H3,I3,q3⟩
noncomputable def B7 (r r':R2)(ta tb tc:TE):TE:=λσ H Q=>ta σ H λx H1=>tb σ H1 λy H2=>r x y H2 λz H3=>∃k,z= .bl k/\
 (if k=true then tc σ H3 λw' H4=>r' y w' H4 Q else Q (.bl false) H3)
theorem Vb{op op':CmpOp}(ho:dw X (compareOp op) r)(ho':dw X (compareOp op') r')(ha:PE X a ta)(hb:PE X b tb)(hc:PE X c tc)
 (hm:lastMarks [op,op'] [b,c]=false:=by with_unfolding_all rfl):PE X (.Compare a [op,op'] [b,c] pos) (B7 r r' ta tb tc):=by
 intro pins s σ H Q I h;refine Compare_chain (ay (ha pins s σ H _ I h) λv s1 ⟨x,H1,I1,r1,q1⟩=>chain_link (ay (hb pins s1 σ H1 _ I1 q1) λu s2 ⟨y,H2,I2,r2,q2⟩=>
  ay (ho pins s2 σ H2 x y v u _ I2 r1 r2 q2) λd s3 ⟨z,H3,I3,r3,k,e,q3⟩=>?_)) hm
 subst e;cases r3;refine jW ?_;cases k with
 |false=>exact ite_ff ⟨.bl false,H3,I3,rfl,q3⟩
 |true=>exact ite_tt (chain_last (ay (hc pins s3 σ H3 _ I3 q3) λw' s4 ⟨z',H4,I4,r4,q4⟩=>ho' pins s4 σ H4 y z' u w' Q I4 r2 r4 q4))
theorem VJ{op f:CmpOp}{r j:R2}(D:dw X (compareOp op) r)(i:dw X (compareOp f) j)(t:PE X a ta)(w:PE X b tb)(A:PE X c tc)
 (C:lastMarks [op,f] [b,c]=false:=by with_unfolding_all rfl):PT X (.Compare a [op,f] [b,c] pos) (Ld (B7 r j ta tb tc)):=by
 intro d s g H Q I h;refine isTrue_chain (ay (t d s g H _ I h) λv L ⟨x,H1,I1,r1,q1⟩=>test_link (ay (w d L g H1 _ I1 q1) λu M ⟨y,H2,I2,r2,q2⟩=>
  ay (D d M g H2 x y v u _ I2 r1 r2 q2) λd N ⟨z,H3,I3,r3,k,e,q3⟩=>?_)) C
 subst e;cases r3;refine jW ?_;cases k with
 |false=>
  obtain⟨W,n,E⟩:=q3;cases n;exact ite_ff ⟨H3,I3,E⟩
 |true=>
  refine ite_tt (test_last (ay (A d N g H3 _ I3 q3) λw' O ⟨R,H4,I4,r4,q4⟩=>ay (i d O g H4 y R u w' _ I4 r2 r4 q4) λd' Z U=>?_));obtain⟨z2,l,m,J,Y,o,F⟩:=U
  subst o;cases J;exact jW ⟨l,m,F⟩
theorem sW:(sizeLine:Nat)<2 ^ 63:=by rw[sizeLine_eq];decide
theorem Ti:dw X (binaryOp .Add) (λx y H Q=>∃i j,x= .str i/\y= .str j/\i.length+j.length<=sizeLine/\Q (.str (i++j)) H):=by
 intro d s m H x y v u Q I f g h;obtain⟨i,j,rfl,rfl,e,q⟩:=h;obtain⟨t,rfl⟩:=f;obtain⟨k,rfl⟩:=g;exact add_str (λt' l=>⟨.str (i++j),H,I.tok _,⟨_,rfl⟩,q⟩) e
theorem vals1{x:V}{us:au}(r:Vals [x] us):∃u,us= [u]/\RelV x u:=by
 cases r with
 |cons r1 r2=>cases r2;exact⟨_,rfl,r1⟩
theorem vals2{x y:V}{us:au}(r:Vals [x,y] us):∃u d,us= [u,d]/\RelV x u/\RelV y d:=by
 cases r with
 |cons r1 r2=>
  cases r2 with
  |cons r3 r4=>cases r4;exact⟨_,_,rfl,r1,r3⟩
theorem UR(hc:X.calm=true):cU X (.builtin "max") (λxs H Q=>∃i j,xs= [.int i,.int j]/\Q (.int (if j > i then j else i)) H):=by
 intro pins s σ H xs us Q I r h;obtain⟨i,j,rfl,q⟩:=h;obtain⟨u,w',rfl,⟨t,rfl⟩,⟨t',rfl⟩⟩:=vals2 r;refine max_two_ints (I.ok.hd hc) λh' tk k=>⟨_,H,I.kept k,?_,q⟩
 by_cases hj:j > i
 . rw[ag hj,ag hj];exact⟨_,rfl⟩
 . rw[ab hj,ab hj];exact⟨_,rfl⟩
theorem UQ(hc:X.calm=true):cU X (.builtin "min") (λxs H Q=>∃i j,xs= [.int i,.int j]/\Q (.int (if j<i then j else i)) H):=by
 intro pins s σ H xs us Q I r h;obtain⟨i,j,rfl,q⟩:=h;obtain⟨u,w',rfl,⟨t,rfl⟩,⟨t',rfl⟩⟩:=vals2 r;refine min_two_ints (I.ok.hd hc) λh' tk k=>⟨_,H,I.kept k,?_,q⟩
 by_cases hj:j<i
 . rw[ag hj,ag hj];exact⟨_,rfl⟩
 . rw[ab hj,ab hj];exact⟨_,rfl⟩
theorem V2:cU X (.builtin "ord") (λxs H Q=>∃x,xs= [.str x]/\x.length=1/\Q (.int (x.cps.getD 0 0:Nat)) H):=by
 intro pins s σ H xs us Q I r h;obtain⟨x,rfl,hz,q⟩:=h;obtain⟨u,rfl,t,rfl⟩:=vals1 r;exact ord_of_one hz ⟨.int _,H,I.tok _,⟨_,rfl⟩,q⟩
end
structure dJ(h:Heap)(x dx C:Addr)(mA:br):Prop where
 obj:h.get? x=some (nT C dx)
 ns:h.Ns1 dx mA
 ne:dx≠x
theorem UA{h:Heap}(n:h.Ns1 dx mA):∃od,h.get? dx=some od/\∀name,PySem.W.lookIn name od=some (mA name):=by
 obtain⟨o,es,ep,ho,hd,hk,_,hm⟩:=n;refine⟨o,ho,λname=>?_⟩
 have e:=hm name;unfold nsFind findBy at e;rw[<-Array.find?_toList]at e;unfold PySem.W.lookIn;rw[hd];dsimp only;split
 . rename_i y q
   rw[q]at e;exact congrArg some e
 . rename_i q
   rw[q]at e;have a:es.toList.any (·.refKey)=false:=by
    rw[List.any_eq_false];intro y hy;obtain⟨z,t,hkey⟩:=hk y (Array.mem_toList_iff.mp hy);simp[DictEntry.refKey,hkey]
   have a':¬es.toList.any (·.refKey)=true:=by rw[a];exact iI
   rw[ab a'];exact congrArg some e
theorem dJ.look{x c C:Addr}(I:dJ h x c C mA):∃b,PySem.W.InstAt h x (nT C c) C (some b)/\∀a,PySem.W.lookIn a b=some (mA a):=
 let⟨b,ho,hl⟩:=UA I.ns
 ⟨b,⟨I.obj,rfl,rfl,ho⟩,hl⟩
section
variable {prog:Program}{w:World}{A:Around}{E:aK}{s:Shared}{K:ah}{x dx C f:Addr}{mA:br}{name:Str}{v:Value}
theorem get_map(X:K.In s.heap)(I:dJ s.heap x dx C mA)(c:wA K C name=true)(d:zP K C=true)
 (b:PySem.W.findIn K (.ref C) name=some none) (g:mA name=some v) (a:PySem.W.handedIn v=true) (h:Q v { s with toks:=s.toks+1 }):
 wpAny (model prog w) A (getAttr (.ref x) name expr) Q E s:=by
 obtain⟨i,J,e⟩:=I.look;exact PySem.W.get_value X J (PySem.W.plainGet_of c).1 (PySem.W.findObj_own d b rfl (by rw[e,g])) a h
theorem U2(X:K.In s.heap)(I:dJ s.heap x dx C mA)(a:wA K C name=true)
 (b:PySem.W.findIn K (.ref C) name=some (some (.ref f))) (d:PySem.W.isFn K (.ref f)=true) (e:mA name=none) (h:Q (.ref f,[.ref x]) s):
 wpAny (model prog w) A (getMethod (.ref x) name pl) Q E s:=by
 obtain⟨g,J,c⟩:=I.look;exact PySem.W.method_fn X J (PySem.W.plainGet_of a).1 (PySem.W.plainGet_of a).2 b (eW.mp d) (by show(PySem.W.lookIn name g).map (·.isSome)=some false;rw[c,e];rfl) h
theorem Wx{ns:az}(X:K.In s.heap)(I:dJ s.heap x dx C mA)
 (hs:PySem.W.findIn K (.ref C) "__setattr__" =some (some (.builtin "object.__setattr__"))) (o:PySem.W.plainOver K C=true) (t:PySem.W.takerIn K C name=some none) (n:zP K C=true)
 (u:PySem.Within mA ns) (hsz:ns.length<=sizeLine)
 (h:∀d,dJ d x dx C (λy=>if y=name then some v else mA y)->Heap.SameBut dx s.heap d->Q () { s with heap:=d,toks:=s.toks+2 }):
 wpAny (model prog w) A (setAttr (.ref x) name v) Q E s:=by
 obtain⟨F,J,z⟩:=I.look;refine PySem.W.set_plain X J hs (PySem.W.osa_open (s:={ s with toks:=s.toks+1 }) (r:=none) X J o t λb=>?_)
 obtain⟨cd,m,g⟩:=PySem.W.any_some n;have hx:s.heap.get? x=some ⟨.ref C,some dx,.plain,#[]⟩:=I.obj;refine ai (aC (ai (ai (wpAny_loadPart hx (ai (PySem.W.Looks.here (s:={ s with toks:=s.toks+1 }) (PySem.W.looks_clsIn X m) ?_))))))
 rw[g];refine aC (a:=some dx) (ai (aC (ai ?_)));refine wpAny_nsSet1 (s:={ s with toks:=s.toks+1 }) I.ns λh' b c=>?_
 obtain⟨D,l,k,j,i,e⟩:=b.count (PySem.Within.cons name v u);refine ai (wpAny_lookBehind j (by rw[i];exact pastItsLine_dict (bQ e (by rw[bW];lia))) ?_)
 exact aC (h _ ⟨(c.2 _ (cx I.ne)).trans I.obj,b,I.ne⟩ c)
theorem Vl{vs:au}(X:K.In s.heap)(hm:PySem.W.makesIn K C=true)
 (hi:PySem.W.findIn K (.ref C) "__init__" =some (some (.ref f))) (hf:PySem.W.typeIn K (.ref f)=some (.type "function"))
 (h:codeAny (model prog w) (A.under (.builtin "type.__call__" ⟨.ref C::vs,kw⟩)) (.call (.ref f) ⟨.ref (s.heap.objs.size+1)::vs,kw⟩) (PySem.W.InitBack (s.heap.objs.size+1) R)
  { s with heap:=(s.heap.push mK).push (nT C s.heap.objs.size) }):
 codeAny (model prog w) A (.call (.ref C) ⟨vs,kw⟩) R s:=by
 obtain⟨hh,g,d,t,os⟩:=s;exact PySem.W.make_core (PySem.W.makes_of X hm) (PySem.W.looks_findIn X hi) (λself=>PySem.W.bind_fn X self hf) (.inl rfl) h
end
noncomputable def fm (f:Str)(v:V):List (Str×V)->List (Str×V)
 | []=>[(f,v)]
 |(g,x)::r=>if g=f then(g,v)::r else(g,x)::fm f v r
theorem GQ(f g:Str)(v):∀c:List (Str×V),(fm f v c).lookup g=if g=f then some v else c.lookup g
 | []=>by
  show List.lookup g [(f,v)]=_
  by_cases h:g=f
  . have a:(g==f)=true:=eW.mpr h
    simp only[List.lookup,a,ag h]
  . have a:(g==f)=false:=nQ.mpr h
    simp only[List.lookup,a,ab h]
 |(k,x)::r=>by
  have d:=GQ f g v r;rw[show fm f v ((k,x)::r)=(if k=f then(k,v)::r else(k,x)::fm f v r)from rfl]
  by_cases b:k=f
  . rw[ag b]
    by_cases h:g=k
    . have a:(g==k)=true:=eW.mpr h
      simp only[List.lookup,a,ag (h.trans b)]
    . have a:(g==k)=false:=nQ.mpr h
      simp only[List.lookup,a,ab (λe:g=f=>h (e.trans b.symm))]
  . rw[ab b]
    by_cases h:g=k
    . have a:(g==k)=true:=eW.mpr h
      simp only[List.lookup,a,ab (λe:g=f=>b (h.symm.trans e))]
    . have a:(g==k)=false:=nQ.mpr h
      simp only[List.lookup,a];exact d
theorem A6(f)(v):∀a:List (Str×V),f∈(fm f v a).map (·.1)/\∀g,g∈a.map (·.1)->g∈(fm f v a).map (·.1)
 | []=>⟨by simp[fm],λg h=>by simp at h⟩
 |(k,x)::r=>by
  obtain⟨c,d⟩:=A6 f v r;rw[show fm f v ((k,x)::r)=(if k=f then(k,v)::r else(k,x)::fm f v r)from rfl]
  by_cases b:k=f
  . rw[ag b]
    subst b;exact⟨by simp,λg h=>by simpa using h⟩
  . rw[ab b]
    refine⟨?_,λg h=>?_⟩
    . rw[bX]
      exact nN _ c
    . rw[bX]at h ⊢
      rcases fC.mp h with e|e
      . exact fC.mpr (.inl e)
      . exact nN _ (d g e)
theorem GJ(f)(v):∀a:List (Str×V),(fm f v a).length<=a.length+1
 | []=>by simp[fm]
 |(k,x)::r=>by
  have c:=GJ f v r;rw[show fm f v ((k,x)::r)=(if k=f then(k,v)::r else(k,x)::fm f v r)from rfl]
  by_cases b:k=f
  . rw[ag b,bW,bW];lia
  . rw[ab b,bW,bW];lia
theorem bM.some_of{v:V}(r:bM (some v) o):∃u,o=some u/\RelV v u:=by
 cases o with
 |none=>exact(show False from r).elim
 |some u=>exact⟨u,rfl,r⟩
theorem bM.none_of(r:bM none o):o=none:=by
 cases o with
 |none=>rfl
 |some u=>exact(show False from r).elim
theorem Ui{v:V}(r:RelV v u):PySem.W.handedIn u=true:=by
 cases v with
 |aw=>cases(show u=Value.none from r);rfl
 |bl b=>cases(show u=Value.bool b from r);rfl
 |int i=>obtain⟨t,e⟩:=(show ∃t,u=Value.int i t from r);cases e;rfl
 |str x=>obtain⟨t,e⟩:=(show ∃t,u=Value.str x t from r);cases e;rfl
 |wQ b=>obtain⟨t,e⟩:=(show ∃t,u=Value.bytes b t from r);cases e;rfl
 |qm b=>obtain⟨t,e⟩:=(show ∃t,u=Value.float b t from r);cases e;rfl
 |ref a=>cases(show u=Value.ref a from r);rfl
 |ty n=>cases(show u=Value.type n from r);rfl
section
variable {P:Program}{w:World}{H H':Hp}{h h':Heap}{a C dx:Addr}{fs fs':List (Str×V)}
theorem yz(c:cX P w H h)(e:H a=some (.ins C dx fs)):∃b,dJ h a dx C b/\(∀f,bM (fs.lookup f) (b f))/\PySem.Within b (fs.map (·.1))/\fs.length<=1000/\H dx=some (.own a):=by
 obtain⟨d,z,g,ob,b,n,r,q⟩:=(show aB P w H h a (.ins C dx fs)from c a _ e)
 exact⟨b,⟨ob,n,g⟩,r,q,z,d⟩
end
structure cQ(K:ah)(C:Addr):Prop where
 pg:wA K C Str.empty=true
 hd:zP K C=true
 po:PySem.W.plainOver K C=true
 sa:PySem.W.findIn K (.ref C) "__setattr__" =some (some (.builtin "object.__setattr__"))
theorem cQ.get{K:ah}(c:cQ K C)(f:Str):wA K C f=true:=c.pg
def aR(K:ah)(C:Addr)(f:Str):Prop:=PySem.W.findIn K (.ref C) f=some none
theorem aR.wm{K:ah}(n:aR K C f):PySem.W.takerIn K C f=some none:=by
 unfold PySem.W.takerIn;rw[show PySem.W.findIn K (.ref C) f=some none from n]
 rfl
structure Meth(K:ah)(C:Addr)(m:Str)(f:Addr):Prop where
 at_:PySem.W.findIn K (.ref C) m=some (some (.ref f))
 fn:PySem.W.isFn K (.ref f)=true
 kp:PySem.W.keepIn K (.ref f)=true
section
variable {X:Cx}{pins:aF}{σ:St}{H:Hp}{s:Shared}{a C dx:Addr}{fs:List (Str×V)}{f:Str}{v:V}{A:Around}{E:aK}
theorem G8{b:Bool}(I:Inv X pins σ H s)(e:H a=some (.ins C dx fs))(c:cQ X.K C)(n:aR X.K C f)(l:fs.lookup f=some v)
 (h:∀u d,Inv X pins σ H d->RelV v u->Q u d):wpAny (model X.prog X.w) A (getAttr (.ref a) f b) Q E s:=by
 obtain⟨i,O,r,_,_,_⟩:=yz I.av e;obtain⟨u,g,ru⟩:=bM.some_of (v:=v) (o:=i f) (by rw[<-l];exact r f)
 exact get_map I.dE O (c.get f) c.hd n g (Ui ru) (h u _ (I.tok _) ru)
theorem G7{g:Addr}(I:Inv X pins σ H s)(e:H a=some (.ins C dx fs))(c:cQ X.K C)(k:Meth X.K C m g)(l:fs.lookup m=none)
 (h:Q (.ref g,[.ref a]) s):wpAny (model X.prog X.w) A (getMethod (.ref a) m pl) Q E s:=by
 obtain⟨d,O,r,_,_,_⟩:=yz I.av e;have b:d m=none:=bM.none_of (by rw[<-l];exact r m)
 exact U2 I.dE O (c.get m) k.at_ k.fn b h
theorem GX{Q:Unit->Shared->Prop}(I:Inv X pins σ H s)(e:H a=some (.ins C dx fs))(c:cQ X.K C)(n:aR X.K C f)(hl:fs.length<1000)(ry:RelV y u)
 (h:∀s',Inv X pins σ (upd H a (.ins C dx (fm f y fs))) s'->Q () s'):wpAny (model X.prog X.w) A (setAttr (.ref a) f u) Q E s:=by
 obtain⟨mA,O,r,wi,_,ho⟩:=yz I.av e;have hz:(fs.map (·.1)).length<=sizeLine:=by rw[aW,sizeLine_eq];lia
 refine Wx I.dE O c.sa c.po n.wm c.hd wi hz λh' O' sb=>h _ ?_
 have hd:∃o,h'.get? dx=some o:=let⟨o,_,_,e',_⟩:=O'.ns;⟨o,e'⟩;refine I.write (x:=a) (e:=dx) (by rw[e];exact True.intro) (.inr ho) (λb q hb z=>(sb.2 b hb).trans z) hd ?_
 refine⟨by rw[aZ O.ne];exact ho,?_,O.ne,O'.obj,_,O'.ns,λg=>?_,λg hg=>?_⟩
 . have:=GJ f y fs;lia
 . show bM ((fm f y fs).lookup g) (if g=f then some u else mA g)
   rw[GQ]
   by_cases q:g=f
   . rw[ag q,ag q];exact ry
   . rw[ab q,ab q];exact r g
 . by_cases q:g=f
   . rw[q];exact(A6 f y fs).1
   . refine(A6 f y fs).2 g (wi g λz=>hg ?_)
     show(if g=f then some u else mA g)=none
     rw[ab q];exact z
theorem Inv.made(I:Inv X pins σ H s):Inv X pins σ (upd (upd H s.heap.objs.size (.own (s.heap.objs.size+1))) (s.heap.objs.size+1) (.ins C s.heap.objs.size []))
 { s with heap:=(s.heap.push mK).push (nT C s.heap.objs.size) }:=by
 have e1:(s.heap.push mK).get? s.heap.objs.size=some mK:=c0 s.heap rfl;have d:((s.heap.push mK).push (nT C s.heap.objs.size)).get? (s.heap.objs.size+1)=some (nT C s.heap.objs.size):=by
  have:=c0 (s.heap.push mK) (o:=nT C s.heap.objs.size) rfl
  rwa [Heap.size_push]at this
 have e:(s.heap.push mK).Ns s.heap.objs.size (λ_=>none):=⟨mK,#[],_,e1,rfl,(λe g=>aU g (by simp)),λ_=>rfl⟩
 have c:=I.laid (a:=s.heap.objs.size) (o:=.own (s.heap.objs.size+1)) (h':=s.heap.push mK) (t':=s.toks) (λb u q=>bx _ q) (aD _) ⟨_,e1⟩
 refine c.laid (a:=s.heap.objs.size+1) (o:=.ins C s.heap.objs.size []) (t':=s.toks) (λb u q=>bx _ q) (Nat.le_of_eq (Heap.size_push _ _)) ?_
 have b:s.heap.objs.size≠s.heap.objs.size+1:=cE (Nat.lt_succ_self _);refine⟨by rw[aZ b,ej],j3 _,b,d,λ_=>none,(Heap.Ns1.of_empty e).at λo q=>bx _ q,λ_=>True.intro,λy h=>aU rfl h⟩
theorem JF{env:Env}{e:Expr}{s:Shared}(c:attributeBase e f env (eval e env)=eval e env)
 (h:wpAny (model prog w) A (eval e env) (λo b=>wpAny (model prog w) A (getAttr o f true) Q E b) E s):wpAny (model prog w) A (eval (.Attribute e f pos) env) Q E s:=
 Attribute_any_ h (by rw[arm_eval_Attribute,c])
end
noncomputable def Rf (K:ah)(ta:TE)(f:Str):TE:=λσ H Q=>ta σ H λx H1=>∃a C dx fs v,x= .ref a/\H1 a=some (.ins C dx fs)/\cQ K C/\aR K C f/\fs.lookup f=some v/\Q v H1
noncomputable def RU (K:ah)(g h:TE)(f:Str):TS:=λD c H=>h c H λy H1=>g c H1 λx d=>∃a C e b,x= .ref a/\d a=some (.ins C e b)/\cQ K C/\aR K C f/\b.length<1000/\
 D.nx c (upd d a (.ins C e (fm f y b)))
def Gi(X:Cx)(op:Operator)(rd:V->V->Hp->VK->Prop):Prop:=
 ∀a s b H x y u v Q,Inv X a b H s->RelV x u->RelV y v->rd x y H Q->wpAny (model X.prog X.w) X.A (inplaceOp op u v) (EP X a b Q) X.xe s
noncomputable def Wz (K:ah)(j k:TE)(rd:V->V->Hp->VK->Prop)(f:Str):TS:=λD d H=>j d H λx H1=>∃a C i g v,x= .ref a/\H1 a=some (.ins C i g)/\cQ K C/\aR K C f/\g.lookup f=some v/\
 k d H1 λy h=>rd v y h λz e=>∃c b,e a=some (.ins C c b)/\b.length<1000/\D.nx d (upd e a (.ins C c (fm f z b)))
section
variable {X:Cx}{o e value:Expr}{f:Str}{pos pos' tpos:Pos}{ta tv:TE}
theorem Yw(k:PE X e ta)(j:attributeBase e f X.env (eval e X.env)=eval e X.env):PE X (.Attribute e f pos) (Rf X.K ta f):=by
 intro b s t H Q I h;refine JF j (ay (k b s t H _ I h) λu z r=>?_);obtain⟨x,H1,d,m,a,C,w,y,v,ex,i,c,n,l,q⟩:=r
 subst ex;obtain rfl:u=Value.ref a:=m;exact G8 d i c n l λu' A g ru=>⟨v,H1,g,ru,q⟩
theorem YW(ha:PE X o ta)(hv:PE X value tv)(hs:swapsWith value (some (.Attribute o f pos')) pos.line X.env=pure false):PS X (.Assign [.Attribute o f pos'] value pos) (RU X.K ta tv f):=by
 intro pins s σ H D I h;refine plainObj_wpAny_Assign_Attribute (ay (hv pins s σ H _ I h) λu s1 ⟨y,H1,I1,ry,q⟩=>ay (ha pins s1 σ H1 _ I1 q) λov s2 zz=>?_) hs;obtain⟨x,H2,I2,rx,a,C,dx,fs,ex,ea,c,n,l,q2⟩:=zz
 subst ex;obtain rfl:ov=Value.ref a:=rx;exact GX I2 ea c n l ry λs3 I3=>⟨σ,_,I3,q2⟩
theorem Tz{op:Operator}{rd:V->V->Hp->VK->Prop}(ha:PE X o ta)(hv:PE X value tv)(hop:Gi X op rd):PS X (.AugAssign (.Attribute o f tpos) op value pos) (Wz X.K ta tv rd f):=by
 intro pins s σ H D I h;refine wpAny_AugAssign_AttributeAny (ay (ha pins s σ H _ I h) λov s1 zz=>?_);obtain⟨x,H1,I1,rx,a,C,dx,fs,v,ex,ea,c,n,l,q⟩:=zz
 subst ex;obtain rfl:ov=Value.ref a:=rx;refine G8 I1 ea c n l λu s2 I2 ru=>ay (hv pins s2 σ H1 _ I2 q) λw3 s3 ⟨y,H2,I3,ry,q3⟩=>ay (hop pins s3 σ H2 v y u w3 _ I3 ru ry q3) λw4 s4 zz=>?_;obtain⟨z,H3,I4,rz,dx',fs',ea',l',q4⟩:=zz
 exact GX I4 ea' c n l' rz λs5 I5=>⟨σ,_,I5,q4⟩
def zi:V->V->Hp->VK->Prop:=λx y H Q=>∃i j,x= .int i/\y= .int j/\Q (.int (i+j)) H
theorem ZD:Gi X .Add zi:=by
 rintro a s g H x y u v Q I c d ⟨i,j,rfl,rfl,q⟩;obtain⟨t,rfl⟩:=(show ∃t,u=Value.int i t from c)
 obtain⟨b,rfl⟩:=(show ∃b,v=Value.int j b from d)
 exact PyProof.Rows.iadd_int ⟨.int (i+j),H,I.tok _,⟨_,rfl⟩,q⟩
end
structure aH(k:Nat)(A:Around):Prop where
 hd:A.handled=none
 dp:A.depth+3*k+5<recursionLimit
 un:A.units+16*k+200<cLine
theorem aH.mono(r:aH k A)(h:j<=k):aH j A:=⟨r.hd,by have:=r.dp;lia,by have:=r.un;lia⟩
theorem aH.deeper(r:aH (k+1) A)(env):aH k (A.deeper env):=
 ⟨r.hd,by have:=r.dp;show A.depth+1+3*k+5<_;lia,by have:=r.un;show A.units+3+16*k+200<_;lia⟩
theorem To{A:Around}{us:au}:(A.under (.builtin "type.__call__" ⟨.ref C::us,kw⟩)).depth=A.depth+1:=by
 first|rfl|simp[Around.under,Code.weight,Code.isCreation,Code.isGuard,Code.isCaller,Code.frames,Code.isFrame,guardIds]
theorem Tn{A:Around}{us:au}:(A.under (.builtin "type.__call__" ⟨.ref C::us,kw⟩)).units=A.units+1:=by
 first|rfl|simp[Around.under,Code.cUnits,Code.frames,Code.isFrame]
theorem aH.make(r:aH (k+1) A)(C)(us)(a:List (Str×Value)):aH k (A.under (.builtin "type.__call__" ⟨.ref C::us,a⟩)):=
 ⟨r.hd,by have:=r.dp;rw[To];lia,by have:=r.un;rw[Tn];lia⟩
theorem aH.depth(r:aH k A):A.depth<recursionLimit:=by have:=r.dp;lia
theorem aH.units(r:aH k A):A.units+64<cLine:=by have:=r.un;lia
def y7:TA:=λ_ H Q=>Q [] H
def quP(ta:TE)(tr:TA):TA:=λσ H Q=>ta σ H λx H1=>tr σ H1 λxs H2=>Q (x::xs) H2
section
variable {X:Cx}{e:Expr}{es:bc}{te:TE}{t:TA}{pos:Pos}
theorem Yy:PA X [] y7:=λ_ _ _ _ H Q I h=>Calls.spliced_nil ⟨[],H,I,.nil,h⟩
theorem Xg(d:PE X e te)(f:PA X es t)(hs:starEach (e::es) X.env=(false,eval e X.env)::starEach es X.env:=by rfl):PA X (e::es) (quP te t):=by
 intro pos a s b H Q I h;rw[hs];show wpAny _ _ (spliced ((false,eval e X.env)::backTo pos (starEach es X.env))) _ _ s;refine Calls.spliced_cons (ay (d a s b H _ I h) λu i k=>?_);obtain⟨x,H1,c,r1,g⟩:=k
 exact ay (f pos a i b H1 _ c g) λus l ⟨j,H2,I2,r2,q2⟩=>⟨x::j,H2,I2,.cons r1 r2,q2⟩
def Q4(t:TA):TE:=λσ H Q=>t σ H λxs H1=>xs.length<=sizeLine/\∀p,H1 p=none->Q (.ref p) (upd H1 p (.tup xs))
def Ra(t:TA):TE:=λσ H Q=>t σ H λxs H1=>xs.length<=sizeLine/\∀p,H1 p=none->Q (.ref p) (upd H1 p (.lst xs))
theorem Y1{x1}(h:PA X es t):PE X (.Tuple es x1 pos) (Q4 t):=by
 intro a s g H Q I d;refine wpAny_Tuple_spliced (ay (h pos a s g H _ I d) λus b ⟨f,H1,I1,r,z,q⟩=>⟨by rw[<-r.length];exact z,?_⟩)
 have c:H1 b.heap.objs.size=none:=I1.av.fresh (aD _);refine⟨.ref b.heap.objs.size,upd H1 b.heap.objs.size (.tup f),I1.laid (t':=b.toks) (λb u e=>bx _ e) (aD _) ?_,rfl,q _ c⟩
 exact⟨z,us,r,⟨_,c0 _ rfl,rfl,_,rfl⟩⟩
theorem J1(h:PA X es t):PE X (.List es pos) (Ra t):=by
 intro a s g H Q I d;refine wpAny_List_spliced (ay (h pos a s g H _ I d) λus b ⟨f,H1,I1,r,z,q⟩=>⟨by rw[<-r.length];exact z,?_⟩)
 have c:H1 b.heap.objs.size=none:=I1.av.fresh (aD _);refine⟨.ref b.heap.objs.size,upd H1 b.heap.objs.size (.lst f),I1.laid (t':=b.toks) (λb u e=>bx _ e) (aD _) ?_,rfl,q _ c⟩
 exact⟨z,us,0,r,c0 _ rfl⟩
end
abbrev Sp:=LV->Hp->VK->XK->Prop
abbrev mQ:=List Env->Hp->Shared->XK->aK
structure gR(P:Program)(w:World)(K:ah)(mg:br)(base:Heap)(A:Around)(outer:List Env)(s:Shared)(H:Hp):Prop where
 frames:A.frames=some outer
 mod:Mod K mg base
 bs:∀b o,base.get? b=some o->s.heap.get? b=some o/\H b=none
 jC:base.objs.size<=s.heap.objs.size
 dM:s.heap.FunFrames base outer
 mV:∀b∈iT outer,H b=none
 av:cX P w H s.heap
 bare:AllBare s.gens
def CE(a:List Env)(P:Program)(w:World)(H:Hp)(s:Shared)(Q:VK)(u:Value)(s':Shared):Prop:=
 ∃v b,s'.os=s.os/\AllBare s'.gens/\Un (iT a) [] H b s.heap s'.heap/\cX P w b s'.heap/\RelV v u/\Q v b
def CR(b:mQ)(a:List Env)(P:Program)(w:World)(H:Hp)(s:Shared)(Q:VK)(E:XK)(r:Result)(s':Shared):Prop:=
 match r with
 | .ok (.ret u)=>CE a P w H s Q u s'
 | .ok _=>False
 | .error e=>b a H s E e s'
structure dZ(P:Program)(w:World)(K:ah)(mg:br)(base:Heap)(CX:mQ)(k:Nat)(f:Addr)(fd:FuncData)(ps:az)(sp:Sp):Prop where
 len:∀vs H Q E,sp vs H Q E->vs.length=ps.length
 run:∀(A:Around) (outer:List Env) (s:Shared) (H:Hp) (args:Args) (us:au) (vs:LV) (Q:VK) (E:XK),aH k A->gR P w K mg base A outer s H->BindsTo s fd args (ps.zip us)->Vals vs us->sp vs H Q E->
  codeAny (model P w) A (.call (.ref f) args) (CR CX outer P w H s Q E) s
theorem gR.make{P:Program}{K:ah}{s:Shared}(e:gR P w K mg base A outer s H)(C)(us)(a:List (Str×Value)):
 gR P w K mg base (A.under (.builtin "type.__call__" ⟨.ref C::us,a⟩)) outer s H:=⟨by first|exact e.frames|(simpa[Around.under,Code.envs,Code.isFrame,pushEnvs]using e.frames),e.mod,e.bs,e.jC,e.dM,e.mV,e.av,e.bare⟩
section
variable {X:Cx}{pins:aF}{σ:St}{H:Hp}{s s':Shared}
theorem Inv.uA(I:Inv X pins σ H s):gR X.prog X.w X.K X.mg X.base X.A X.stack s H:=
 ⟨I.ok.frames,I.ok.mod,I.bs,bQ I.ok.jC I.sz,I.stack,I.iG,I.av,I.bare⟩
theorem Inv.after(I:Inv X pins σ H s)(h:CE X.stack X.prog X.w H s Q u s'):EP X pins σ Q u s':=by
 obtain⟨v,c,os,a,un,e,r,q⟩:=h;obtain⟨f,g,d,t,b⟩:=s';obtain rfl:b=s.os:=os;exact⟨v,c,I.call (h':=f) (g':=g) (d':=d) (t':=t) (ch:=[]) un e a (λb z=>aU z (by simp)),r,q⟩
end
def K3(sp:Sp)(dvs:LV)(E:XK)(t:TA):TE:=λσ H Q=>t σ H λvs H1=>sp (vs++dvs) H1 Q E
noncomputable def Cw (C:Addr)(m:Str)(sp:Sp)(dvs:LV)(E:XK)(ta:TE)(t:TA):TE:=λσ H Q=>ta σ H λx H1=>∃a dx fs,x= .ref a/\H1 a=some (.ins C dx fs)/\fs.lookup m=none/\
 t σ H1 λvs H2=>sp (x::(vs++dvs)) H2 Q E
noncomputable def Lg (C:Addr)(sp:Sp)(dvs:LV)(E:XK)(t:TA):TE:=λσ H Q=>t σ H λvs H1=>∀x dx,H1 x=none->H1 dx=none->dx≠x->
 sp (.ref x::(vs++dvs)) (upd (upd H1 dx (.own x)) x (.ins C dx [])) (λv H2=>v= .aw/\Q (.ref x) H2) E
def Binds(K:ah)(b:FuncData)(ps:az)(a:au):Prop:=
 ∀s us,K.In s.heap->(us++a).length=ps.length->BindsTo s b ⟨us,[]⟩ (ps.zip (us++a))
theorem Binds.all{K:ah}{ps:az}(h:∀us:au,us.length=ps.length->bindArgs fd ⟨us,[]⟩=pure (ps.zip us)):Binds K fd ps []:=λs us _ a=>by
 rw[nU]at a ⊢;exact .of_eq (h us a)
def Passes(c:mQ)(X:Cx)(E:XK):Prop:=∀a d H s e b,Inv X a d H s->c X.stack H s E e b->X.xe e b
section
variable {X:Cx}{CX:mQ}{k:Nat}{f C:Addr}{fd:FuncData}{ps:az}{sp:Sp}{dvs:LV}{ds:au}{E:XK}{x m:Str}{p pos apos:Pos}{e o:Expr}{es:bc}{ta:TE}{t:TA}
theorem va{s:Shared}{us:au}{vs:LV}(F:dZ X.prog X.w X.K X.mg X.base CX k f fd ps sp)(i:aH k X.A)(c:Binds X.K fd ps ds)(d:Vals dvs ds)(hx:Passes CX X E)
 (I:Inv X pins σ H s) (r:Vals vs us) (h:sp (vs++dvs) H Q E):wpAny (model X.prog X.w) X.A (call (.ref f) us) (EP X pins σ Q) X.xe s:=by
 have b:Vals (vs++dvs) (us++ds):=r.append d;have g:(us++ds).length=ps.length:=by rw[<-b.length];exact F.len _ _ _ _ h
 refine wpAny_call (codeAny_mono (F.run X.A X.stack s H ⟨us,[]⟩ (us++ds) (vs++dvs) Q E i I.uA (c s us I.dE g) b h) λr j a=>?_)
 cases r with
 |error e=>exact hx pins σ H s e j I a
 |ok fl=>
  cases fl with
  |ret u=>exact I.after a
  |next=>exact False.elim a
  |brk=>exact False.elim a
  |cont=>exact False.elim a
theorem Xe(F:dZ X.prog X.w X.K X.mg X.base CX k f fd ps sp)(v:aH k X.A)(l:Gl X x)(u:X.mg x=some (.ref f))(n:PySem.W.keepIn X.K (.ref f)=true)(g:Binds X.K fd ps ds)(i:Vals dvs ds)(hx:Passes CX X E)
 (d:PA X (e::es) t) (b:(x==("__debug__":Str))=false:=by decide) (j:starEach (e::es) X.env=(false,eval e X.env)::starEach es X.env:=by rfl) (c:(backTo pos (starEach es X.env)).any (·.1)=false:=by rfl):
 PE X (.Call (.Name x p) (e::es) [] pos) (K3 sp dvs E t):=by
 intro a s w H Q I h;refine wpAny_Call_Name_kw (m6 I l u ?_ b);refine zO (h₀:=X.base) I.ok.mod.iU n (ay (d pos a s w H _ I h) λus y ⟨vs,H1,I1,r,q⟩=>⟨I1.dE,?_⟩) j c
 exact va F v g i hx I1 r q
theorem Vd(F:dZ X.prog X.w X.K X.mg X.base CX k f fd ps sp)(l:aH k X.A)(g:Gl X x)(j:X.mg x=some (.ref f))(i:PySem.W.keepIn X.K (.ref f)=true)(c:Binds X.K fd ps ds)(d:Vals dvs ds)(hx:Passes CX X E)
 (a:(x==("__debug__":Str))=false:=by decide):PE X (.Call (.Name x p) [] [] pos) (K3 sp dvs E y7):=by
 intro b s n H Q I h;refine wpAny_Call_Name_kw (m6 I g j ?_ a);exact PySem.W.callWith_K0 I.dE i (va (us:=[]) F l c d hx I .nil h)
theorem Xa(D:PE X o ta)(c:cQ X.K C)(j:Meth X.K C m f)(F:dZ X.prog X.w X.K X.mg X.base CX k f fd ps sp)(J:aH k X.A)(z:Binds X.K fd ps ds)(A:Vals dvs ds)(hx:Passes CX X E)(y:PA X (e::es) t)
 (g:starEach (e::es) X.env=(false,eval e X.env)::starEach es X.env:=by rfl) (d:(backTo pos (starEach es X.env)).any (·.1)=false:=by rfl)
 (L:eval (.Call (.Attribute o m apos) (e::es) [] pos) X.env=(do
  let n<-eval o X.env
  standAt apos.atName
  let(f,first) <-holding [n] (getMethod n m pl)
  callWith pos f first (backTo pos (starEach (e::es) X.env)) (backToKw pos (keywordEach [] X.env))):=by rfl):
 PE X (.Call (.Attribute o m apos) (e::es) [] pos) (Cw C m sp dvs E ta t):=by
 intro b s v H Q I h;refine PySem.W.methodCall_KW (pl:=pl) (ay (D b s v H _ I h) λu N O=>?_) L;obtain⟨x,H1,i,M,a,R,U,ex,w,l,q⟩:=O
 subst ex;obtain rfl:u=Value.ref a:=M;refine G7 i w c j l ?_;refine zO (first:=[.ref a]) (h₀:=X.base) I.ok.mod.iU j.kp (ay (y pos b N v H1 _ i q) λus W ⟨vs,H2,I2,r,q2⟩=>⟨I2.dE,?_⟩) g d
 exact va (us:=.ref a::us) (vs:=.ref a::vs) F J z A hx I2 (.cons rfl r) q2
theorem U4(v:PE X o ta)(c:cQ X.K C)(g:Meth X.K C m f)(F:dZ X.prog X.w X.K X.mg X.base CX k f fd ps sp)(w:aH k X.A)(n:Binds X.K fd ps ds)(r:Vals dvs ds)(hx:Passes CX X E)
 (y:eval (.Call (.Attribute o m apos) [] [] pos) X.env=(do
  let i<-eval o X.env
  standAt apos.atName
  let(f,first) <-holding [i] (getMethod i m pl)
  callWith pos f first (backTo pos (starEach [] X.env)) (backToKw pos (keywordEach [] X.env))):=by rfl):
 PE X (.Call (.Attribute o m apos) [] [] pos) (Cw C m sp dvs E ta y7):=by
 intro b s D H Q I h;refine PySem.W.methodCall_KW (pl:=pl) (ay (v b s D H _ I h) λu M A=>?_) y;obtain⟨x,H1,d,z,a,J,L,ex,j,l,q⟩:=A
 subst ex;obtain rfl:u=Value.ref a:=z;refine G7 d j c g l ?_;exact PySem.W.callWith_K0 (first:=[.ref a]) d.dE g.kp (va (us:=[.ref a]) (vs:=[.ref a]) F w n r hx d (.cons rfl .nil) q)
structure Mk(K:ah)(C f:Addr):Prop where
 makes:PySem.W.makesIn K C=true
 init:PySem.W.findIn K (.ref C) "__init__" =some (some (.ref f))
 fn:PySem.W.isFn K (.ref f)=true
 kp:PySem.W.keepIn K (.ref C)=true
theorem Iy{s:Shared}{us:au}{vs:LV}(M:Mk X.K C f)(F:dZ X.prog X.w X.K X.mg X.base CX k f fd ps sp)(z:aH (k+1) X.A)(n:Binds X.K fd ps ds)(w:Vals dvs ds)
 (hx:Passes CX X E) (I:Inv X pins σ H s) (r:Vals vs us)
 (h:∀x c,H x=none->H c=none->c≠x->sp (.ref x::(vs++dvs)) (upd (upd H c (.own x)) x (.ins C c [])) (λv j=>v= .aw/\Q (.ref x) j) E):
 wpAny (model X.prog X.w) X.A (call (.ref C) us) (EP X pins σ Q) X.xe s:=by
 have d:=h (s.heap.objs.size+1) s.heap.objs.size (I.av.fresh (ja _)) (I.av.fresh (aD _)) (cE (Nat.lt_succ_self _));have b:=Inv.made (C:=C) I;have g:Vals (V.ref (s.heap.objs.size+1)::(vs++dvs)) (Value.ref (s.heap.objs.size+1)::(us++ds)):=.cons rfl (r.append w);have y:(Value.ref (s.heap.objs.size+1)::us++ds).length=ps.length:=by
  have e:=g.length;rw[F.len _ _ _ _ d]at e;exact e.symm
 refine wpAny_call (Vl (f:=f) I.dE M.makes M.init (eW.mp M.fn) (codeAny_mono (F.run _ X.stack _ _ ⟨Value.ref (s.heap.objs.size+1)::us,[]⟩ (Value.ref (s.heap.objs.size+1)::(us++ds)) _ _ E (z.make C us [])
  (b.uA.make C us []) (n _ (Value.ref (s.heap.objs.size+1)::us) b.dE y) g d) λr D a=>?_))
 cases r with
 |error e=>exact hx pins σ _ _ e D b a
 |ok fl=>
  cases fl with
  |ret u=>
   obtain⟨v,i,l,rv,ev,A⟩:=b.after a;subst ev;exact⟨rv,⟨V.ref (s.heap.objs.size+1),i,l,rfl,A⟩⟩
  |next=>exact False.elim a
  |brk=>exact False.elim a
  |cont=>exact False.elim a
theorem Xb(M:Mk X.K C f)(F:dZ X.prog X.w X.K X.mg X.base CX k f fd ps sp)(u:aH (k+1) X.A)(l:Gl X x)(n:X.mg x=some (.ref C))(g:Binds X.K fd ps ds)(i:Vals dvs ds)(hx:Passes CX X E)
 (d:PA X (e::es) t) (b:(x==("__debug__":Str))=false:=by decide) (j:starEach (e::es) X.env=(false,eval e X.env)::starEach es X.env:=by rfl) (c:(backTo pos (starEach es X.env)).any (·.1)=false:=by rfl):
 PE X (.Call (.Name x p) (e::es) [] pos) (Lg C sp dvs E t):=by
 intro a s v H Q I h;refine wpAny_Call_Name_kw (m6 I l n ?_ b);refine zO (h₀:=X.base) I.ok.mod.iU M.kp (ay (d pos a s v H _ I h) λus w ⟨vs,H1,I1,r,q⟩=>⟨I1.dE,?_⟩) j c
 exact Iy M F u g i hx I1 r q
theorem U5(M:Mk X.K C f)(F:dZ X.prog X.w X.K X.mg X.base CX k f fd ps sp)(j:aH (k+1) X.A)(g:Gl X x)(i:X.mg x=some (.ref C))(c:Binds X.K fd ps ds)(d:Vals dvs ds)(hx:Passes CX X E)
 (a:(x==("__debug__":Str))=false:=by decide):PE X (.Call (.Name x p) [] [] pos) (Lg C sp dvs E y7):=by
 intro b s l H Q I h;refine wpAny_Call_Name_kw (m6 I g i ?_ a);exact PySem.W.callWith_K0 I.dE M.kp (Iy (us:=[]) M F j c d hx I .nil h)
end
structure sS(N P:az)(sc:Scope):Prop where
 kind:sc.kind= .function
 co:sc.isCoroutine=false
 gen:sc.isGenerator=false
 nd:N.Nodup
 pre:N.take P.length=P
 par:∀x∈P,sc.names.lookup x=some .local∨sc.names.lookup x=some .cell
 qA:∀y∈sc.names,y.2≠.free
theorem Ia{b:Str->Option NameKind}{x:Str}:∀{a:List (Str×Value)} {m:br},(∀v,(x,v)∉a)->bindL b a m x=m x
 | [],_,_=>rfl
 |(n,v)::r,m,h=>by
  unfold bindL;rw[Ia λw c=>h w (nN _ c)]
  split
  . have:x≠n:=by rintro rfl;exact h v wx
    simp[this]
  . rfl
theorem Ic{b:Str->Option NameKind}{x:Str}:∀{a:List (Str×Value)} {m:br},(∀v,(x,v)∉a)->bindC b a m x=m x
 | [],_,_=>rfl
 |(n,v)::r,m,h=>by
  unfold bindC;rw[Ic λw c=>h w (nN _ c)]
  split
  . rfl
  . have:x≠n:=by rintro rfl;exact h v wx
    simp[this]
theorem Ib{a:Str->Option NameKind}{x:Str}{v:Value}:∀{P:az} {vs:au} {i:Nat} {m:br},P.Nodup->P[i]? =some x->vs[i]? =some v->a x=some .local->
 bindL a (P.zip vs) m x=some v
 | [],_,_,_,_,h,_,_=>by simp at h
 |_::_,[],_,_,_,_,h,_=>by simp at h
 |p::P,w::vs,0,m,nd,h1,h2,hk=>by
  simp at h1 h2;subst h1;subst h2;show bindL a ((p,w)::P.zip vs) m p=_;unfold bindL;rw[Ia λv b=>(iL.mp nd).1 (List.of_mem_zip b).1,ag hk]
  simp
 |p::P,w::vs,i+1,m,nd,h1,h2,hk=>by
  show bindL a ((p,w)::P.zip vs) m x=_;unfold bindL;exact Ib (i:=i) (iL.mp nd).2 (by simpa using h1) (by simpa using h2) hk
theorem Ie{a:Str->Option NameKind}{x:Str}{v:Value}:∀{P:az} {vs:au} {i:Nat} {m:br},P.Nodup->P[i]? =some x->vs[i]? =some v->a x≠some .local->
 bindC a (P.zip vs) m x=some v
 | [],_,_,_,_,h,_,_=>by simp at h
 |_::_,[],_,_,_,_,h,_=>by simp at h
 |p::P,w::vs,0,m,nd,h1,h2,hk=>by
  simp at h1 h2;subst h1;subst h2;show bindC a ((p,w)::P.zip vs) m p=_;unfold bindC;rw[Ic λv b=>(iL.mp nd).1 (List.of_mem_zip b).1,ab hk]
  simp
 |p::P,w::vs,i+1,m,nd,h1,h2,hk=>by
  show bindC a ((p,w)::P.zip vs) m x=_;unfold bindC;exact Ie (i:=i) (iL.mp nd).2 (by simpa using h1) (by simpa using h2) hk
noncomputable def start (N:az)(vs:LV):St:=vs.map some++List.replicate (N.length-vs.length) none
noncomputable def nG (CX:mQ)(P:Program)(w:World)(K:ah)(mg:br)(base:Heap)(N:az)(qual:Str)(scope:Scope)(f:Addr)(cd:Value)(A:Around)(outer:List Env)(s:Shared)(H:Hp)(E:XK):Cx where
 prog:=P
 w:=w
 K:=K
 mg:=mg
 base:=base
 A:=A.deeper (envOfC qual scope s.heap.objs.size f cd)
 N:=N
 s₀:=s
 H₀:=H
 env:=envOfC qual scope s.heap.objs.size f cd
 outer:=outer
 stack:=envOfC qual scope s.heap.objs.size f cd::outer
 ex:=[]
 calm:=true
 fn:=λ_=>true
 pn:=[]
 xe:=λe s'=>wpAny (model P w) (A.deeper (envOfC qual scope s.heap.objs.size f cd)) (leaving (envOfC qual scope s.heap.objs.size f cd) e) (λ_ s''=>CX outer H s E e s'') (λe' s''=>CX outer H s E e' s'') s'
theorem Ip{sc:Scope}{n:Nat}{x:Str}(h:sc.names.lookup x=some .cell):∃c,(cellsFrom n sc.names []).lookup x=some c:=by
 have q:=PySem.W.cellsFrom_some sc.names n [] (.inl h);exact zK.mp q
theorem Uq{P:Program}{K:ah}{cd:Value}{A:Around}{s s1:Shared}{us:au}{vs:LV}
 (S:sS N ps scope) (F:A.handled=none) (e0:gR P w K mg base A outer s H) (L:vs.length=ps.length) (r:Vals vs us)
 (x:InCallC s s.heap.objs.size (bindL (envOfC qual scope s.heap.objs.size f cd).kindOf (ps.zip us) λ_=>none) (cellsFrom (s.heap.objs.size+1) scope.names []) (bindC (envOfC qual scope s.heap.objs.size f cd).kindOf (ps.zip us) λ_=>none) s1):
 Inv (nG CX P w K mg base N qual scope f cd A outer s H E) [] (start N vs) H s1:=by
 have I:ps.length<=N.length:=by have:=congrArg List.length S.pre;rw[List.length_take]at this;lia
 obtain⟨o,M,rfl,t⟩:=x.done;have j:∀b:Addr,b∉(nG CX P w K mg base N qual scope f cd A outer s H E).ex:=λb z=>aU (show b∈([]:List Addr)from z) (by simp)
 refine⟨⟨e0.mod,S.kind,rfl,rfl,aD _,λy z c o d=>?_,λy g=>?_,λy c _ h=>?_,λ_=>F,Around.frames_deeper e0.frames,.inr ⟨rfl,rfl⟩,λb z=>aU z (j b),e0.bs,e0.jC,λb _ _=>j b,λb z=>aU z (j b),e0.dM,e0.mV⟩,
  rfl,e0.bare,Un.kept t,⟨_,x.toInCall.ns,λi y v o d J=>?_⟩,λy c h=>⟨_,x.cell y c h⟩,e0.av.fresh (aD _),λy c h=>?_,λp l=>aU (show p∈([]:aF)from l) (by simp),e0.av.kept t,?_⟩
 . exact name_of_addr x.apart (PySem.mem_of_lookup o) (PySem.mem_of_lookup d)
 . have g:scope.names.lookup y=some .cell∨scope.names.lookup y=some .free:=g
   rcases g with g|g
   . exact Ip g
   . exact aU rfl (S.qA _ (PySem.mem_of_lookup g))
 . exact mJ (x.above y c (PySem.mem_of_lookup h))
 . have hi:i<vs.length:=by
    unfold start at d
    by_cases hi:i<vs.length
    . exact hi
    . rw[List.getElem?_append_right (by simpa using hi)]at d
      rw[List.getElem?_replicate]at d;split at d<;>cases d
   have D:vs[i]? =some v:=by
    unfold start at d;rw[rS (by simpa using hi),fR]at d
    cases e:vs[i]? with
    |none=>rw[e]at d;cases d
    |some a=>rw[e]at d;cases d;rfl
   obtain⟨u,C,rv⟩:=r.get D;have l:ps[i]? =some y:=by
    rw[<-S.pre,List.getElem?_take_of_lt ∅];exact o
   have m:ps.Nodup:=by rw[<-S.pre];exact S.nd.sublist (List.take_sublist _ _)
   refine⟨u,rv,?_⟩;rcases S.par y (jw l)with k|k
   . exact .inl ⟨k,Ib m l C k⟩
   . obtain⟨c,e⟩:=Ip (n:=s.heap.objs.size+1) k
     refine .inr ⟨.inl k,c,e,?_⟩;have q:=x.cell y c e;rw[Ie m l C (by show scope.names.lookup y≠_;rw[k];decide)]at q
     exact q
 . exact e0.av.fresh (mJ (x.above y c (PySem.mem_of_lookup h)))
 . unfold start
   show _=N.length;rw[fF,aW,zM];lia
theorem qwv{P:Program}{K:ah}{f:Addr}{body:List Stmt}{dV kV doc pm cdv ct oc:Value}{an od:Option Addr} {sp:Sp} (lk:K.lookup f=some ⟨oc,od,.func (PySem.W.fnOf name qual params body scope dV kV doc pm an cdv ct),osl⟩) (hcd:PySem.W.codeIn K cdv qual=true) (S:sS N ps scope)
 (len:∀vs H Q E,sp vs H Q E->vs.length=ps.length)
 (hbody:∀(A:Around) (outer:List Env) (s:Shared) (H:Hp) (vs:LV) (Q:VK) (E:XK),aH k (A.deeper (envOfC qual scope s.heap.objs.size f cdv))->sp vs H Q E->
  ∃t,gq (nG CX P w K mg base N qual scope f cdv A outer s H E) body t/\t { nx:=λ_ H'=>Q .aw H',rt:=Q } (start N vs) H):
 dZ P w K mg base CX (k+1) f (PySem.W.fnOf name qual params body scope dV kV doc pm an cdv ct) ps sp:=by
 refine⟨len,λA outer s H args us vs Q E hr e0 hb r hsp=>?_⟩
 have hl:=len _ _ _ _ hsp;have KX:K.In s.heap:=e0.mod.iU.keeps λb o e=>(e0.bs b o e).1
 have lim:s.heap.NoLimit:=e0.mod.nolimit.keeps λb o e=>(e0.bs b o e).1
 have de:∀y∈ps.zip us,scope.names.lookup y.1=some .local∨(scope.names.lookup y.1=some .cell/\((cellsFrom (s.heap.objs.size+1) scope.names []).lookup y.1).isSome=true):=λ⟨n,v⟩ hy=>by
  rcases S.par n (List.of_mem_zip hy).1 with q|q
  . exact .inl q
  . exact .inr ⟨q,PySem.W.cellsFrom_some _ _ _ (.inl q)⟩
 refine codeAny_call_function hr.depth (KX _ _ lk) rfl S.co S.gen rfl (PySem.W.codeRec_of KX hcd) (hb _ _ _ _ ?_);refine wpAny_newFunctionEnv_cells S.kind de λenv he s1 x=>?_
 subst he;refine⟨lim.keeps x.toInCall.keep,codeAny_func ?_⟩;obtain⟨t,ht,hq⟩:=hbody A outer s H vs Q E (hr.deeper _) hsp;have I:Inv (nG CX P w K mg base N qual scope f cdv A outer s H E) [] (start N vs) H s1:=Uq S hr.hd e0 hl r x;refine gQ (ht [] s1 (start N vs) H _ I hq) (λfl s' hs=>?_) λe s' hs=>hs
 have fin:∀{σ':St} {H':Hp} {v:V} {u:Value},Inv (nG CX P w K mg base N qual scope f cdv A outer s H E) [] σ' H' s'->RelV v u->Q v H'->CE outer P w H s Q u s':=
  λ{σ' H' v u} J rv q=>⟨v,H',J.os,J.bare,J.base,J.av,rv,q⟩
 cases fl with
 |ret u=>
  obtain⟨v,σ',H',J,rv,q⟩:=hs;exact fin J rv q
 |next=>
  obtain⟨σ',H',J,q⟩:=hs;exact fin (v:=V.aw) (u:=Value.none) J rfl q
 |brk=>
  obtain⟨_,_,_,q⟩:=hs;exact False.elim q
 |cont=>
  obtain⟨_,_,_,q⟩:=hs;exact False.elim q
section
variable {X:Cx}{x:Str}{p pos:Pos}{e:Expr}{es:bc}{t:TA}{id T:String}{r:LV->Hp->VK->Prop}
def DP(r:LV->Hp->VK->Prop)(t:TA):TE:=λσ H Q=>t σ H λvs H1=>r vs H1 Q
theorem Vc(g:cU X (.builtin id) r)(j:Gl X x)(k:X.mg x=none)(m:bootBuiltins x=some (.builtin id))(f:PA X (e::es) t)(l:x≠"__name__":=by decide)(b:(x==("__debug__":Str))=false:=by decide)
 (i:starEach (e::es) X.env=(false,eval e X.env)::starEach es X.env:=by rfl) (c:(backTo pos (starEach es X.env)).any (·.1)=false:=by rfl):PE X (.Call (.Name x p) (e::es) [] pos) (DP r t):=by
 intro a s d H Q I h;refine wpAny_Call_Name_kw (ng I j k m ?_ l b);exact PyProof.Rows.callWith_builtin1 (ay (f pos a s d H _ I h) λus n ⟨vs,H1,I1,r1,q1⟩=>g a n d H1 vs us Q I1 r1 q1) i c
theorem Uv(g:cU X (.type T) r)(j:Gl X x)(k:X.mg x=none)(m:bootBuiltins x=some (.type T))(f:PA X (e::es) t)(l:x≠"__name__":=by decide)(b:(x==("__debug__":Str))=false:=by decide)
 (i:starEach (e::es) X.env=(false,eval e X.env)::starEach es X.env:=by rfl) (c:(backTo pos (starEach es X.env)).any (·.1)=false:=by rfl):PE X (.Call (.Name x p) (e::es) [] pos) (DP r t):=by
 intro a s d H Q I h;refine wpAny_Call_Name_kw (ng I j k m ?_ l b);exact wB (ay (f pos a s d H _ I h) λus n ⟨vs,H1,I1,r1,q1⟩=>g a n d H1 vs us Q I1 r1 q1) i c
end
end L2
namespace HT
open PySem PyProof.Rows
section
variable {prog:Program}{w:World}{A:Around}{E:aK}{s:Shared}
theorem kO{t b:Addr}{vs ws:au}{Q:aK}(ht:IsTup s.heap t vs.toArray)(hb:IsTup s.heap b ws.toArray)(hv:vs≠[])
 (h1:ws= []->Q (.ref t) s) (h2:ws≠[]->Q (.ref s.heap.objs.size) { s with heap:=s.heap.push { cls:=.type "tuple",data:=.seq (vs++ws).toArray } })
 (hsz:vs.length+ws.length<=sizeLine):wpAny (model prog w) A (binaryOp .Add (.ref t) (.ref b)) Q E s:=by
 obtain⟨⟨cls,dd,data,sl⟩,ho,hc,n,hd⟩:=id ht;obtain⟨⟨cls2,dd2,data2,sl2⟩,ho2,hc2,n2,hd2⟩:=id hb;simp only at hc hd hc2 hd2;subst hc hd hc2 hd2;have e:vs.toArray++ws.toArray=(vs++ws).toArray:=by simp
 by_cases hw:ws= []
 . exact concat_meets ⟨_,ho,rfl⟩ ⟨_,ho2,rfl⟩ noFill_tuple_add seq_tuple_add PySem.F.slot_tuple_add PySem.F.entry_tuple_add (PySem.F.args_tuple_add_2 _ _)
    (tuple_addW1 t b vs.toArray ws.toArray n n2 dd dd2 sl sl2 (by simpa using hv) (by simp[hw])) ⟨ho,ho2,h1 hw⟩
 . refine concat_meets ⟨_,ho,rfl⟩ ⟨_,ho2,rfl⟩ noFill_tuple_add seq_tuple_add PySem.F.slot_tuple_add PySem.F.entry_tuple_add (PySem.F.args_tuple_add_2 _ _)
    (tuple_addW2 t b vs.toArray ws.toArray n n2 dd dd2 sl sl2 (by simpa using hv) (by simpa using hw) (by rw[eX,eX];exact hsz)) ⟨ho,ho2,?_⟩
   rw[e];exact h2 hw
noncomputable def aJ (n d:Nat):Option Int->Nat
 |none=>d
 |some v=>if v<0 then(v+(n:Int)).toNat else min v.toNat n
theorem jV(n d):aJ n d none=d:=rfl
theorem iF(n d k:Nat):aJ n d (some (k:Int))=min k n:=by
 show(if(k:Int)<0 then((k:Int)+(n:Int)).toNat else min (k:Int).toNat n)=min k n
 rw[ab ∅,Int.toNat_natCast]
theorem XR(n d:Nat)(b:d<=n)(o:Option Int):aJ n d o<=n:=by
 cases o with
 |none=>exact b
 |some v=>
  show(if v<0 then(v+(n:Int)).toNat else min v.toNat n)<=n
  by_cases a:v<0
  . rw[ag a];lia
  . rw[ab a];exact Nat.min_le_right _ _
theorem JX(v:Int)(n d:Nat):(if v<0 then max (v+(n:Int)) 0 else min v (n:Int))=((aJ n d (some v):Nat):Int):=by
 show(if v<0 then max (v+(n:Int)) 0 else min v (n:Int))=(((if v<0 then(v+(n:Int)).toNat else min v.toNat n):Nat):Int)
 by_cases a:v<0
 . simp only[ag a];lia
 . simp only[ab a];lia
theorem T9(lo hi:Option Int)(n:Nat):Builtin.Slice.sliceAdjust lo hi 1 (n:Int)=(((aJ n 0 lo:Nat):Int),((aJ n n hi:Nat):Int)):=by
 have a:¬((1:Int)<0):=by lia
 unfold Builtin.Slice.sliceAdjust;simp only[a,if_false];refine Prod.ext ?_ ?_
 . cases lo with
   |none=>rfl
   |some v=>exact JX v n 0
 . cases hi with
   |none=>rfl
   |some v=>exact JX v n n
theorem Th(i j:Nat):Builtin.Slice.slicePlaces (i:Int) (j:Int) 1=j-i:=by
 unfold Builtin.Slice.slicePlaces;have a:(1:Int) > 0:=by lia
 simp only[a,if_true,Int.ediv_one];split<;>lia
theorem GW{v:Value}(p:IsPart v o)(h:Q o s):wpAny (model prog w) A (Builtin.Slice.slicePartIndex v) Q E s:=by
 cases p with
 |none=>exact slicePart_none h
 |int i t=>exact slicePart_int h
theorem GH{sl:Addr}{lo hi:Option Int}{n:Nat}(hs:s.heap.IsSliceOf sl vl vu .none)(pl:IsPart vl lo)(d:IsPart vu hi)
 (h:Q (((aJ n 0 lo:Nat):Int),1,aJ n n hi-aJ n 0 lo) s):wpAny (model prog w) A (Builtin.Slice.sliceApplied (.ref sl) (pure (n:Int))) Q E s:=by
 obtain⟨e,b,c,a⟩:=id hs;unfold Builtin.Slice.sliceApplied Builtin.Slice.sliceFields;refine ai (ai (wpAny_field b a (x:=vl) rfl (ai (wpAny_field b a (x:=vu) rfl (ai (wpAny_field b a (x:=.none) rfl (aC ?_)))))));refine ai (slicePart_none ?_);show wpAny _ _ (if((1:Int)==0)=true then _ else _) _ _ s
 rw[ab ⋯]
 refine ai (GW pl (ai (GW d (ai (aC ?_)))));show wpAny _ _ (match Builtin.Slice.sliceAdjust lo hi 1 (n:Int)with|(lo,hi)=>pure (lo,(1:Int),Builtin.Slice.slicePlaces lo hi 1)) _ _ s
 rw[T9 lo hi n];show wpAny _ _ (pure (((aJ n 0 lo:Nat):Int),(1:Int),Builtin.Slice.slicePlaces ((aJ n 0 lo:Nat):Int) ((aJ n n hi:Nat):Int) 1)) _ _ s;rw[Th];exact aC h
theorem VM(xs:Array Value)(i k:Nat):((List.range k).filterMap λ(m:Nat)=>xs[((i:Int)+(m:Int)*1).toNat]?).toArray=((xs.toList.drop i).take k).toArray:=by
 have e:(λ(m:Nat)=>xs[((i:Int)+(m:Int)*1).toNat]?)=λm=>xs[i+m]?:=by
  funext m;have:((i:Int)+(m:Int)*1).toNat=i+m:=by lia
  rw[this]
 rw[e];have:=pick_run xs i k;rw[List.filterMap_map]at this;have a:((λx=>xs[x]?) ∘ λx=>i+x)=λm=>xs[i+m]?:=rfl
 rw[a]at this;rw[this]
theorem c9{t sl:Addr}{lo hi:Option Int}(b:IsTup s.heap t items)(hs:s.heap.IsSliceOf sl vl vu .none)(pl:IsPart vl lo)(k:IsPart vu hi)
 (i:¬(aJ items.size 0 lo=0/\aJ items.size items.size hi=items.size))
 (h:Q (.ref s.heap.objs.size) { s with heap:=s.heap.push { cls:=.type "tuple",data:=.seq ((items.toList.drop (aJ items.size 0 lo)).take (aJ items.size items.size hi-aJ items.size 0 lo)).toArray } })
 (hsz:items.size<=sizeLine):wpAny (model prog w) A (getItem (.ref t) (.ref sl)) Q E s:=by
 have a:sizeOk (.seq ((items.toList.drop (aJ items.size 0 lo)).take (aJ items.size items.size hi-aJ items.size 0 lo)).toArray):=by
  show((items.toList.drop (aJ items.size 0 lo)).take (aJ items.size items.size hi-aJ items.size 0 lo)).toArray.size<=sizeLine;rw[eX,List.length_take,List.length_drop,Array.length_toList];lia
 have l:aJ items.size items.size hi<=items.size:=XR _ _ (aD _) hi;obtain⟨j,f,d,g⟩:=id hs;have c:s.TypeIs (.ref sl) "slice":=⟨j,f,d⟩;unfold getItem
 try with_reducible refine jz ?_
 first|refine ai (aC ?_)|skip
 refine ai (wpAny_sequenceKey b.typeIs ⋯ ?_)
 refine ai (wpAny_callSpecial?_slot (name:=Str.ofString "__getitem__") b.typeIs zR
  (iK zR b.typeIs entry_tuple_getitem ?_ (args_tuple_getitem _ _)))
 show wpAny _ _ (Builtin.Tuple.tupleItemsOf (.ref t) >>= _) _ _ s;refine ai (tupleItemsOf_ b ?_);refine ai (wpAny_typeOf c ?_);rw[ag ⋯]
 refine ai (GH hs pl k ?_);have e:¬((((aJ items.size 0 lo:Nat):Int)==0&&(1:Int)==1&&(aJ items.size items.size hi-aJ items.size 0 lo)==items.size)=true):=by
  intro q;rw[bj,bj]at q;have n:((aJ items.size 0 lo:Nat):Int)=0:=gG q.1.1;have o:aJ items.size items.size hi-aJ items.size 0 lo=items.size:=gG q.2;exact i ⟨∅,∅⟩
 show wpAny _ _ (if(((aJ items.size 0 lo:Nat):Int)==0&&(1:Int)==1&&(aJ items.size items.size hi-aJ items.size 0 lo)==items.size)=true then _ else _) _ _ s
 rw[ab e,VM]
 first
  |exact ai (m:=Builtin.Tuple.tupleExact _) (jX (aC ⟨_,rfl,aC h⟩) a)
  |exact ai (m:=Builtin.Tuple.tupleExact _) (jX (ai (aC (aC ⟨_,rfl,aC h⟩))) a)
  |exact ai (ai (m:=Builtin.Tuple.tupleExact _) (jX (aC (aC ⟨_,rfl,aC h⟩)) a))
  |exact ai (ai (m:=Builtin.Tuple.tupleExact _) (jX (aC ⟨_,rfl,aC h⟩) a))
end
end HT
namespace L2
open PySem PySem.Spec PyProof.Rows
abbrev TO:=St->Hp->(Option Int->Hp->Prop)->Prop
def PO(X:Cx)(e:Option Expr)(t:TO):Prop:=
 ∀(a:aF) (s:Shared) (σ:St) (H:Hp) (Q:Option Int->Hp->Prop),Inv X a σ H s->t σ H Q->
  wpAny (model X.prog X.w) X.A (evalPart e X.env) (λu c=>∃o b,Inv X a σ b c/\IsPart u o/\Q o b) X.xe s
def Wq:TO:=λ_ H Q=>Q none H
def Z8(t:TE):TO:=λσ H Q=>t σ H λx H1=>∃i,x= .int i/\Q (some i) H1
section
variable {X:Cx}{e:Expr}{te:TE}{lo hi:Option Expr}{tl th:TO}{pos p2:Pos}
theorem W7:PO X none Wq:=by
 intro a s b H Q I h;rw[evalPart_none];exact aC ⟨none,H,I,.none,h⟩
theorem W6(h:PE X e te):PO X (some e) (Z8 te):=by
 intro a s g H Q I c;rw[evalPart_some];refine ay (h a s g H _ I c) λu j f=>?_;obtain⟨x,H1,b,r1,d⟩:=f
 obtain⟨i,rfl,q⟩:=d;obtain⟨t,rfl⟩:=r1;exact⟨some i,H1,b,.int i t,q⟩
def wK(X:Cx)(r:V->Option Int->Option Int->Hp->VK->Prop):Prop:=
 ∀(a:aF) (s:Shared) (σ:St) (H:Hp) (x:V) (v vl vu:Value) (lo hi:Option Int) (sl:Addr) (Q:VK),Inv X a σ H s->RelV x v->s.heap.IsSliceOf sl vl vu .none->IsPart vl lo->IsPart vu hi->r x lo hi H Q->
  ∃T id,typeLookup (.type T) "__getitem__" =pure (some (.builtin id))/\s.TypeIs v T/\wpAny (model X.prog X.w) X.A (getItem v (.ref sl)) (EP X a σ Q) X.xe s
noncomputable def tSl (r:V->Option Int->Option Int->Hp->VK->Prop)(te:TE)(tl th:TO):TE:=λσ H Q=>te σ H λx H1=>tl σ H1 λl H2=>th σ H2 λu H3=>r x l u H3 Q
theorem U3(hr:wK X r)(he:PE X e te)(hl:PO X lo tl)(hu:PO X hi th):PE X (.Subscript e (.Slice lo hi none p2) pos) (tSl r te tl th):=by
 intro pins s σ H Q I h;refine Subscript_ (ay (he pins s σ H _ I h) λv s1 zz=>?_);obtain⟨x,H1,I1,r1,q1⟩:=zz
 refine wpAny_Slice (ay (hl pins s1 σ H1 _ I1 q1) λvl s2 ⟨l,H2,I2,pl,q2⟩=>ay (hu pins s2 σ H2 _ I2 q2) λvu s3 zz=>?_);obtain⟨u,H3,I3,pu,q3⟩:=zz
 rw[evalPart_none];refine aC ?_;have I4:Inv X pins σ H3 { s3 with heap:=s3.heap.push { cls:=.type "slice",data:=.fields #[vl,vu,.none] } }:=I3.kept (t':=s3.toks) λb ob q=>bx _ q
 obtain⟨T,id,hT,ht,hg⟩:=hr pins { s3 with heap:=s3.heap.push { cls:=.type "slice",data:=.fields #[vl,vu,.none] } } σ H3 x v vl vu l u s3.heap.objs.size Q I4 r1 (Heap.IsSliceOf.new ..) pl pu q3
 show wpAny (model X.prog X.w) X.A (subscriptTail e (.Slice lo hi none p2) v (.ref s3.heap.objs.size)) (EP X pins σ Q) X.xe { s3 with heap:=s3.heap.push { cls:=.type "slice",data:=.fields #[vl,vu,.none] } }
 exact tail_any (ops:=[.ref s3.heap.objs.size,v]) ht hT hg (by with_unfolding_all rfl)
noncomputable def nH (xs:LV)(lo hi:Option Int):LV:=(xs.drop (HT.aJ xs.length 0 lo)).take (HT.aJ xs.length xs.length hi-HT.aJ xs.length 0 lo)
theorem Hc(xs)(lo hi:Option Int):(nH xs lo hi).length<=xs.length:=by
 unfold nH;rw[List.length_take,List.length_drop];lia
noncomputable def Sh (K:ah):V->Option Int->Option Int->Hp->VK->Prop:=λx lo hi H Q=>∃a b,x= .ref a/\bS K H a b/\
 ¬(HT.aJ b.length 0 lo=0/\HT.aJ b.length b.length hi=b.length)/\∀p,H p=none->Q (.ref p) (upd H p (.tup (nH b lo hi)))
theorem XN:wK X (Sh X.K):=by
 intro g s t H x v m n lo hi sl Q I l hs j k h;obtain⟨a,c,rfl,hx,i,q⟩:=h;cases l;obtain⟨ae,r,d,f⟩:=I.tuple hx;have b:ae.toArray.size=c.length:=by rw[eX];exact r.length.symm
 refine⟨"tuple",_,PyProof.Rows.slot_tuple_getitem.lookup,d.typeIs,?_⟩;refine HT.c9 d hs j k (by rw[b];exact i) ?_ (by rw[b];exact f)
 rw[b];refine⟨.ref s.heap.objs.size,_,I.laid (t':=s.toks) (o:=.tup (nH c lo hi)) (λb ob q=>bx _ q) (aD _) ?_,rfl,q _ (I.av.fresh (aD _))⟩
 exact⟨bQ (Hc c lo hi) f,_,(r.drop (HT.aJ c.length 0 lo)).take (HT.aJ c.length c.length hi-HT.aJ c.length 0 lo),IsTup.new _ _⟩
noncomputable def qvD (K:ah):R2:=λx y H Q=>∃a b d c,x= .ref a/\y= .ref b/\bS K H a d/\bS K H b c/\d≠[]/\d.length+c.length<=sizeLine/\
 (c= []->Q (.ref a) H)/\(c≠[]->∀p,H p=none->Q (.ref p) (upd H p (.tup (d++c))))
theorem Vals.fJ{us:au}(r:Vals xs us):us= []↔xs= []:=by
 cases r with
 |nil=>simp
 |cons _ _=>simp
theorem WG:dw X (binaryOp .Add) (qvD X.K):=by
 intro g s A H x y v u Q I m n h;obtain⟨a,b,r,t,rfl,rfl,i,j,hx,d,k,l⟩:=h;cases m;cases n;obtain⟨ae,r1,p1,_⟩:=I.tuple i;obtain⟨f,c,p2,_⟩:=I.tuple j;refine HT.kO p1 p2 (λz=>hx (r1.fJ.mp z)) (λz=>⟨.ref a,H,I,rfl,k (c.fJ.mp z)⟩) (λz=>?_) (by rw[<-r1.length,<-c.length];exact d)
 refine⟨.ref s.heap.objs.size,_,I.laid (t':=s.toks) (o:=.tup (r++t)) (λb ob q=>bx _ q) (aD _) ?_,rfl,l (λw=>z (c.fJ.mpr w)) _ (I.av.fresh (aD _))⟩
 exact⟨by rw[fF];exact d,_,r1.append c,IsTup.new _ _⟩
end
noncomputable def fT (n:Nat)(i:Int):Option Nat:=if 0<=i then(if i<n then some i.toNat else none)else if -(n:Int)<=i then some (i+n).toNat else none
noncomputable def bT(xs:List α)(i:Int):Option α:=(fT xs.length i).bind λj=>xs[j]?
theorem Jq{n:Nat}{i:Int}(h:fT n i=some j):seqIndex? i n=some j/\j<n/\-(n:Int)<=i/\i<n:=by
 unfold fT at h
 by_cases b:0<=i
 . rw[ag b]at h
   by_cases a:i<n
   . rw[ag a]at h
     have e:i.toNat=j:=eV h;exact⟨by rw[seqIndex_of b a,e],∅,∅,a⟩
   . rw[ab a]at h;cases h
 . rw[ab b]at h
   by_cases a:-(n:Int)<=i
   . rw[ag a]at h
     have e:(i+n).toNat=j:=eV h;exact⟨by rw[seqIndex_neg ∅ a,e],∅,a,∅⟩
   . rw[ab a]at h;cases h
theorem BE{i:Int}{v:α}(h:bT xs i=some v):∃j,seqIndex? i xs.length=some j/\xs[j]? =some v/\j<xs.length/\-(xs.length:Int)<=i/\i<xs.length:=by
 unfold bT at h;cases e:fT xs.length i with
 |none=>rw[e]at h;cases h
 |some j=>
  rw[e]at h;obtain⟨a,b,c,d⟩:=Jq e;exact⟨j,a,h,b,c,d⟩
def JQ(b:Expr):Prop:=∀o i,subscripted b false o i=operate [o,i] (getItem o i)
def uq(X:Cx)(r:R2):Prop:=
 ∀c a b s d H x y v u Q,Inv X b d H s->RelV x v->RelV y u->r x y H Q->
  subscripted a false v u=operate [v,u] (getItem v u)->wpAny (model X.prog X.w) X.A (subscriptTail c a v u) (EP X b d Q) X.xe s
def D2(X:Cx)(id:String)(r:V->LV->Hp->VK->Prop):Prop:=
 ∀a s c H x b v us Q,Inv X a c H s->RelV x v->Vals b us->r x b H Q->
  wpAny (model X.prog X.w) X.A (call (.builtin id) (v::us)) (EP X a c Q) X.xe s
section
variable {X:Cx}{a b:Expr}{ta tb:TE}{pos:Pos}
theorem qvP(i:uq X r)(f:PE X a ta)(g:PE X b tb)(hs:JQ b):PE X (.Subscript a b pos) (ua r ta tb):=by
 intro c s m H Q I h;exact Subscript_ (Dl f g I h λv u l x y d e j k q=>i a b c l m d x y v u Q e j k q (hs _ _))
def Rw(K:ah):R2:=λx y H Q=>∃p c i v,x= .ref p/\y= .int i/\c7 K H p c/\bT c i=some v/\Q v H
def Sk(K:ah):R2:=λx y H Q=>∃p c i v,x= .ref p/\y= .int i/\bS K H p c/\bT c i=some v/\Q v H
def Sl:R2:=λx y H Q=>∃z i c,x= .str z/\y= .int i/\z.length<=sizeLine/\bT z.cps.toList i=some c/\Q (.str ⟨#[c]⟩) H
theorem Jp:uq X (Rw X.K):=by
 intro l k c s o H x y v u Q I L M h hs;obtain⟨p,W,i,z,rfl,rfl,J,E,q⟩:=h;cases L;obtain⟨t,rfl⟩:=M;obtain⟨ae,r,f,U⟩:=I.list J;obtain⟨j,d,A,O,C,D⟩:=BE E;obtain⟨w,m,g⟩:=r.get A;have F:=r.length;have R:=sW;have fin:EP X c o Q w s:=⟨z,H,I,g,q⟩
 by_cases n:0<=i
 . have e:i.toNat=j:=by
    rw[seqIndex_of n D]at d;exact eV d
   exact item_listR f.isList n ∅ (by rw[e];simpa using m) fin hs
 . have e:(i+(ae.toArray.size:Int)).toNat=j:=by
    rw[seqIndex_neg ∅ C]at d
    rw[eX,<-F];exact eV d
   exact subscriptTail_builtinR (x:=w) f.isList.typeIs slot_list_getitem.lookup
    (wpAny_getItem_list_neg (Q:=λr N=>r=w/\EP X c o Q r N) f.isList ∅ (by rw[eX]<;>lia) ∅ (by rw[e];simpa using m) ⟨rfl,fin⟩) hs
theorem Zv:uq X (Sk X.K):=by
 intro f e c s k H x y v u Q I D E h hs;obtain⟨p,R,i,z,rfl,rfl,C,o,q⟩:=h;cases D;obtain⟨t,rfl⟩:=E;obtain⟨ae,r,g,O⟩:=I.tuple C;obtain⟨j,m,n,J,L,M⟩:=BE o;obtain⟨w,l,d⟩:=r.get n;have A:=r.length;have N:=sW;have fin:EP X c k Q w s:=⟨z,H,I,d,q⟩;exact subscriptTail_builtinR (x:=w) g.typeIs slot_tuple_getitem.lookup
  (getItem_tuple (j:=j) (Q:=λr F=>r=w/\EP X c k Q r F) g ∅ ∅ (by rw[eX,<-A];exact m) (by simpa using l) ⟨rfl,fin⟩) hs
theorem Zw:uq X Sl:=by
 intro e d g s J H x y v u Q I w A h hs;obtain⟨z,i,c,rfl,rfl,E,o,q⟩:=h;obtain⟨t,rfl⟩:=w;obtain⟨F,rfl⟩:=A;obtain⟨j,f,l,C,m,n⟩:=BE o;have r:z.cps.toList.length=z.length:=by simp[Str.length]
 rw[r]at f m n;have D:=sW;exact tail_any (typeIs_str s z t) slot_str_getitem.lookup (getItem_str (c:=c) (by
  have e1:decide (i< -(2 ^ 63:Int))=false:=fy ∅
  have k:decide (i ≥ 2 ^ 63)=false:=fy ∅
  rw[e1,k,Bool.or_false]) (by rw[f];simpa using l) ⟨.str ⟨#[c]⟩,H,I.tok _,⟨_,rfl⟩,q⟩) hs
theorem Tj(ae:au)(n j)(u):Obj.mapSeq (·.setIfInBounds j u) { cls:=.type "list",data:=.seq ae.toArray n }= { cls:=.type "list",data:=.seq (ae.set j u).toArray n }:=by
 simp[Obj.mapSeq]
theorem Inv.lst{s:Shared}{p:Addr}(I:Inv X pins σ H s)(h:H p=some (.lst xs)):
 ∃(ae:au) (n:Nat),Vals xs ae/\s.heap.get? p=some { cls:=.type "list",data:=.seq ae.toArray n }/\xs.length<=sizeLine:=by
 obtain⟨z,ae,n,r,e⟩:=I.av p _ h;exact⟨ae,n,r,e,z⟩
theorem Inv.qy{s:Shared}{p:Addr}{ae its':au}{n c:Nat}(I:Inv X pins σ H s)(h:H p=some (.lst xs))
 (i:s.heap.get? p=some { cls:=.type "list",data:=.seq ae.toArray n }) (d:f { cls:=.type "list",data:=.seq ae.toArray n }= { cls:=.type "list",data:=.seq its'.toArray c }) (r:Vals ys its') (hz:ys.length<=sizeLine) (t:Nat):
 Inv X pins σ (upd H p (.lst ys)) { s with heap:=s.heap.update p f,toks:=t }:=by
 have e:(s.heap.update p f).get? p=some { cls:=.type "list",data:=.seq its'.toArray c }:=by
  rw[Heap.get?_update_self f i (by rw[d]<;>rfl),d]
 refine I.write (x:=p) (e:=p) (by rw[h];trivial) (.inl rfl) (λb u g q=>(Heap.get?_update_other _ _ (cx g)).trans q) ⟨_,e⟩ ?_
 exact⟨hz,its',c,r,e⟩
noncomputable def qX:V->V->V->Hp->(Hp->Prop)->Prop:=λo i v H Q=>∃p c k j,o= .ref p/\i= .int k/\H p=some (.lst c)/\fT c.length k=some j/\Q (upd H p (.lst (c.set j v)))
theorem set_list:zv X qX:=by
 intro c s D H o i v J iv u Q I ro ri rv h;obtain⟨p,C,k,j,rfl,rfl,y,z,q⟩:=h;cases ro;obtain⟨t,rfl⟩:=ri;obtain⟨ae,n,r,g,A⟩:=I.lst y;obtain⟨d,E,w,x⟩:=Jq z;have f:=r.length;have F:=sW;have l:Inv X c D (upd H p (.lst (C.set j v))) { s with heap:=s.heap.update p (Obj.mapSeq (·.setIfInBounds j u)) }:=
  I.qy y g (Tj ae n j u) (r.set rv j) (by rw[List.length_set];exact A) s.toks
 by_cases m:0<=k
 . have e:k.toNat=j:=by
    rw[seqIndex_of m x]at d;exact eV d
   exact PySem.W.ki_setAt g m ∅ (by rw[eX,<-f];exact x) (by rw[e];exact⟨_,l,q⟩)
 . have e:(k+(ae.toArray.size:Int)).toNat=j:=by
    rw[seqIndex_neg ∅ w]at d
    rw[eX,<-f];exact eV d
   exact PySem.W.ki_setBack g ∅ (by rw[eX,<-f];exact w) ∅ (by rw[e];exact⟨_,l,q⟩)
theorem SW(lo hi:Option Int)(n):(sliceBounds lo hi none n).1=((HT.aJ n 0 lo:Nat):Int)/\(sliceBounds lo hi none n).2.1=((HT.aJ n n hi:Nat):Int)/\(sliceBounds lo hi none n).2.2=1:=by
 refine⟨?_,?_,rfl⟩
 . cases lo with
   |none=>simp[sliceBounds,HT.aJ]
   |some i=>
    simp only[sliceBounds,HT.aJ,Option.getD_none,show(1:Int) > 0 by decide,if_true]
    by_cases h:i<0
    . simp only[h,if_true]<;>lia
    . simp only[h,if_false]<;>lia
 . cases hi with
   |none=>simp[sliceBounds,HT.aJ]
   |some i=>
    simp only[sliceBounds,HT.aJ,Option.getD_none,show(1:Int) > 0 by decide,if_true]
    by_cases h:i<0
    . simp only[h,if_true]<;>lia
    . simp only[h,if_false]<;>lia
theorem SO(ae:au)(lo hi:Option Int):slicePick ae.toArray lo hi none=((ae.drop (HT.aJ ae.length 0 lo)).take (HT.aJ ae.length ae.length hi-HT.aJ ae.length 0 lo)).toArray:=by
 obtain⟨c,d,e⟩:=SW lo hi ae.toArray.size;unfold slicePick;rw[c,d,e];simp only[sliceRange_one,pick_run,eX]<;>rfl
noncomputable def Si (K:ah):V->Option Int->Option Int->Hp->VK->Prop:=λx lo hi H Q=>∃a c,x= .ref a/\c7 K H a c/\∀p,H p=none->Q (.ref p) (upd H p (.lst (nH c lo hi)))
theorem Wu:wK X (Si X.K):=by
 intro f s n H x v l m lo hi sl Q I k hs i j h;obtain⟨a,c,rfl,hx,q⟩:=h;cases k;obtain⟨ae,r,e,g⟩:=I.list hx;have d:=r.length;refine⟨"list",_,slot_list_getitem.lookup,e.isList.typeIs,?_⟩;refine wpAny_getItem_list_slice e.isList hs i j .none (by simp) ?_ (by rw[eX]<;>lia)
 rw[SO,<-d];refine⟨.ref s.heap.objs.size,_,I.laid (t':=s.toks) (o:=.lst (nH c lo hi)) (λb ob q=>bx _ q) (aD _) ?_,rfl,q _ (I.av.fresh (aD _))⟩
 exact⟨bQ (Hc c lo hi) g,_,0,(r.drop (HT.aJ c.length 0 lo)).take (HT.aJ c.length c.length hi-HT.aJ c.length 0 lo),c0 _ rfl⟩
theorem A0:cU X (.builtin "len") (λxs H Q=>∃p ys,xs= [.ref p]/\(c7 X.K H p ys∨bS X.K H p ys)/\Q (.int ys.length) H):=by
 intro pins s σ H xs us Q I r h;obtain⟨p,ys,rfl,hq,q⟩:=h;obtain⟨u,rfl,rx⟩:=vals1 r;cases rx;have hn:=sW;rcases hq with hq|hq
 . obtain⟨ae,r',pl,hz⟩:=I.list hq
   have hlen:=r'.length;exact Calls.call_len_list pl.isList (by simp only[eX]<;>lia) ⟨.int ys.length,H,I.tok _,⟨s.toks+1,by rw[eX,hlen]⟩,q⟩
 . obtain⟨ae,r',pl,hz⟩:=I.tuple hq
   have hlen:=r'.length;exact len_tuple pl (by simp only[eX]<;>lia) ⟨.int ys.length,H,I.tok _,⟨s.toks+1,by rw[eX,hlen]⟩,q⟩
theorem Td:cU X (.builtin "len") (λxs H Q=>∃z,xs= [.str z]/\z.length<=sizeLine/\Q (.int z.length) H):=by
 intro pins s σ H xs us Q I r h;obtain⟨z,rfl,hz,q⟩:=h;obtain⟨u,rfl,t,rfl⟩:=vals1 r;have hn:=sW;exact len_str ∅ ⟨.int z.length,H,I.tok _,⟨_,rfl⟩,q⟩
theorem AJ:cU X (.type "tuple") (λxs H Q=>∃p ys,xs= [.ref p]/\((c7 X.K H p ys/\∀l,H l=none->Q (.ref l) (upd H l (.tup ys)))∨(bS X.K H p ys/\Q (.ref p) H))):=by
 intro pins s σ H xs us Q I r h;obtain⟨p,ys,rfl,h⟩:=h;obtain⟨u,rfl,rx⟩:=vals1 r;cases rx;rcases h with⟨hq,q⟩|⟨hq,q⟩
 . obtain⟨ae,r',pl,hz⟩:=I.list hq
   have hlen:=r'.length;refine call_tuple_list pl.isList (λh' kp=>?_) (by simp only[eX]<;>lia)
   have I1:Inv X pins σ H { s with heap:=h' }:=I.kept (t':=s.toks) kp
   have I2:Inv X pins σ (upd H h'.objs.size (.tup ys)) { s with heap:=h'.push { cls:=.type "tuple",data:=.seq ae.toArray } }:=
    I1.laid (t':=s.toks) (λb o e=>bx _ e) (aD _) (show aB X.prog X.w _ _ _ (.tup ys)from⟨hz,ae,r',IsTup.new _ _⟩)
   exact⟨.ref h'.objs.size,_,I2,rfl,q _ (I1.av.fresh (aD _))⟩
 . obtain⟨ae,r',pl,hz⟩:=I.tuple hq
   exact call_tuple_same pl ⟨.ref p,H,I,rfl,q⟩
def PM(K:ah)(T:String)(x:V)(H:Hp):Prop:=match x with
 | .str _=>T= "str"
 | .int _=>T= "int"
 | .ref p=>(T= "list"/\∃d,c7 K H p d)∨(T= "tuple"/\∃o,K.lookup p=some o/\o.cls= .type "tuple"/\o.dict=none)∨
  (T= "dict"/\((∃c,H p=some (.dK c))∨∃c,H p=some (.dT c)))∨(T= "set"/\∃S n,H p=some (.set S n))
 |_=>False
theorem Yi{s:Shared}{T:String}{x:V}{v:Value}(I:Inv X pins σ H s)(r:RelV x v)(ty:PM X.K T x H):
 s.TypeIs v T/\∀a,v= .ref a->∃ob,s.heap.get? a=some ob/\ob.dict=none:=by
 cases x with
 |str z=>
  obtain⟨t,rfl⟩:=r;cases(show T= "str" from ty)
  exact⟨typeIs_str s z t,λ_ e=>nomatch e⟩
 |int i=>
  obtain⟨t,rfl⟩:=r;cases(show T= "int" from ty)
  exact⟨typeIs_int s i t,λ_ e=>nomatch e⟩
 |ref p=>
  cases r;rcases ty with⟨rfl,m,l⟩|⟨rfl,o,d,k,g⟩|⟨rfl,d⟩|⟨rfl,S,n,d⟩
  . obtain⟨ae,_,j,_⟩:=I.list l
    refine⟨j.isList.typeIs,λa e=>?_⟩
    cases e;obtain⟨o,n,e,c,g,_⟩:=j;exact⟨o,e,g⟩
  . refine⟨⟨o,I.dE p o d,k⟩,λa e=>?_⟩
    cases e;exact⟨o,I.dE _ o d,g⟩
  . have z:∃o,s.heap.get? p=some o/\o.ExactDict:=by
     rcases d with⟨h,d⟩|⟨h,d⟩
     . obtain⟨_,_,_,_,o,_,_,e,ex,_⟩:=I.av p _ d
       exact⟨o,e,ex⟩
     . obtain⟨_,_,_,_,o,_,_,e,ex,_⟩:=I.av p _ d
       exact⟨o,e,ex⟩
    obtain⟨o,e,ex⟩:=z;refine⟨⟨o,e,ex.1⟩,λa f=>?_⟩
    cases f;exact⟨o,e,ex.2.1⟩
  . obtain⟨o,_,_,_,e,ex,_⟩:=I.av p _ d
    refine⟨⟨o,e,ex.1⟩,λa f=>?_⟩
    cases f;exact⟨o,e,ex.2.1⟩
 |_=>exact False.elim ty
noncomputable def tBM (K:ah)(T:String)(r:V->LV->Hp->VK->Prop)(to:TE)(t:TA):TE:=λσ H Q=>to σ H λx H1=>PM K T x H1/\t σ H1 λxs H2=>r x xs H2 Q
variable {o e:Expr}{es:bc}{to:TE}{t:TA}{name:Str}{apos cpos:Pos}{T id:String}{r:V->LV->Hp->VK->Prop}
theorem Ln(C:PlainAttrs T)(j:Slot T name id)(k:typeOf (.builtin id)=pure (.type "method_descriptor"))(z:D2 X id r)(A:PE X o to)(y:PA X (e::es) t)
 (f:attributeBase o name X.env (eval o X.env)=eval o X.env:=by rfl)
 (i:((backTo cpos (starEach (e::es) X.env)).all (λx=>!x.1)&&(backToKw cpos (keywordEach [] X.env)).all (λx=>x.1.isSome)
  &&decide ((e::es).length+([]:List Keyword).length+(if([]:List Keyword).isEmpty then 0 else 1)<30))=true:=by rfl)
 (g:(apos.endLine==cpos.line)=true:=by rfl) (hs:starEach (e::es) X.env=(false,eval e X.env)::starEach es X.env:=by rfl) (d:(backTo cpos (starEach es X.env)).any (·.1)=false:=by rfl):
 PE X (.Call (.Attribute o name apos) (e::es) [] cpos) (tBM X.K T r to t):=by
 intro c s l H Q I h;refine wpAny_Call_method_late f i g rfl (ay (A c s l H _ I h) λv E J=>?_);obtain⟨x,H1,m,r1,ty,D⟩:=J
 obtain⟨u,w⟩:=Yi m r1 ty;refine⟨T,id,C,j,k,u,w,?_⟩;have n:=y cpos c E l H1 _ m D;rw[hs]at n ⊢;refine Calls.callWith_builtin (by show(false||(backTo cpos (starEach es X.env)).any (·.1))=false;rw[d]<;>rfl) (Calls.evalArgs_plain ?_)
 exact ay n λus F ⟨vs,H2,I2,r2,q2⟩=>z c F l H2 x vs v us Q I2 r1 r2 q2
end
def P0(X:Cx)(id:String)(r:V->LV->Hp->VK->Prop):Prop:=
 ∀a s c H x b v us Q,Inv X a c H s->RelV x v->Vals b us->r x b H Q->
  wpAny (model X.prog X.w) X.A (call (.builtin id) (v::us)) (EP X a c Q) X.xe s
theorem Vals.one:∀{x:V} {us:au},Vals [x] us->∃u,us= [u]/\RelV x u
 |_,_,.cons r .nil=>⟨_,rfl,r⟩
theorem Vals.rep{us:au}(h:Vals xs us):∀k:Nat,Vals (List.replicate k xs).flatten (List.replicate k us).flatten
 |0=>.nil
 |k+1=>by
  rw[um,um,zQ,zQ];exact Vals.append h (Vals.rep h k)
theorem foldl_rep(ae:au):∀(k:Nat) (acc:au),
 List.foldl (λx1 x2=>x1++x2) acc.toArray (List.replicate k ae.toArray)=(acc++(List.replicate k ae).flatten).toArray
 |0,acc=>by simp
 |k+1,acc=>by
  have e:acc.toArray++ae.toArray=(acc++ae).toArray:=by simp
  have e2:(acc++ae)++(List.replicate k ae).flatten=acc++(List.replicate (k+1) ae).flatten:=by
   rw[um,zQ,List.append_assoc]
  rw[<-e2,<-foldl_rep ae k (acc++ae),<-e,um,List.foldl_cons]
section
variable {X:Cx}{pins:aF}{σ:St}{H:Hp}{s:Shared}{l b:Addr}{xs ys zs:LV}
theorem Inv.AA{ae its':au}{n:Nat}(I:Inv X pins σ H s)(a:H l=some (.lst xs))
 (e:s.heap.get? l=some { cls:=.type "list",data:=.seq ae.toArray n }) (d:f ae.toArray=its'.toArray) (h:Vals ys its') (hz:ys.length<=sizeLine):
 Inv X pins σ (upd H l (.lst ys)) { s with heap:=s.heap.update l (Obj.mapSeq f),toks:=t' }:=by
 have q:=PySem.IsL.update e f;rw[d]at q;refine I.write (x:=l) (e:=l) (by rw[a];exact trivial) (.inl rfl) (λb' u c g=>(Heap.get?_update_other s.heap (Obj.mapSeq f) (cx c)).trans g) ⟨_,q⟩ ?_
 exact⟨hz,its',_,h,q⟩
theorem Inv.Az{ae:au}(I:Inv X pins σ H s)(a:Vals ys ae)(hz:ys.length<=sizeLine):
 Inv X pins σ (upd H s.heap.objs.size (.lst ys)) { s with heap:=s.heap.push { cls:=.type "list",data:=.seq ae.toArray },toks:=t' }:=
 I.laid (λ_ _ q=>bx _ q) (aD _) ⟨hz,ae,0,a,c0 _ rfl⟩
theorem Inv.fresh(I:Inv X pins σ H s):H s.heap.objs.size=none:=I.av.fresh (aD _)
theorem Inv.uJ(I:Inv X pins σ H s)(a:H l=some (.lst xs)):xs.length<=sizeLine/\∃(ae:au) (n:Nat),Vals xs ae/\xs.length=ae.length/\s.heap.get? l=some { cls:=.type "list",data:=.seq ae.toArray n }:=by
 obtain⟨z,ae,n,r,e⟩:=I.av l _ a;exact⟨z,ae,n,r,r.length,e⟩
theorem Vi{n:Nat}(h:n<=sizeLine):Builtin.List.listTooLong n=false:=by
 unfold Builtin.List.listTooLong;exact fy ∅
end
section
variable {X:Cx}
noncomputable def WW:V->LV->Hp->VK->Prop:=λx vs H Q=>∃l a y,x= .ref l/\vs= [y]/\H l=some (.lst a)/\a.length<sizeLine/\Q .aw (upd H l (.lst (a++ [y])))
theorem Uy:P0 X "list.append" WW:=by
 intro b s i H x vs v us Q I c rv h;obtain⟨l,g,y,rfl,rfl,a,f,q⟩:=h;cases c;obtain⟨u,rfl,ru⟩:=rv.one;obtain⟨z,ae,n,r,d,e⟩:=I.uJ a;refine call_meets F.slot_list_append ⟨_,e,rfl⟩ F.entry_list_append (F.args_list_append_2 _ _) (PySem.list_append l ae.toArray n u (by rw[eX];lia)) ⟨e,?_⟩
 refine⟨.aw,_,I.AA (its':=ae++ [u]) a e (by simp) (r.append (.cons ru .nil)) ?_,rfl,q⟩
 rw[fF,List.length_singleton];lia
noncomputable def Sj:R2:=λx y H Q=>∃l k a,x= .ref l/\y= .int k/\H l=some (.lst a)/\-(2 ^ 63)<=k/\k<2 ^ 63/\a.length*k.toNat<=sizeLine/\
 ∀p,H p=none->Q (.ref p) (upd H p (.lst (List.replicate k.toNat a).flatten))
theorem len_rep(xs:List α)(k):(List.replicate k xs).flatten.length=k*xs.length:=by
 induction k with
 |zero=>simp
 |succ k ih=>rw[um,zQ,fF,ih,Nat.succ_mul,Nat.add_comm]
theorem YC:dw X (binaryOp .Mult) Sj:=by
 intro pins s σ H x y v u Q I rx ry h;obtain⟨l,k,xs,rfl,rfl,hH,h1,h2,hz,q⟩:=h;cases rx;obtain⟨t,rfl⟩:=ry;obtain⟨z,ae,n,r,hl,e⟩:=I.uJ hH;have hlen:ae.toArray.size*k.toNat<=sizeLine:=by rw[eX,<-hl];exact hz
 have hcap:¬ae.toArray.size*k.toNat > (2 ^ 63-1) / 8:=by
  have:(sizeLine:Nat)<=(2 ^ 63-1) / 8:=by decide
  lia
 have hfit:¬(!Builtin.List.listFitsIndex k)=true:=by
  rw[fitsIndex_both h1 h2];exact iI
 have hlong:¬Builtin.List.listTooLong (ae.toArray.size*k.toNat)=true:=by
  rw[Vi hlen];exact iI
 have hnew:List.foldl (λx1 x2=>x1++x2) #[] (List.replicate (if ae.toArray.isEmpty=true then 0 else k.toNat) ae.toArray)=(List.replicate k.toNat ae).flatten.toArray:=by
  have f0:∀m:Nat,List.foldl (λx1 x2=>x1++x2) #[] (List.replicate m ae.toArray)=(List.replicate m ae).flatten.toArray:=λm=>by
   have:=foldl_rep ae m [];rw[kL]at this;exact this
  rw[f0];cases ae with
  |nil=>simp
  |cons a r'=>rw[ab (by simp)]
 refine wpAny_binaryOp_repeat_ref (T:="list") (U:="int") ⋯ ⟨_,e,rfl⟩ (λs'=>typeIs_int s' k t) noFill_list_mul F.fills_int_mul F.slot_int_rmul repeat_list F.slot_int_index.lookup
  (call_meets F.slot_int_rmul (typeIs_int s k t) F.entry_int_rmul (F.args_int_rmul_2 _ _) (int___rmul___int_list k t l ae.toArray n)
   ⟨e,rfl,⟨_,e,rfl⟩,call_meets F.slot_list_mul ⟨_,e,rfl⟩ F.entry_list_mul (F.args_list_mul_2 _ _) (AutoListH.list___mul___list_int_3 l ae.toArray n k t hfit hcap hlong) ⟨e,?_⟩⟩)
 rw[hnew];exact⟨.ref _,_,I.Az (t':=s.toks) (r.rep k.toNat) (by rw[len_rep,Nat.mul_comm];exact hz),rfl,q _ I.fresh⟩
end
section
variable {κ:Type}[DecidableEq κ]
noncomputable def gf (kvs:List (κ×V))(k:κ):Option V:=(kvs.find? λkv=>decide (kv.1=k)).map (·.2)
noncomputable def putK (kvs:List (κ×V))(k:κ)(v:V):List (κ×V):=
 if(kvs.any λkv=>decide (kv.1=k))=true then kvs.map (λkv=>if kv.1=k then(kv.1,v)else kv)else kvs++ [(k,v)]
noncomputable def jR (kvs:List (κ×V))(k:κ):List (κ×V):=kvs.filter λkv=>decide (kv.1≠k)
theorem uS{p:κ×V}(e:p.1=k):gf (p::r) k=some p.2:=by simp[gf,mM,e]
theorem qD{p:κ×V}(e:¬p.1=k):gf (p::r) k=gf r k:=by simp[gf,mM,e]
theorem HS(k:κ):∀kvs:List (κ×V),(kvs.any λkv=>decide (kv.1=k))=(gf kvs k).isSome
 | []=>rfl
 |p::r=>by
  rw[kN]
  by_cases e:p.1=k
  . simp only[uS e,cu e,Bool.true_or,Option.isSome_some]
  . rw[qD e,fy e,Bool.false_or];exact HS k r
theorem GI(kvs:List (κ×V))(k:κ)(v):(putK kvs k v).length<=kvs.length+1:=by
 unfold putK;split
 . rw[aW];lia
 . rw[fF,bW,List.length_nil];lia
theorem bM.bh(r:bM o u):o.isSome=u.isSome:=by
 cases o with
 |none=>cases u with
  |none=>rfl
  |some _=>exact(show False from r).elim
 |some _=>cases u with
  |none=>exact(show False from r).elim
  |some _=>rfl
theorem bM.getD(r:bM o u)(rd:RelV d d'):RelV (o.getD d) (u.getD d'):=by
 cases o with
 |none=>cases u with
  |none=>exact rd
  |some _=>exact(show False from r).elim
 |some _=>cases u with
  |none=>exact(show False from r).elim
  |some _=>exact r
theorem KV.val{vs:List (κ×Value)}(r:KV kvs vs)(k:κ):bM (gf kvs k) (valueAt vs k):=by
 unfold KV at r
 induction r with
 |nil=>exact True.intro
 | @cons p q ps qs h t ih=>
  obtain⟨c,d⟩:=h
  by_cases e:p.1=k
  . have a:q.1=k:=c.symm.trans e
    have b:valueAt (q::qs) k=some q.2:=by simp[valueAt,mM,a]
    rw[uS e,b];exact d
  . have a:¬q.1=k:=λz=>e (c.trans z)
    have b:valueAt (q::qs) k=valueAt qs k:=by simp[valueAt,mM,a]
    rw[qD e,b];exact ih
theorem KV.any{vs:List (κ×Value)}(r:KV kvs vs)(k:κ):(kvs.any λkv=>decide (kv.1=k))=vs.any λkv=>decide (kv.1=k):=by
 unfold KV at r
 induction r with
 |nil=>rfl
 |cons h t ih=>rw[kN,kN,ih,h.1]
theorem KV.rK{vs:List (κ×Value)}(r:KV kvs vs)(k:κ)(ry:RelV y u):
 KV (kvs.map λkv=>if kv.1=k then(kv.1,y)else kv) (vs.map λkv=>if kv.1=k then(kv.1,u)else kv):=by
 unfold KV at r ⊢
 induction r with
 |nil=>exact .nil
 | @cons p q ps qs h t ih=>
  rw[bX,bX];refine .cons ?_ ih;obtain⟨h1,h2⟩:=h
  by_cases e:p.1=k
  . rw[ag e,ag (h1.symm.trans e)];exact⟨h1,ry⟩
  . rw[ab e,ab (λz=>e (h1.trans z))];exact⟨h1,h2⟩
theorem KV.put{vs:List (κ×Value)}(r:KV kvs vs)(k:κ)(ry:RelV y u):KV (putK kvs k y) (stored vs k u):=by
 unfold putK stored;rw[r.any k]
 by_cases e:(vs.any λkv=>decide (kv.1=k))=true
 . rw[ag e,ag e];exact r.rK k ry
 . rw[ab e,ab e];exact Paired.snoc r ⟨rfl,ry⟩
theorem KV.drop{vs:List (κ×Value)}(r:KV kvs vs)(k:κ):KV (jR kvs k) (without vs k):=by
 unfold KV at r ⊢;unfold jR without
 induction r with
 |nil=>exact .nil
 | @cons p q ps qs h t ih=>
  obtain⟨c,f⟩:=h;rw[ju,ju]
  by_cases e:p.1=k
  . have a:¬decide (p.1≠k)=true:=by simp[e]
    have b:¬decide (q.1≠k)=true:=by simp[c.symm.trans e]
    rw[ab a,ab b];exact ih
  . have d:¬q.1=k:=λz=>e (c.trans z)
    have a:decide (p.1≠k)=true:=by simp[e]
    have b:decide (q.1≠k)=true:=by simp[d]
    rw[ag a,ag b];exact .cons ⟨c,f⟩ ih
theorem KV.length{vs:List (κ×Value)}(r:KV kvs vs):kvs.length=vs.length:=Paired.length r
theorem VU(kvs:List (κ×V))(k:κ):(jR kvs k).length<=kvs.length:=jY _ _
end
theorem jm{P:Program}(r:RelV (kV k) u):(cZ P w).is k u=true:=by
 cases k with
 |inl i=>obtain⟨t,e⟩:=(show ∃t,u=Value.int i t from r);subst e;exact S3 P w i t
 |inr x=>obtain⟨t,e⟩:=(show ∃t,u=Value.str x t from r);subst e;exact GP P w x t
theorem qv2{P:Program}(r:RelV (oV k) u):(optKind P w).is k u=true:=by
 cases k with
 |none=>cases(show u=Value.none from r);rfl
 |some j=>exact jm (P:=P) (w:=w) r
theorem Hh{P:Program}:∀{ks:List bG} {us:au},Vals (ks.map oV) us->ItemsAre (optKind P w) ks us
 | [],_,r=>by rw[ui]at r;cases r;exact .nil
 |k::ks,_,r=>by
  rw[bX]at r;cases r with
  |cons h t=>exact .cons (qv2 h) (Hh t)
abbrev KT(H:Hp):List (List bG×V)->List (List bG×Addr×Value)->Prop:=Paired λp q=>p.1=q.1/\H q.2.1=some (.tup (p.1.map oV))/\RelV p.2 q.2.2
theorem KT.val(r:KT H kvs xs)(k:List bG):bM (gf kvs k) ((atKey xs k).map (·.2)):=by
 induction r with
 |nil=>exact True.intro
 | @cons p q ps qs h t ih=>
  obtain⟨c,_,d⟩:=h
  by_cases e:p.1=k
  . have a:q.1=k:=c.symm.trans e
    have b:atKey (q::qs) k=some q.2:=by simp[atKey,mM,a]
    rw[uS e,b];exact d
  . have a:¬q.1=k:=λz=>e (c.trans z)
    have b:atKey (q::qs) k=atKey qs k:=by simp[atKey,mM,a]
    rw[qD e,b];exact ih
theorem KT.rK(r:KT H kvs xs)(k:List bG)(ry:RelV y u):
 KT H (kvs.map λkv=>if kv.1=k then(kv.1,y)else kv) (xs.map (putAt k u)):=by
 induction r with
 |nil=>exact .nil
 | @cons p q ps qs h t ih=>
  rw[bX,bX];refine .cons ?_ ih;obtain⟨h1,h2,h3⟩:=h;unfold putAt
  by_cases e:p.1=k
  . rw[ag e,ag (h1.symm.trans e)];exact⟨h1,h2,ry⟩
  . rw[ab e,ab (λz=>e (h1.trans z))];exact⟨h1,h2,h3⟩
theorem KT.put(r:KT H kvs xs)(k:List bG){b:Addr}(hb:H b=some (.tup (k.map oV)))(ry:RelV y u):
 KT H (putK kvs k y) (storedH xs k b u):=by
 have e:(kvs.any λkv=>decide (kv.1=k))=(atKey xs k).isSome:=by
  rw[HS,(r.val k).bh,rV]
 unfold putK storedH;rw[e]
 by_cases q:(atKey xs k).isSome=true
 . rw[ag q,ag q];exact r.rK k ry
 . rw[ab q,ab q];exact Paired.snoc r ⟨rfl,hb,ry⟩
theorem KT.keeps(r:KT H kvs xs)(c:∀b a,H b=some (.tup a)->H' b=some (.tup a)):KT H' kvs xs:=
 Paired.qz r λ_ _ z=>⟨z.1,c _ _ z.2.1,z.2.2⟩
section
variable {P:Program}{w:World}{H:Hp}{h:Heap}{a:Addr}
theorem K7(ok:cX P w H h)(e:Rd H a u):aB P w H h a u:=e.ok ok
theorem mm(b:cX P w H h)(e:Rd H a (.dK kvs)):kvs.length<=sizeLine/\(a==sysModules)=false/\∃vs,KV kvs vs/\h.DictOf (cZ P w) a vs:=
 show aB P w H h a (.dK kvs)from K7 b e
theorem LH(b:cX P w H h)(e:H a=some (.dK kvs)):kvs.length<=sizeLine/\(a==sysModules)=false/\∃vs,KV kvs vs/\h.DictOf (cZ P w) a vs:=mm b (.inl e)
theorem nh{ks:List bG}(f:cX P w H h)(e:H a=some (.tup (ks.map oV))):(tupleKind (optKind P w)).is h ks a:=by
 obtain⟨_,ae,r,o,b,c,n,d⟩:=(show aB P w H h a (.tup (ks.map oV))from f a _ e)
 exact⟨o,ae.toArray,n,b,c,d,by simpa using Hh r⟩
theorem nq(d:cX P w H h)(e:Rd H a (.dT kvs)):kvs.length<=sizeLine/\(a==sysModules)=false/\
 ∃b,KT H kvs b/\h.DictOfH (tupleKind (optKind P w)) a b:=by
 obtain⟨z,y,b,r,o,g,f,i,j,k,n,s⟩:=(show aB P w H h a (.dT kvs)from K7 d e)
 refine⟨z,y,b,r,o,g,f,i,j,k,n,λx hx=>?_,s⟩
 have c:∀{l:List (List bG×V)} {m:List (List bG×Addr×Value)},KT H l m->∀x∈m,(tupleKind (optKind P w)).is h x.1 x.2.1:=by
  intro l m q
  induction q with
  |nil=>intro x hx;exact nomatch hx
  | @cons p q ps qs hq t ih=>
   intro x hx;rcases fC.mp hx with e|hx
   . subst e
     exact nh d (by rw[<-hq.1];exact hq.2.1)
   . exact ih x hx
 exact c r x hx
theorem CV(c:cX P w H h)(e:H a=some (.dT kvs)):kvs.length<=sizeLine/\(a==sysModules)=false/\
 ∃b,KT H kvs b/\h.DictOfH (tupleKind (optKind P w)) a b:=nq c (.inl e)
end
def bL(H:Hp)(a:Addr)(y:V)(r:Option V):Prop:=
 (∃c k,Rd H a (.dK c)/\y=kV k/\r=gf c k)∨∃c k b,Rd H a (.dT c)/\y= .ref b/\H b=some (.tup (k.map oV))/\r=gf c k
def fG(H:Hp)(a:Addr)(y v:V)(d:Hp):Prop:=
 (∃c k,H a=some (.dK c)/\y=kV k/\c.length<sizeLine/\d=upd H a (.dK (putK c k v)))∨
 ∃c k b,H a=some (.dT c)/\y= .ref b/\H b=some (.tup (k.map oV))/\c.length<sizeLine/\d=upd H a (.dT (putK c k v))
theorem bL.k{H:Hp}{a:Addr}{kvs:List (Key×V)}{k:Key}(e:H a=some (.dK kvs)):bL H a (kV k) (gf kvs k):=.inl ⟨kvs,k,.inl e,rfl,rfl⟩
theorem bL.t{a b:Addr}{k:List bG}(e:H a=some (.dT kvs))(c:H b=some (.tup (k.map oV))):bL H a (.ref b) (gf kvs k):=.inr ⟨kvs,k,b,.inl e,rfl,c,rfl⟩
theorem fG.k{H:Hp}{a:Addr}{kvs:List (Key×V)}{k:Key}{v:V}(e:H a=some (.dK kvs))(b:kvs.length<sizeLine):fG H a (kV k) v (upd H a (.dK (putK kvs k v))):=.inl ⟨kvs,k,e,rfl,b,rfl⟩
theorem fG.t{a b:Addr}{k:List bG}{v:V}(e:H a=some (.dT kvs))(c:H b=some (.tup (k.map oV)))(d:kvs.length<sizeLine):
 fG H a (.ref b) v (upd H a (.dT (putK kvs k v))):=.inr ⟨kvs,k,b,e,rfl,c,d,rfl⟩
section
variable {X:Cx}{pins:aF}{σ:St}{H:Hp}{s:Shared}{a:Addr}{y v:V}{u r:Value}{o:Option V}{A:Around}{E:aK}
theorem Inv.big(I:Inv X pins σ H s):sysModules<s.heap.objs.size:=by
 have h:mainGlobals<s.heap.objs.size:=(I.mod.glob.keeps I.bk).lt;exact gn ⋯ h
theorem UL(F:A.units+1<cLine)(I:Inv X pins σ H s)(g:bL H a y (some v))(t:RelV y u)(h:∀f w,Inv X pins σ H w->RelV v f->Q f w):
 wpAny (model X.prog X.w) A (getItem (.ref a) u) Q E s:=by
 rcases g with⟨n,k,e,i,l⟩|⟨n,k,b,e,i,x,l⟩
 . subst i
   obtain⟨z,C,vs,c,dd⟩:=mm I.av e;obtain⟨f,m,d⟩:=bM.some_of (v:=v) (o:=valueAt vs k) (by rw[l];exact c.val k)
   exact wpAny_getItem_of (jm t) dd.mapOf m (h f _ (I.tok _) d)
 . subst i
   cases(show u=Value.ref b from t)
   obtain⟨z,C,J,c,dd⟩:=nq I.av e;obtain⟨f,m,d⟩:=bM.some_of (v:=v) (o:=(atKey J k).map (·.2)) (by rw[l];exact c.val k)
   obtain⟨p,D,j⟩:=nM.mp m;refine wpAny_getItem_heap (tupleKind_room_in1 F) (nh I.av x) dd D ?_;rw[j];exact h f _ (I.tok _) d
theorem Rr(t:A.units+1<cLine)(I:Inv X pins σ H s)(g:bL H a y o)(j:RelV y u)(h:∀m,Inv X pins σ H m->Q (.bool o.isSome) m):
 wpAny (model X.prog X.w) A (compareOp .In u (.ref a)) Q E s:=by
 rcases g with⟨i,k,e,d,l⟩|⟨i,k,b,e,d,n,l⟩
 . subst d
   obtain⟨z,f,vs,c,dd⟩:=mm I.av e;refine wpAny_in_of (jm j) f dd.mapOf ?_;rw[<-(c.val k).bh,<-l];exact h _ (I.tok _)
 . subst d
   cases(show u=Value.ref b from j)
   obtain⟨z,f,w,c,dd⟩:=nq I.av e;refine wpAny_in_heap (tupleKind_room_in1 t) (nh I.av n) f dd ?_;have q:=(c.val k).bh;rw[rV]at q;rw[<-q,<-l];exact h _ (I.tok _)
theorem Xz(t:A.units+1<cLine)(I:Inv X pins σ H s)(g:bL H a y o)(j:RelV y u)(h:∀m,Inv X pins σ H m->Q (.bool (!o.isSome)) m):
 wpAny (model X.prog X.w) A (compareOp .NotIn u (.ref a)) Q E s:=by
 rcases g with⟨i,k,e,d,l⟩|⟨i,k,b,e,d,n,l⟩
 . subst d
   obtain⟨z,f,vs,c,dd⟩:=mm I.av e;refine wpAny_notIn_of (jm j) f dd.mapOf ?_;rw[<-(c.val k).bh,<-l];exact h _ (I.tok _)
 . subst d
   cases(show u=Value.ref b from j)
   obtain⟨z,f,w,c,dd⟩:=nq I.av e;refine wpAny_notIn_heap (tupleKind_room_in1 t) (nh I.av n) f dd ?_;have q:=(c.val k).bh;rw[rV]at q;rw[<-q,<-l];exact h _ (I.tok _)
theorem yC{ob:HO}(I:Inv X pins σ H s)(g:ur (H a))(hs:Heap.SameBut a s.heap h')(f:∃q,h'.get? a=some q)(c:aB X.prog X.w (upd H a ob) h' a ob):
 Inv X pins σ (upd H a ob) { s with heap:=h',toks:=t' }:=
 I.write (x:=a) (e:=a) g (.inl rfl) (λb q d z=>(hs.2 b d).trans z) f c
theorem KU{P:Program}{h':Heap}{kvs:List (Key×V)}{vs:List (Key×Value)}(z:kvs.length<=sizeLine)(c:(a==sysModules)=false)(b:KV kvs vs)(dd:h'.DictOf (cZ P w) a vs):
 aB P w H' h' a (.dK kvs):=⟨z,c,vs,b,dd⟩
theorem UK{Q:Unit->Shared->Prop}(hu:A.units+1<cLine)(I:Inv X pins σ H s)(g:fG H a y v H')(ry:RelV y u)(rv:RelV v r)(h:∀s',Inv X pins σ H' s'->Q () s'):
 wpAny (model X.prog X.w) A (setItem (.ref a) u r) Q E s:=by
 rcases g with⟨kvs,k,e,ey,l,eH⟩|⟨kvs,k,b,e,ey,eb,l,eH⟩
 . subst ey eH
   obtain⟨z,hd,vs,rel,dd⟩:=LH I.av e;have hz:vs.length<=sizeLine:=by rw[<-rel.length];exact z
   have hl:(putK kvs k v).length<=sizeLine:=by have:=GI kvs k v;lia
   refine wpAny_setItem_pairs (hsz:=hz) (jm ry) dd λh' dd' hs=>h _ ?_
   have he:∃q,h'.get? a=some q:=let⟨q,_,_,hq,_⟩:=dd';⟨q,hq⟩;exact yC I (by rw[e];exact True.intro) hs he (KU hl hd (rel.put k rv) dd')
 . subst ey eH
   cases(show u=Value.ref b from ry)
   obtain⟨z,hd,xs,rel,dd⟩:=CV I.av e;have hz:xs.length<=sizeLine:=by rw[<-Paired.length rel];exact z
   have hl:(putK kvs k v).length<=sizeLine:=by have:=GI kvs k v;lia
   refine wpAny_setItem_heap (hsz:=hz) (tupleKind_room_in1 hu) (nh I.av eb) dd λh' dd' hs=>h _ ?_
   obtain⟨q,es,ep,hq,h2,h3,h4,_,h5⟩:=dd';refine yC I (by rw[e];exact True.intro) hs ⟨q,hq⟩ ⟨hl,hd,_,(rel.put k eb rv).keeps λc ys ec=>?_,q,es,ep,hq,h2,h3,h4,h5⟩
   rw[aZ (Lj ec e (λz=>nomatch z))]
   exact ec
end
section
variable {X:Cx}{pins:aF}{σ:St}{H:Hp}{s:Shared}{a:Addr}{kvs:List (Key×V)}{k:Key}{u:Value}{A:Around}{E:aK}
theorem UM{Q:Unit->Shared->Prop}(I:Inv X pins σ H s)(e:H a=some (.dK kvs))(ry:RelV (kV k) u)(l:(gf kvs k).isSome=true)(h:∀s',Inv X pins σ (upd H a (.dK (jR kvs k))) s'->Q () s'):
 wpAny (model X.prog X.w) A (delItem (.ref a) u) Q E s:=by
 obtain⟨z,hd,vs,rel,dd⟩:=LH I.av e;refine wpAny_delItem_slot dd.typeIs ⋯ PySem.F.slot_dict_delitem
  (call_meetsIn PySem.F.slot_dict_delitem dd.typeIs PySem.F.entry_dict_delitem (PySem.F.args_dict_delitem_2 _ _) (meets_dict_delitem_pairs (cZ X.prog X.w) a (jm ry)) ⟨vs,dd,by rw[<-rel.length];exact z,by rw[<-(rel.val k).bh];exact l,λh' dd' hs=>h _ ?_⟩)
 have he:∃q,h'.get? a=some q:=let⟨q,_,_,hq,_⟩:=dd';⟨q,hq⟩;exact yC I (by rw[e];exact True.intro) hs he (KU (bQ (VU kvs k) z) hd (rel.drop k) dd')
theorem qwE(I:Inv X pins σ H s)(e:Rd H a (.dK kvs))(h:∀t c,Inv X pins σ H c->Q (.int kvs.length t) c):wpAny (model X.prog X.w) A (call (.builtin "len") [.ref a]) Q E s:=by
 obtain⟨z,d,vs,b,dd⟩:=mm I.av e;refine call_len_dict d dd (by rw[<-b.length];rw[sizeLine_eq]at z;lia) ?_
 rw[<-b.length];exact h _ _ (I.tok _)
end
def zw(i:Expr):Prop:=∀a iv,subscripted i false a iv=operate [a,iv] (getItem a iv)
theorem IZ{s:Shared}{env:Env}{T id:String}
 (j:typeLookup (.type T) "__getitem__" =pure (some (.builtin id))) (hs:zw slice)
 (h:wpAny (model prog w) A (eval value env) (λo c=>wpAny (model prog w) A (eval slice env) (λi a=>a.TypeIs o T/\wpAny (model prog w) A (getItem o i) Q E a) E c) E s):
 wpAny (model prog w) A (eval (.Subscript value slice pos) env) Q E s:=by
 refine Subscript_ (gQ h (λo c e=>gQ e (λi a b=>?_) λ_ _ x=>x) λ_ _ x=>x)
 obtain⟨g,b⟩:=b;unfold subscriptTail;refine ai ?_;rw[getitemInPython_of_ne g.not_modules];refine ai (wpAny_specialOf g j ?_);have fin:wpAny (model prog w) A (subscripted slice false o i) (λr d=>wpAny (model prog w) A (letTemporaryGo value o r >>= λ_=>pure r) Q E d) E a:=by
  rw[hs o i];exact wpAny_operating (gQ b (λr d f=>ai (wpAny_letTemporaryGo (aC f))) λ_ _ x=>x)
 first
  |exact aC (ai fin)
  |exact ai (aC (ai fin))
  |exact ai fin
theorem Tc{s:Shared}{a:Addr}(I:Inv X pins σ H s)(g:bL H a y o):s.TypeIs (.ref a) "dict":=by
 rcases g with⟨c,k,e,_,_⟩|⟨c,k,b,e,_,_,_⟩
 . obtain⟨_,_,vs,_,dd⟩:=mm I.av e
   exact dd.typeIs
 . obtain⟨_,_,d,_,dd⟩:=nq I.av e
   exact dd.typeIs
def quO(td ty:TE):TE:=λσ H Q=>td σ H λx H1=>ty σ H1 λy H2=>∃a v,x= .ref a/\bL H2 a y (some v)/\Q v H2
def Rg(ty td:TE):TE:=λσ H Q=>ty σ H λy H1=>td σ H1 λx H2=>∃a o,x= .ref a/\bL H2 a y o/\Q (.bl o.isSome) H2
def Wr(ty td:TE):TE:=λσ H Q=>ty σ H λy H1=>td σ H1 λx H2=>∃a o,x= .ref a/\bL H2 a y o/\Q (.bl (!o.isSome)) H2
def ZV(f ty g:TE):TS:=λD b H=>g b H λv H1=>f b H1 λx d=>ty b d λy e=>∃a c,x= .ref a/\fG e a y v c/\D.nx b c
section
variable {X:Cx}{o i e value:Expr}{pos pos' tpos:Pos}{td ty tv:TE}
theorem Xd(m:X.A.units+1<cLine)(l:PE X o td)(hi:PE X i ty)(hs:zw i):PE X (.Subscript o i pos) (quO td ty):=by
 intro b s f H Q I h;refine IZ PySem.F.slot_dict_getitem.lookup hs (ay (l b s f H _ I h) λu t ⟨x,H1,I1,rx,q1⟩=>ay (hi b t f H1 _ I1 q1) λiv z w=>?_);obtain⟨y,j,d,r,a,v,ex,g,n⟩:=w
 subst ex;obtain rfl:u=Value.ref a:=rx;exact⟨Tc d g,UL m d g r λw' A k c=>⟨v,j,k,c,n⟩⟩
theorem J3(l:X.A.units+1<cLine)(hi:PE X i ty)(k:PE X o td):PC X .In i o (Rg ty td):=by
 intro b s c H Q I h;refine ay (hi b s c H _ I h) λiv t ⟨y,H1,I1,ry,q1⟩=>ay (k b t c H1 _ I1 q1) λu w v=>?_;obtain⟨x,d,f,r,a,m,ex,g,n⟩:=v
 subst ex;obtain rfl:u=Value.ref a:=r;exact Rr l f g ry λs3 j=>⟨.bl m.isSome,d,j,rfl,n⟩
theorem HG(l:X.A.units+1<cLine)(hi:PE X i ty)(k:PE X o td):PC X .NotIn i o (Wr ty td):=by
 intro b s c H Q I h;refine ay (hi b s c H _ I h) λiv t ⟨y,H1,I1,ry,q1⟩=>ay (k b t c H1 _ I1 q1) λu w v=>?_;obtain⟨x,d,f,r,a,m,ex,g,n⟩:=v
 subst ex;obtain rfl:u=Value.ref a:=r;exact Xz l f g ry λs3 j=>⟨.bl (!m.isSome),d,j,rfl,n⟩
theorem W5(l:X.A.units+1<cLine)(k:PE X o td)(hi:PE X i ty)(m:PE X value tv)(hs:swapsWith value (some (.Subscript o i pos')) pos.line X.env=pure false):
 PS X (.Assign [.Subscript o i pos'] value pos) (ZV td ty tv):=by
 intro b s c H D I h;refine wpAny_Assign_Subscript (ay (m b s c H _ I h) λr t ⟨v,H1,I1,rv,q1⟩=>ay (k b t c H1 _ I1 q1) λu w ⟨x,H2,I2,rx,q2⟩=>ay (hi b w c H2 _ I2 q2) λiv C z=>?_) hs;obtain⟨y,A,f,r,a,d,ex,g,n⟩:=z
 subst ex;obtain rfl:u=Value.ref a:=rx;exact UK l f g r rv λs4 j=>⟨c,d,j,n⟩
end
theorem VV{P:Program}(h:Heap)(a:sysModules<h.objs.size):aB P w H (h.push { cls:=.type "dict",data:=.dict #[] }) h.objs.size (.dK []):=
 ⟨j3 _,nQ.mpr (cx (cE a)),[],.nil,Heap.DictOf.new h⟩
theorem VT{P:Program}(h:Heap)(a:sysModules<h.objs.size):aB P w H (h.push { cls:=.type "dict",data:=.dict #[] }) h.objs.size (.dT []):=
 ⟨j3 _,nQ.mpr (cx (cE a)),[],.nil,_,#[],0,c0 _ rfl,⟨rfl,rfl,rfl⟩,rfl,rfl,mP⟩
def Ym:TE:=λ_ H Q=>∀p,H p=none->Q (.ref p) (upd H p (.dK []))
def Yl:TE:=λ_ H Q=>∀p,H p=none->Q (.ref p) (upd H p (.dT []))
section
variable {X:Cx}{pos:Pos}
theorem U8:PE X (.Dict [] [] pos) Ym:=λpins s b H Q I h=>
 wpAny_Dict_empty ⟨.ref s.heap.objs.size,_,I.laid (a:=s.heap.objs.size) (o:=.dK []) (t':=s.toks) (λ_ _ q=>bx _ q) (aD _) (VV s.heap I.big),rfl,h _ (I.av.fresh (aD _))⟩
theorem U7:PE X (.Dict [] [] pos) Yl:=λpins s b H Q I h=>
 wpAny_Dict_empty ⟨.ref s.heap.objs.size,_,I.laid (a:=s.heap.objs.size) (o:=.dT []) (t':=s.toks) (λ_ _ q=>bx _ q) (aD _) (VT s.heap I.big),rfl,h _ (I.av.fresh (aD _))⟩
end
structure M1(X:Cx)(o:Expr)(m:Str)(apos:Pos)(e:Expr)(cpos:Pos):Prop where
 base:attributeBase o m X.env (eval o X.env)=eval o X.env
 mU:((backTo cpos (starEach [e] X.env)).all (λx=>!x.1)&&(backToKw cpos (keywordEach [] X.env)).all (λx=>x.1.isSome)
  &&decide (([e]:bc).length+([]:List Keyword).length+(if([]:List Keyword).isEmpty then 0 else 1)<30))=true
 line:(apos.endLine==cpos.line)=true
 trees:backTo cpos (starEach [e] X.env)= [(false,eval e X.env)]
structure M2(X:Cx)(o:Expr)(m:Str)(apos:Pos)(e f:Expr)(cpos:Pos):Prop where
 base:attributeBase o m X.env (eval o X.env)=eval o X.env
 mU:((backTo cpos (starEach [e,f] X.env)).all (λx=>!x.1)&&(backToKw cpos (keywordEach [] X.env)).all (λx=>x.1.isSome)
  &&decide (([e,f]:bc).length+([]:List Keyword).length+(if([]:List Keyword).isEmpty then 0 else 1)<30))=true
 line:(apos.endLine==cpos.line)=true
 trees:backTo cpos (starEach [e,f] X.env)= [(false,eval e X.env),(false,eval f X.env)]
def wD(H:Hp)(a:Addr):Prop:=(∃b,Rd H a (.dK b))∨∃b,Rd H a (.dT b)
theorem KI{s:Shared}{a:Addr}(I:Inv X pins σ H s)(d:wD H a):
 s.TypeIs (.ref a) "dict"/\(∀b,Value.ref a= .ref b->∃ob,s.heap.get? b=some ob/\ob.dict=none)/\(a==sysModules)=false:=by
 rcases d with⟨h,e⟩|⟨h,e⟩
 . obtain⟨_,g,vs,_,dd⟩:=mm I.av e
   refine⟨dd.typeIs,λb q=>?_,g⟩
   cases q;obtain⟨ob,_,_,c,f,_⟩:=dd;exact⟨ob,c,f.2.1⟩
 . obtain⟨_,g,i,_,dd⟩:=nq I.av e
   refine⟨dd.typeIs,λb q=>?_,g⟩
   cases q;obtain⟨ob,_,_,c,f,_⟩:=dd;exact⟨ob,c,f.2.1⟩
section
variable {X:Cx}{pins:aF}{σ:St}{H:Hp}{s:Shared}{a:Addr}{y d:V}{u r:Value}{o:Option V}{A:Around}{E:aK}
theorem Zk(w:A.units+1<cLine)(I:Inv X pins σ H s)(g:bL H a y o)(m:RelV y u)(h:∀t n,Inv X pins σ H n->RelV (o.getD .aw) t->Q t n):
 wpAny (model X.prog X.w) A (call (.builtin "dict.get") [.ref a,u]) Q E s:=by
 rcases g with⟨j,k,e,f,l⟩|⟨j,k,b,e,f,v,l⟩
 . subst f
   obtain⟨z,i,vs,c,dd⟩:=mm I.av e;refine call_meetsIn PySem.F.slot_dict_get dd.typeIs PySem.F.entry_dict_get (PySem.F.args_dict_get_2 _ _) (meets_dict_get (cZ X.prog X.w) a (jm m) i) ⟨_,dd.mapOf,h _ _ (I.tok _) ?_⟩;rw[l];exact(c.val k).getD rfl
 . subst f
   cases(show u=Value.ref b from m)
   obtain⟨z,i,x,c,dd⟩:=nq I.av e;refine call_meetsIn PySem.F.slot_dict_get dd.typeIs PySem.F.entry_dict_get (PySem.F.args_dict_get_2 _ _) (meetsH_dict_get (tupleKind (optKind X.prog X.w)) a b i) ⟨tupleKind_room_in1 w,k,x,nh I.av v,dd,h _ _ (I.tok _) ?_⟩;rw[l];exact(c.val k).getD rfl
theorem Zj(w:A.units+1<cLine)(I:Inv X pins σ H s)(g:bL H a y o)(m:RelV y u)(rd:RelV d r)(h:∀t n,Inv X pins σ H n->RelV (o.getD d) t->Q t n):
 wpAny (model X.prog X.w) A (call (.builtin "dict.get") [.ref a,u,r]) Q E s:=by
 rcases g with⟨j,k,e,f,l⟩|⟨j,k,b,e,f,v,l⟩
 . subst f
   obtain⟨z,i,vs,c,dd⟩:=mm I.av e;refine call_meetsIn PySem.F.slot_dict_get dd.typeIs PySem.F.entry_dict_get (PySem.F.args_dict_get_3 _ _ _) (meets_dict_get_default (cZ X.prog X.w) a (jm m) i r) ⟨_,dd.mapOf,h _ _ (I.tok _) ?_⟩;rw[l];exact(c.val k).getD rd
 . subst f
   cases(show u=Value.ref b from m)
   obtain⟨z,i,x,c,dd⟩:=nq I.av e;refine call_meetsIn PySem.F.slot_dict_get dd.typeIs PySem.F.entry_dict_get (PySem.F.args_dict_get_3 _ _ _) (meetsH_dict_get_default (tupleKind (optKind X.prog X.w)) a b i r) ⟨tupleKind_room_in1 w,k,x,nh I.av v,dd,h _ _ (I.tok _) ?_⟩;rw[l];exact(c.val k).getD rd
end
def XI(td ty:TE):TE:=λσ H Q=>td σ H λx H1=>∃a,x= .ref a/\wD H1 a/\ty σ H1 λy H2=>∃o,bL H2 a y o/\Q (o.getD .aw) H2
noncomputable def Yn (td ty tx:TE):TE:=λσ H Q=>td σ H λx H1=>∃a,x= .ref a/\wD H1 a/\ty σ H1 λy H2=>tx σ H2 λz H3=>∃o,bL H3 a y o/\Q (o.getD z) H3
section
variable {X:Cx}{o e f:Expr}{apos cpos:Pos}{td ty tx:TE}
theorem Va(r:X.A.units+1<cLine)(n:PE X o td)(l:PE X e ty)(m:M1 X o "get" apos e cpos):PE X (.Call (.Attribute o "get" apos) [e] [] cpos) (XI td ty):=by
 intro b s j H Q I h;refine wpAny_Call_method m.base m.mU m.line PySem.F.plainAttrs_dict PySem.F.slot_dict_get PySem.F.type_dict_get (ay (n b s j H _ I h) λu w C=>?_);obtain⟨x,H1,i,v,a,ex,d,t⟩:=C
 subst ex;obtain rfl:u=Value.ref a:=v;obtain⟨z,A,_⟩:=KI i d;refine⟨z,A,?_⟩;rw[m.trees];refine Calls.callWith_builtin rfl (Calls.evalArgs_plain (Calls.spliced_cons (ay (l b w j H1 _ i t) λiv D ⟨y,H2,I2,ry,ov,g,q2⟩=>Calls.spliced_nil ?_)))
 exact Zk r I2 g ry λw' E k c=>⟨_,H2,k,c,q2⟩
theorem U9(t:X.A.units+1<cLine)(r:PE X o td)(l:PE X e ty)(n:PE X f tx)(m:M2 X o "get" apos e f cpos):PE X (.Call (.Attribute o "get" apos) [e,f] [] cpos) (Yn td ty tx):=by
 intro b s i H Q I h;refine wpAny_Call_method m.base m.mU m.line PySem.F.plainAttrs_dict PySem.F.slot_dict_get PySem.F.type_dict_get (ay (r b s i H _ I h) λu A F=>?_);obtain⟨x,H1,j,w,a,ex,d,v⟩:=F
 subst ex;obtain rfl:u=Value.ref a:=w;obtain⟨D,E,_⟩:=KI j d;refine⟨D,E,?_⟩;rw[m.trees];refine Calls.callWith_builtin rfl (Calls.evalArgs_plain (Calls.spliced_cons (ay (l b A i H1 _ j v) λiv C ⟨y,H2,I2,ry,q2⟩=>
  Calls.spliced_cons (ay (n b C i H2 _ I2 q2) λfv J ⟨z,H3,I3,rz,ov,g,q3⟩=>Calls.spliced_nil ?_))))
 exact Zj t I3 g ry rz λw' L k c=>⟨_,H3,k,c,q3⟩
end
end L2
namespace Att
open PySem PySem.W PySem.Calls PyProof.Rows
theorem SM{P:Params}:∀(ns:List Int) (vs:au),WellAll P h vs (ns.map WData.int)->IntsAre vs ns:=by
 intro ns
 induction ns with
 |nil=>
  intro vs w;rw[ui]at w;cases w;exact .nil
 |cons n ns ih=>
  intro vs w;rw[bX]at w;cases w with
  |cons a b=>
   cases a;exact .cons _ _ (ih _ b)
theorem TL{l:OpenLaw}{n:Nat}(s:l.most=some n){P:Params}
 (b:l.row.toRowW.claim.pre args=true) (i:WellAll P h vals args):
 ∃a vs ns,vals= [Value.ref a]/\args= [WData.list (ns.map WData.int)]/\h.get? a=some { cls:=.type "list",data:=.seq vs.toArray }/\IntsAre vs ns/\ns.length<=n:=by
 have g:WShape.hasAll [] args [.list .int]=true:=(pre_splitW b).1;have j:l.pre.holds [] { args:=args }=true:=(pre_splitW b).2;obtain⟨d,r,rfl,k,m⟩:=hasAllW_cons g;obtain rfl:=hasAllW_nil m;obtain⟨u,rfl,o⟩:=hasW_list k;obtain⟨ns,rfl⟩:=items_int o;have c:ns.length<=n:=by
  unfold OpenLaw.pre at j;have e:(WTm.not (.lt (.lit (.int (n:Int))) (.len (.arg 0)))).holds [] { args:=[.list (ns.map .int)] }=true:=by
   have e:=(holds_andW j).1;rw[s]at e;exact e
  have f:=condW_of e (w_not (w_lt w_lit (w_len_list (w_arg rfl))));rw[aW]at f;refine Nat.le_of_not_lt λq=>?_
  have t:(n:Int)<((ns.length:Nat):Int):=by lia
  first
   |(rw[cu t]at f;exact aU f ⋯)
   |(simp at f;lia)
 cases i with
 |cons w1 w2=>
  cases w2;cases w1 with
  |list ho hall=>exact⟨_,_,ns,rfl,rfl,ho,SM ns _ hall,c⟩
theorem TB(l:OpenLaw)(args:List WData):l.row.toRowW.claim.post args (.bool true) args=true:=
 postW_of (r:=l.row.toRowW) (X:=(true==true))
  (show WShape.has [] (.bool true) .bool=true by first|rfl|decide|simp[WShape.has,WShape.arms,WShape.armsAll])
  (show(WTm.eq .res (.lit (.bool true))).value [] { args:=args,res:=some (.bool true),after:=args }=some (.bool (true==true))from w_eq_bool (w_res rfl) w_lit) rfl
theorem gr{l:OpenLaw}{n:Nat}{q:Program}{loose:az}{d:DefRec}
 (O:l.most=some n) (t:d.params.defaults= [])
 (call:∀(w:World) (c b:Shared) (mg x:br) (h:Addr) (o:Obj) (y cd e:Value) (a:Addr) (vs:au) (ns:List Int),
  Ground q loose [] XP w c mg x b.heap->YP w b.heap->
  b.heap.get? h=some o->o.data= .func (docDef d.name d.params d.body d.scope y cd e)->b.heap.CodeRec cd d.name->mg d.name=some (.ref h)->
  b.heap.get? a=some { cls:=.type "list",data:=.seq vs.toArray }->IntsAre vs ns->ns.length<=n->b.gens= #[]->
  codeAny (model l.prog w) callerA (.call (.ref h) ⟨[.ref a],[]⟩) (λr m=>r= .ok (.ret (.bool true))/\OldK b.heap m.heap/\m.os=b.os/\AllBare m.gens) b):
 WalkO q loose XP YP l.row.toRowW d [] (λf vs=>PySem.call f vs):=by
 intro w c b mg x G Y h o y cd e E kV Q J s A u L z D W k C U v M;obtain rfl:E= .none:=Dflts.none A t;obtain rfl:kV= .none:=Dflts.noKw A;obtain⟨a,vs,ns,rfl,rfl,j,g,i⟩:=TL O k v;refine enter_call (codeAny_mono (call w c b mg x h o y cd e a vs ns G Y Q (fd_plain J) s u j g i L) λr m R=>?_)
 obtain⟨rfl,F,H,I⟩:=R;exact⟨.inl ⟨.bool true,.bool true,[],rfl,λ_=>rfl,.bool true,TB l _,λ_=>⟨List.Pairwise.nil,λ_ N=>(nomatch N)⟩⟩,F,H,I⟩
end Att
namespace L2
open PySem PySem.Spec PyProof.Rows
theorem bP:∀{vs:au} {ns:List Int},IntsAre vs ns->Vals (ns.map V.int) vs
 |_,_,.nil=>.nil
 |_,_,.cons n t h=>.cons ⟨t,rfl⟩ (bP h)
noncomputable def JW (s:Stmt):Arguments:=match s with
 | .FunctionDef _ a _ _ _ _ _ _ _ _=>a
 |_=>{ posonlyargs:=[],args:=[],vararg:=none,kwonlyargs:=[],kw_defaults:=[],kwarg:=none,defaults:=[] }
noncomputable def qF (s:Stmt):List Stmt:=match s with
 | .FunctionDef _ _ b _ _ _ _ _ _ _=>b
 |_=>[]
noncomputable def fX (s:Stmt):Scope:=match s with
 | .FunctionDef _ _ _ _ _ _ sc _ _ _=>sc
 |_=>{ kind:=.function,names:=[],isGenerator:=false,isCoroutine:=false }
abbrev fg:mQ:=λ_ _ _ _ _ _=>False
abbrev E0:XK:=λ_ _ _=>False
theorem qZ:Passes fg X E0:=λ_ _ _ _ _ _ _ h=>h.elim
structure uo(K:ah)(x qual:Str)(st:Stmt)(f:Addr)(fd:FuncData):Prop where
 ex:∃(oc:Value) (od:Option Addr) (kV doc pm:Value) (an:Option Addr) (cdv ct:Value) (osl:Array (cI)),
  fd=PySem.W.fnOf x qual (JW st) (qF st) (fX st) .none kV doc pm an cdv ct/\K.lookup f=some ⟨oc,od,.func fd,osl⟩/\PySem.W.codeIn K cdv qual=true
 kp:PySem.W.keepIn K (.ref f)=true
section
variable {P:Program}{w:World}{K:ah}{mg:br}{base:Heap}
theorem uo.ok{x c:Str}{st:Stmt}{sp:Sp}(F:uo K x c st f fd)(S:sS N ps (fX st))(i:∀vs H Q E,sp vs H Q E->vs.length=ps.length)
 (d:∀b,fd.code=b->∀(A:Around) (a:List Env) (s:Shared) (H:Hp) (vs:LV) (Q:VK) (E:XK),aH k (A.deeper (envOfC c (fX st) s.heap.objs.size f b))->sp vs H Q E->
  ∃t,gq (nG fg P w K mg base N c (fX st) f b A a s H E).sA (qF st) t/\t { nx:=λ_ j=>Q .aw j,rt:=Q } (start N vs) H):dZ P w K mg base fg (k+1) f fd ps sp:=by
 obtain⟨r,u,kV,l,v,an,b,o,n,rfl,lk,e⟩:=F.ex;refine qwv lk e S i λA a s H vs Q E m g=>?_
 obtain⟨t,h,q⟩:=d b rfl A a s H vs Q E m g;exact⟨t,h.sA,q⟩
end
theorem kr(a:aH k A):A.units+1<cLine:=iJ (Nat.add_le_add_left (by decide:1<=64) _) a.units
theorem rH{A B:Prop}(h:B):if false=true then A else B:=by
 rw[ab iI];exact h
theorem rh{A B:Prop}(h:A):if true=true then A else B:=by
 rw[ag rfl];exact h
section
variable {X:Cx}
theorem US:cU X (.builtin "len") (λxs H Q=>∃a kvs,xs= [V.ref a]/\H a=some (.dK kvs)/\Q (.int kvs.length) H):=by
 intro pins s σ H xs us Q I r h;obtain⟨a,kvs,rfl,ha,q⟩:=h;obtain⟨u,rfl,ru⟩:=vals1 r;cases ru;exact qwE I (.inl ha) λt s' I'=>⟨.int kvs.length,H,I',⟨t,rfl⟩,q⟩
end
end L2
namespace R
open PySem PySem.Spec PyProof.Rows L2
inductive RV where
 |aw|bl (b:Bool)|int (i:Int)|str (x:Str)|ref (a:Addr)|ty (n:String)
 |tup (xs:List RV)|ls (xs:List RV)
abbrev LR:=List RV
abbrev bR:=List (Key×RV)
def Fz(K:ah)(H:Hp)(a:Addr)(vs:LV):Prop:=
 (∃o,H a=some (.aX o (.lst vs)))∨
  ∃(o:Obj) (ae:Array Value) (n:Nat),K.lookup a=some o/\o.cls= .type "list"/\o.dict=Option.none/\o.data= .seq ae n/\ae.size<=sizeLine/\Vals vs ae.toList
theorem Fz.sq{K:ah}{a:Addr}{vs:LV}(h:Fz K H a vs):c7 K H a vs:=by
 rcases h with⟨o,h⟩|h
 . exact .inl (.inr ⟨o,h⟩)
 . exact .inr h
instance {K:ah} {H:Hp} {a:Addr} {xs:LV}:Coe (H a=some (HO.tup xs)) (bS K H a xs):=⟨bS.of⟩
mutual
def Rep(K:ah)(H:Hp):RV->V->Prop
 | .aw,v=>v= .aw
 | .bl b,v=>v= .bl b
 | .int i,v=>v= .int i
 | .str x,v=>v= .str x
 | .ref a,v=>v= .ref a
 | .ty n,v=>v= .ty n
 | .tup xs,v=>∃a vs,v= .ref a/\H a=some (.tup vs)/\aa K H xs vs
 | .ls xs,v=>∃a vs,v= .ref a/\Fz K H a vs/\aa K H xs vs
def aa(K:ah)(H:Hp):LR->LV->Prop
 | [],vs=>vs= []
 |x::xs,vs=>∃v r,vs=v::r/\Rep K H x v/\aa K H xs r
end
noncomputable def i5:HO->Bool
 | .dK _=>true
 | .dT _=>true
 |_=>false
structure bu(H H':Hp):Prop where
 bO:∀b xs,H b=some (.tup xs)->H' b=some (.tup xs)
 aY:∀b o u,i5 u=false->H b=some (.aX o u)->H' b=some (.aX o u)
structure Ext(H H':Hp):Prop where
 bO:∀b xs,H b=some (.tup xs)->H' b=some (.tup xs)
 aY:∀b o u,H b=some (.aX o u)->H' b=some (.aX o u)
theorem Ext.w(e:Ext H H'):bu H H':=⟨e.bO,λb o u _ h=>e.aY b o u h⟩
theorem Ext.refl(H):Ext H H:=⟨λ_ _ h=>h,λ_ _ _ h=>h⟩
theorem Ext.trans{H H1 d:Hp}(a:Ext H H1)(b:Ext H1 d):Ext H d:=⟨λc x h=>b.bO c x (a.bO c x h),λc o x h=>b.aY c o x (a.aY c o x h)⟩
theorem bu.trans{H H1 d:Hp}(a:bu H H1)(b:bu H1 d):bu H d:=⟨λc x h=>b.bO c x (a.bO c x h),λc o x n h=>b.aY c o x n (a.aY c o x n h)⟩
theorem Ext.new{p:Addr}(h:H p=none):Ext H (upd H p o):=
 ⟨λb a e=>by rw[aZ (fh e h)];exact e,λb o a e=>by rw[aZ (fh e h)];exact e⟩
noncomputable def Sn:HO->Bool
 | .tup _=>false
 | .aX _ _=>false
 |_=>true
theorem bu.dj{p:Addr}(h:H p=some (.aX o u))(s:i5 u=true){v:HO}:bu H (upd H p v):=by
 refine⟨λb c e=>?_,λb ob c a e=>?_⟩
 . have n:b≠p:=by rintro rfl;rw[h]at e;cases e
   rw[aZ n];exact e
 . have n:b≠p:=by rintro rfl;rw[h]at e;cases e;rw[s]at a;cases a
   rw[aZ n];exact e
theorem Ext.write{p:Addr}(h:H p=some o)(s:Sn o=true):Ext H (upd H p o'):=by
 refine⟨λb a e=>?_,λb ob a e=>?_⟩
 . have n:b≠p:=by rintro rfl;rw[h]at e;cases e;cases s
   rw[aZ n];exact e
 . have n:b≠p:=by rintro rfl;rw[h]at e;cases e;cases s
   rw[aZ n];exact e
theorem bS.aV{K:ah}{a:Addr}{vs:LV}(e:bu H H')(h:bS K H a vs):bS K H' a vs:=by
 rcases h with(h|⟨o,h⟩)|h
 . exact .inl (.inl (e.bO _ _ h))
 . exact .inl (.inr ⟨o,e.aY _ _ _ rfl h⟩)
 . exact .inr h
theorem Fz.aV{K:ah}{a:Addr}{vs:LV}(e:bu H H')(h:Fz K H a vs):Fz K H' a vs:=by
 rcases h with⟨o,h⟩|h
 . exact .inl ⟨o,e.aY _ _ _ rfl h⟩
 . exact .inr h
mutual
theorem Rep.aV{K:ah}{H H':Hp}(e:bu H H'):∀(r:RV) (v:V),Rep K H r v->Rep K H' r v
 | .aw,v,h=>by simpa only[Rep]using h
 | .bl _,v,h=>by simpa only[Rep]using h
 | .int _,v,h=>by simpa only[Rep]using h
 | .str _,v,h=>by simpa only[Rep]using h
 | .ref _,v,h=>by simpa only[Rep]using h
 | .ty _,v,h=>by simpa only[Rep]using h
 | .tup xs,v,h=>by
  simp only[Rep]at h ⊢;obtain⟨a,vs,e1,h1,h2⟩:=h;exact⟨a,vs,e1,e.bO _ _ h1,aa.aV e xs vs h2⟩
 | .ls xs,v,h=>by
  simp only[Rep]at h ⊢;obtain⟨a,vs,e1,h1,h2⟩:=h;exact⟨a,vs,e1,h1.aV e,aa.aV e xs vs h2⟩
theorem aa.aV{K:ah}{H H':Hp}(e:bu H H'):∀(rs:LR) (vs:LV),aa K H rs vs->aa K H' rs vs
 | [],vs,h=>by simpa only[aa]using h
 |x::xs,vs,h=>by
  simp only[aa]at h ⊢;obtain⟨v,r,e1,h1,h2⟩:=h;exact⟨v,r,e1,Rep.aV e x v h1,aa.aV e xs r h2⟩
end
section
variable {K:ah}{H:Hp}
theorem aa.cons{x:RV}{v:V}{vs:LV}(h:Rep K H x v)(t:aa K H xs vs):aa K H (x::xs) (v::vs):=by
 simp only[aa];exact⟨v,vs,rfl,h,t⟩
theorem aa.nil:aa K H [] []:=by simp only[aa]
theorem aa.length:∀{xs:LR} {vs:LV},aa K H xs vs->xs.length=vs.length
 | [],vs,h=>by cases h;rfl
 |x::xs,vs,h=>by
  obtain⟨v,r,rfl,_,t⟩:=h;simp[aa.length t]
theorem aa.get:∀{xs:LR} {vs:LV} {i:Nat} {x:RV},aa K H xs vs->xs[i]? =some x->∃v,vs[i]? =some v/\Rep K H x v
 | [],_,_,_,_,e=>by simp at e
 |y::xs,vs,0,x,h,e=>by
  obtain⟨v,r,rfl,a,_⟩:=h;simp at e;subst e;exact⟨v,by simp,a⟩
 |y::xs,vs,i+1,x,h,e=>by
  obtain⟨v,r,rfl,_,t⟩:=h;obtain⟨u,a,b⟩:=aa.get (i:=i) t (by simpa using e)
  exact⟨u,by simpa using a,b⟩
theorem aa.append:∀{xs ys:LR} {vs ws:LV},aa K H xs vs->aa K H ys ws->aa K H (xs++ys) (vs++ws)
 | [],_,vs,_,h,t=>by cases h;simpa using t
 |x::xs,ys,vs,ws,h,t=>by
  obtain⟨v,r,rfl,a,b⟩:=h;exact aa.cons a (aa.append b t)
theorem aa.take:∀{xs:LR} {vs:LV} (n:Nat),aa K H xs vs->aa K H (xs.take n) (vs.take n)
 |_,_,0,_=>by simpa using aa.nil
 | [],vs,n+1,h=>by cases h;simpa using aa.nil
 |x::xs,vs,n+1,h=>by
  obtain⟨v,r,rfl,a,b⟩:=h;exact aa.cons a (aa.take n b)
theorem aa.drop:∀{xs:LR} {vs:LV} (n:Nat),aa K H xs vs->aa K H (xs.drop n) (vs.drop n)
 |_,_,0,h=>by simpa using h
 | [],vs,n+1,h=>by cases h;simpa using aa.nil
 |x::xs,vs,n+1,h=>by
  obtain⟨v,r,rfl,b,a⟩:=h;exact aa.drop n a
theorem aa.set{x:RV}{v:V}(hx:Rep K H x v):∀{xs:LR} {vs:LV} (i:Nat),aa K H xs vs->aa K H (xs.set i x) (vs.set i v)
 | [],vs,i,h=>by cases h;simpa using aa.nil
 |y::xs,vs,0,h=>by
  obtain⟨w,r,rfl,b,a⟩:=h;exact aa.cons hx a
 |y::xs,vs,i+1,h=>by
  obtain⟨w,r,rfl,b,a⟩:=h;exact aa.cons b (aa.set hx i a)
theorem aa.bT{vs:LV}{i:Int}{x:RV}(h:aa K H xs vs)(e:L2.bT xs i=some x):∃v,L2.bT vs i=some v/\Rep K H x v:=by
 unfold L2.bT at e ⊢;rw[<-h.length];cases q:fT xs.length i with
 |none=>rw[q]at e;cases e
 |some j=>rw[q]at e;exact h.get (by simpa using e)
end
inductive RO where
 |lst (xs:LR)
 |dk (kvs:bR)
 |dt (kvs:List (List bG×RV))
 |ins (C:Addr) (fs:List (Str×RV))
 |fk (kvs:bR)
 |ft (kvs:List (List bG×RV))
 |tb (P:Addr) (pos:Pos) (q:Str)
noncomputable def gg (P:Addr)(pos:Pos)(x:Option Addr):Heap->Prop:=λh=>h.get? P=some { cls:=.none,data:=.fields (match x with|none=>#[]|some c=>#[rawInt pos.line,rawInt pos.col,.ref c]) }
abbrev RM:=Addr->Option RO
noncomputable def put (M:RM)(a:Addr)(o:RO):RM:=λb=>if b=a then some o else M b
theorem bo{a:Addr}:put M a o a=some o:=by unfold put;rw[ag rfl]
theorem put_ne{a b:Addr}(h:b≠a):put M a o b=M b:=by unfold put;rw[ab h]
theorem fK{a:Addr}:put (put M a o) a o'=put M a o':=by
 funext b;unfold put;split<;>rfl
noncomputable def aE(K:ah)(H:Hp):List (κ×RV)->List (κ×V)->Prop
 | [],ws=>ws= []
 |(k,x)::r,ws=>∃v t,ws=(k,v)::t/\Rep K H x v/\aE K H r t
theorem aE.aV{K:ah}(e:bu H H'):∀{a:List (κ×RV)} {ws:List (κ×V)},aE K H a ws->aE K H' a ws
 | [],_,h=>h
 |(k,x)::r,ws,h=>by
  obtain⟨v,t,e1,b,c⟩:=h;exact⟨v,t,e1,Rep.aV e x v b,aE.aV e c⟩
noncomputable def bC (K:ah)(H:Hp):RO->HO->Prop
 | .lst xs,o=>∃vs,o= .lst vs/\aa K H xs vs
 | .dk kvs,o=>∃a,o= .dK a/\aE K H kvs a
 | .dt kvs,o=>∃a,o= .dT a/\aE K H kvs a
 | .ins C fs,o=>∃d gs,o= .ins C d gs/\aE K H fs gs
 | .fk kvs,o=>∃ob a,o= .aX ob (.dK a)/\aE K H kvs a
 | .ft kvs,o=>∃ob a,o= .aX ob (.dT a)/\aE K H kvs a
 | .tb P pos q,o=>o= .ext (gg P pos none)∨∃c b vs t,o= .ext (gg P pos (some c))/\H c=some (.aX b (.own c))/\b.data= .fields vs/\vs[1]? =some (.str q t)
theorem bC.aV{K:ah}(e:bu H H'):∀{o:RO} {ho:HO},bC K H o ho->bC K H' o ho
 | .lst xs,_,h=>by obtain⟨vs,e1,a⟩:=h;exact⟨vs,e1,aa.aV e xs vs a⟩
 | .dk _,_,h=>by obtain⟨d,e1,a⟩:=h;exact⟨d,e1,a.aV e⟩
 | .dt _,_,h=>by obtain⟨d,e1,a⟩:=h;exact⟨d,e1,a.aV e⟩
 | .ins _ _,_,h=>by obtain⟨b,gs,e1,a⟩:=h;exact⟨b,gs,e1,a.aV e⟩
 | .fk _,_,h=>by obtain⟨b,gs,e1,a⟩:=h;exact⟨b,gs,e1,a.aV e⟩
 | .ft _,_,h=>by obtain⟨b,gs,e1,a⟩:=h;exact⟨b,gs,e1,a.aV e⟩
 | .tb _ _ _,_,h=>h.imp id λ⟨c,g,vs,t,e1,a,f⟩=>⟨c,g,vs,t,e1,e.aY _ _ _ rfl a,f⟩
theorem bC.Am{K:ah}{p:Addr}{v:HO}:∀{o:RO} {ho:HO},bC K H o ho->H p=some ho->bu H (upd H p v)
 | .lst _,_,h,e=>by obtain⟨_,rfl,_⟩:=h;exact(Ext.write e rfl).w
 | .dk _,_,h,e=>by obtain⟨_,rfl,_⟩:=h;exact(Ext.write e rfl).w
 | .dt _,_,h,e=>by obtain⟨_,rfl,_⟩:=h;exact(Ext.write e rfl).w
 | .ins _ _,_,h,e=>by obtain⟨_,_,rfl,_⟩:=h;exact(Ext.write e rfl).w
 | .fk _,_,h,e=>by obtain⟨_,_,rfl,_⟩:=h;exact bu.dj e rfl
 | .ft _,_,h,e=>by obtain⟨_,_,rfl,_⟩:=h;exact bu.dj e rfl
 | .tb _ _ _,_,h,e=>by rcases h with rfl|⟨_,_,_,_,rfl,_⟩<;>exact(Ext.write e rfl).w
section
variable {K:ah}{H H':Hp}
theorem bS.ext{a:Addr}{vs:LV}(e:Ext H H')(h:bS K H a vs):bS K H' a vs:=bS.aV e.w h
theorem Fz.ext{a:Addr}{vs:LV}(h:Fz K H a vs)(e:Ext H H'):Fz K H' a vs:=h.aV e.w
theorem Rep.ext(e:Ext H H')(r)(v)(h:Rep K H r v):Rep K H' r v:=Rep.aV e.w r v h
theorem aa.ext(e:Ext H H')(r)(v)(h:aa K H r v):aa K H' r v:=aa.aV e.w r v h
theorem aE.ext(h:aE K H xs ws)(e:Ext H H'):aE K H' xs ws:=aE.aV e.w h
theorem bC.ext(h:bC K H o ho)(e:Ext H H'):bC K H' o ho:=bC.aV e.w h
end
def View(K:ah)(H:Hp)(M:RM):Prop:=∀a o,M a=some o->∃b,H a=some b/\bC K H o b
section
variable {K:ah}{H H':Hp}{M:RM}{p:Addr}{ho:HO}{o:RO}
theorem View.free(w:View K H M)(h:H p=none):M p=none:=by
 cases q:M p with
 |none=>rfl
 |some o=>obtain⟨ho,e,_⟩:=w p o q;rw[h]at e;cases e
theorem View.new(w:View K H M)(h:H p=none):View K (upd H p ho) M:=λa o e=>by
 obtain⟨b,e1,r⟩:=w a o e;exact⟨b,by rw[aZ (fh e1 h)];exact e1,r.ext (Ext.new h)⟩
theorem View.cS(w:View K H M)(h:H p=none)(r:bC K (upd H p ho) o ho):View K (upd H p ho) (put M p o):=λa c e=>by
 by_cases b:a=p
 . subst b;rw[bo]at e;cases e;exact⟨ho,ej,r⟩
 . rw[put_ne b]at e;exact w.new h a c e
theorem View.write(w:View K H M)(h:M p=some o')(r:bC K (upd H p ho) o ho):View K (upd H p ho) (put M p o):=λa d e=>by
 by_cases b:a=p
 . subst b;rw[bo]at e;cases e;exact⟨ho,ej,r⟩
 . rw[put_ne b]at e
   obtain⟨c,e1,r1⟩:=w a d e;obtain⟨i,f,g⟩:=w p o' h;exact⟨c,by rw[aZ b];exact e1,bC.aV (g.Am f) r1⟩
end
abbrev bw:=List (Option RV)
abbrev ak:=RV->RM->Prop
abbrev aq:=bw->RM->ak->Prop
abbrev dP:=bw->RM->(Bool->RM->Prop)->Prop
abbrev bJ:=bw->RM->(LR->RM->Prop)->Prop
def aP(K:ah)(H:Hp)(σ:bw)(a:L2.St):Prop:=σ.length=a.length/\∀(i:Nat) r,σ[i]? =some (some r)->∃v,a[i]? =some (some v)/\Rep K H r v
theorem aP.aV{K:ah}(h:aP K H σ σ0)(e:bu H H'):aP K H' σ σ0:=
 ⟨h.1,λi r q=>by obtain⟨v,e1,a⟩:=h.2 i r q;exact⟨v,e1,Rep.aV e r v a⟩⟩
theorem aP.ext{K:ah}(h:aP K H σ σ0)(e:Ext H H'):aP K H' σ σ0:=h.aV e.w
theorem aP.set{K:ah}{v:V}(h:aP K H σ σ0)(c:Rep K H r v)(i):aP K H (σ.set i (some r)) (σ0.set i (some v)):=by
 refine⟨by simp[h.1],λj d q=>?_⟩
 by_cases a:i=j
 . subst a
   rw[List.getElem?_set]at q;split at q
   . split at q
     . cases q;rename_i e _ ;exact⟨v,by rw[List.getElem?_set_self (by rw[<-h.1];assumption)],c⟩
     . cases q
   . rename_i z;exact aU rfl z
 . rw[List.getElem?_set_ne a]at q
   obtain⟨w,e1,b⟩:=h.2 j d q;exact⟨w,by rw[List.getElem?_set_ne a];exact e1,b⟩
def iN(K:ah)(H:Hp)(Q:ak)(Q0:VK):Prop:=∀rv b v a,Q rv b->Ext H a->View K a b->Rep K a rv v->Q0 v a
theorem iN.now{K:ah}{v:V}(h:iN K H Q Q0)(q:Q r M)(w:View K H M)(z:Rep K H r v):Q0 v H:=h _ _ _ _ q (.refl H) w z
theorem iN.ext{K:ah}(h:iN K H Q Q0)(e:Ext H H'):iN K H' Q Q0:=λrv b v a q c w r=>h rv b v a q (e.trans c) w r
def up(K:ah)(t:aq):TE:=λσ0 H Q0=>∃σ M Q,aP K H σ σ0/\View K H M/\t σ M Q/\iN K H Q Q0
def DV(K:ah)(t:dP):TT:=λσ0 H Q0=>∃σ M Q,aP K H σ σ0/\View K H M/\t σ M Q/\∀b M' H',Q b M'->Ext H H'->View K H' M'->Q0 b H'
noncomputable def DU (K:ah)(t:bJ):TA:=λσ0 H Q0=>∃σ M Q,aP K H σ σ0/\View K H M/\t σ M Q/\∀rs M' vs H',Q rs M'->Ext H H'->View K H' M'->aa K H' rs vs->Q0 vs H'
structure RD where
 nx:bw->RM->Prop
 rt:ak
 bk:bw->RM->Prop:=λ_ _=>False
 ct:bw->RM->Prop:=λ_ _=>False
abbrev dz:=RD->bw->RM->Prop
def n8(K:ah)(H:Hp)(q:bw->RM->Prop)(q0:L2.St->Hp->Prop):Prop:=∀c M a b,q c M->Ext H b->View K b M->aP K b c a->q0 a b
theorem n8.ext{K:ah}(h:n8 K H Q Q0)(e:Ext H H'):n8 K H' Q Q0:=λσ M σ0 H2 q e2 w r=>h σ M σ0 H2 q (e.trans e2) w r
structure wL(K:ah)(H:Hp)(D:RD)(D0:Ends):Prop where
 nx:n8 K H D.nx D0.nx
 rt:iN K H D.rt D0.rt
 bk:n8 K H D.bk D0.bk
 ct:n8 K H D.ct D0.ct
theorem wL.ext{K:ah}(h:wL K H D D0)(e:Ext H H'):wL K H' D D0:=⟨h.nx.ext e,h.rt.ext e,h.bk.ext e,h.ct.ext e⟩
def PQ(K:ah)(t:dz):TS:=λD0 σ0 H=>∃σ M D,aP K H σ σ0/\View K H M/\t D σ M/\wL K H D D0
def aj(X:Cx)(e:Expr)(t:aq):Prop:=PE X e (up X.K t)
def d8(X:Cx)(e:Expr)(t:dP):Prop:=PT X e (DV X.K t)
def mR(X:Cx)(e:Expr)(t:dP):Prop:=PW X e (DV X.K t)
def eJ(X:Cx)(es:bc)(t:bJ):Prop:=PA X es (DU X.K t)
def eL(X:Cx)(s:Stmt)(t:dz):Prop:=PS X s (PQ X.K t)
def kD(X:Cx)(s:List Stmt)(t:dz):Prop:=gq X s (PQ X.K t)
section
variable {X:Cx}
theorem PE.imp{e:Expr}{t t':TE}(h:PE X e t)(i:∀σ H Q,t' σ H Q->t σ H Q):PE X e t':=λpins s σ H Q I w=>h pins s σ H Q I (i σ H Q w)
theorem PT.imp{e:Expr}{t t':TT}(h:PT X e t)(i:∀σ H Q,t' σ H Q->t σ H Q):PT X e t':=λpins s σ H Q I w=>h pins s σ H Q I (i σ H Q w)
theorem PW.imp{e:Expr}{t t':TT}(h:PW X e t)(i:∀σ H Q,t' σ H Q->t σ H Q):PW X e t':=λwh pins s σ H Q I w=>h wh pins s σ H Q I (i σ H Q w)
theorem PA.imp{e:bc}{t t':TA}(h:PA X e t)(i:∀σ H Q,t' σ H Q->t σ H Q):PA X e t':=λpos pins s σ H Q I w=>h pos pins s σ H Q I (i σ H Q w)
theorem PS.imp{e:Stmt}{t t':TS}(h:PS X e t)(i:∀D σ H,t' D σ H->t D σ H):PS X e t':=λpins s σ H D I w=>h pins s σ H D I (i D σ H w)
theorem gq.imp{e:List Stmt}{t t':TS}(h:gq X e t)(i:∀D σ H,t' D σ H->t D σ H):gq X e t':=λpins s σ H D I w=>h pins s σ H D I (i D σ H w)
end
section
variable {X:Cx}{a b c:Expr}{ta tb tc:aq}{tA tB:dP}{pos:Pos}{rest:bc}
def rA(i:Nat):aq:=λσ M Q=>match σ[i]? with|some (some v)=>Q v M|_=>False
def rC(v:RV):aq:=λ_ M Q=>Q v M
theorem rv(i){x:Str}(k:X.N[i]? =some x:=by rfl)(g:wM X.env.scope x)(l:(x==("__debug__":Str))=false:=by decide)
 (f:(x==("__classdict__":Str))=false:=by decide):aj X (.Name x pos) (rA i):=PE.imp (Y0 k g l f) λσ0 H Q h=>by
 obtain⟨o,M,n,hs,g,d,m⟩:=h;unfold rA at d;split at d
 . rename_i r e
   obtain⟨v,e1,j⟩:=hs.2 i r e;exact⟨v,e1,m r M v H d (.refl H) g j⟩
 . exact d.elim
theorem sT{e:Expr}{v:V}(h:PE X e (tC v))(f:∀H,Rep X.K H r v):aj X e (rC r):=PE.imp h λσ0 H Q h=>by
 obtain⟨k,M,j,hs,i,g,d⟩:=h;exact d r M v H g (.refl H) i (f H)
theorem ri{i j pos}:aj X (.Constant (.int i) j pos) (rC (.int i)):=sT Yv λH=>by simp only[Rep]
theorem rb{b j pos}:aj X (.Constant (.bool b) j pos) (rC (.bl b)):=sT qvQ λH=>by simp only[Rep]
theorem rn{j pos}:aj X (.Constant .none j pos) (rC .aw):=sT Yu λH=>by simp only[Rep]
theorem rs{x j pos}:aj X (.Constant (.str x) j pos) (rC (.str x)):=sT Yr λH=>by simp only[Rep]
theorem K5{x:Str}{v:V}(f:X.mg x=some u)(h:RelV v u)(g:∀H,Rep X.K H r v)(e:Gl X x:=by rfl)(d:(x==("__debug__":Str))=false:=by decide):aj X (.Name x pos) (rC r):=
 sT (Xc e f h d) g
theorem vk{x:Str}{v:V}(f:X.mg x=none)(i:bootBuiltins x=some u)(j:RelV v u)(h:∀H,Rep X.K H r v)(e:Gl X x:=by rfl)(g:x≠"__name__":=by decide)(d:(x==("__debug__":Str))=false:=by decide):aj X (.Name x pos) (rC r):=
 sT (Xf e f i j g d) h
abbrev cJ:=RV->RV->RM->ak->Prop
def ub(K:ah)(g:cJ):R2:=λx y H f=>∃d e M Q,Rep K H d x/\Rep K H e y/\View K H M/\g d e M Q/\iN K H Q f
def cz(X:Cx)(f:Value->Value->Sem Value)(d:cJ):Prop:=dw X f (ub X.K d)
def nI(rr:cJ)(ta tb:aq):aq:=λσ M Q=>ta σ M λx M1=>tb σ M1 λy M2=>rr x y M2 Q
theorem yw{K:ah}(h:up K (nI rr ta tb) σ0 H Q0):ua (ub K rr) (up K ta) (up K tb) σ0 H Q0:=by
 obtain⟨σ,M,Q,hs,hv,ht,hk⟩:=h;refine⟨σ,M,_,hs,hv,ht,λrx M1 x H1 hb e1 v1 r1=>?_⟩
 refine⟨σ,M1,_,hs.ext e1,v1,hb,λry M2 y H2 hr e2 v2 r2=>?_⟩
 exact⟨rx,ry,M2,Q,Rep.ext e2 rx x r1,r2,v2,hr,hk.ext (e1.trans e2)⟩
theorem rop{op:Operator}(f:cz X (binaryOp op) rr)(d:aj X a ta)(e:aj X b tb):aj X (.BinOp a op b pos) (nI rr ta tb):=PE.imp (qvO f d e) λ_ _ _ h=>yw h
theorem Se{op:CmpOp}(g:cz X (compareOp op) rr)(d:aj X a ta)(e:aj X b tb)(f:behindInMarks op b=false):aj X (.Compare a [op] [b] pos) (nI rr ta tb):=
 PE.imp (Jx g d e f) λ_ _ _ h=>yw h
def ma(t:aq):dP:=λσ M Q=>t σ M λv M'=>match v with| .bl k=>Q k M'|_=>False
theorem qG{K:ah}{H:Hp}{Q:Bool->RM->Prop}{Q0:Bool->Hp->Prop}(g:∀b f d,Q b f->Ext H d->View K d f->Q0 b d):
 iN K H (λv f=>match v with| .bl k=>Q k f|_=>False) (λx d=>∃k,x= .bl k/\Q0 k d):=λrv f v d q e w r=>by
 cases rv with
 |bl k=>exact⟨k,r,g k f d q e w⟩
 |_=>exact q.elim
theorem qvi{op:CmpOp}(i:cz X (compareOp op) rr)(d:aj X a ta)(e:aj X b tb)(g:behindInMarks op b=false):d8 X (.Compare a [op] [b] pos) (ma (nI rr ta tb)):=
 PT.imp (IY i d e g) λσ0 H m h=>by
  obtain⟨l,M,Q,hs,k,j,f⟩:=h;exact yw ⟨l,M,_,hs,k,j,qG f⟩
theorem qvg{e:Expr}{t:aq}(h:aj X e t)(f:∀d,isTrue e X.env d=(do let v<-d;standAt e.pos;holding [v] (truthy v)):=by intro _;rfl):d8 X e (ma t):=
 PT.imp (YO h f) λσ0 H l h=>by
  obtain⟨k,M,Q,hs,j,i,g⟩:=h;exact⟨k,M,_,hs,j,i,qG g⟩
noncomputable def sV (rr rr':cJ)(ta tb tc:aq):aq:=λσ M Q=>ta σ M λx M1=>tb σ M1 λy M2=>rr x y M2 λz M3=>match z with
 | .bl k=>(k=true->tc σ M3 λw M4=>rr' y w M4 Q)/\(k=false->Q (.bl false) M3)
 |_=>False
theorem HZ{K:ah}(h:up K (sV rr rr' ta tb tc) σ0 H Q0):B7 (ub K rr) (ub K rr') (up K ta) (up K tb) (up K tc) σ0 H Q0:=by
 obtain⟨σ,M,Q,hs,hv,ht,hk⟩:=h;refine⟨σ,M,_,hs,hv,ht,λrx M1 x H1 hb e1 v1 r1=>?_⟩
 refine⟨σ,M1,_,hs.ext e1,v1,hb,λry M2 y H2 hr e2 v2 r2=>?_⟩
 refine⟨rx,ry,M2,_,Rep.ext e2 rx x r1,r2,v2,hr,λrz M3 z H3 hz e3 v3 r3=>?_⟩
 cases rz with
 |bl k=>
  simp only[Rep]at r3;refine⟨k,r3,?_⟩;have e13:=(e1.trans e2).trans e3;cases k with
  |true=>
   refine rh ?_;refine⟨σ,M3,_,hs.ext e13,v3,hz.1 rfl,λrw M4 w H4 hw e4 v4 r4=>?_⟩
   exact⟨ry,rw,M4,Q,Rep.ext (e3.trans e4) ry y r2,r4,v4,hw,hk.ext (e13.trans e4)⟩
  |false=>exact rH (hk _ M3 _ H3 (hz.2 rfl) e13 v3 rfl)
 |_=>exact hz.elim
theorem X4{op d:CmpOp}(k:cz X (compareOp op) rr)(e:cz X (compareOp d) rr')(f:aj X a ta)(g:aj X b tb)(i:aj X c tc)(j:lastMarks [op,d] [b,c]=false:=by with_unfolding_all rfl):
 aj X (.Compare a [op,d] [b,c] pos) (sV rr rr' ta tb tc):=PE.imp (Vb k e f g i j) λ_ _ _ h=>HZ h
theorem V9{op d:CmpOp}(l:cz X (compareOp op) rr)(e:cz X (compareOp d) rr')(f:aj X a ta)(g:aj X b tb)(i:aj X c tc)(k:lastMarks [op,d] [b,c]=false:=by with_unfolding_all rfl):
 d8 X (.Compare a [op,d] [b,c] pos) (ma (sV rr rr' ta tb tc)):=PT.imp (VJ l e f g i k) λσ0 H r h=>by
 obtain⟨o,M,Q,hs,n,m,j⟩:=h;exact HZ ⟨o,M,_,hs,n,m,qG j⟩
def zh(t u:dP):dP:=λσ M Q=>t σ M λc M1=>(c=true->u σ M1 Q)/\(c=false->Q false M1)
def zC(t u:dP):dP:=λσ M Q=>t σ M λc M1=>(c=true->Q true M1)/\(c=false->u σ M1 Q)
def Pn(t:dP):dP:=λσ M Q=>t σ M λc M1=>Q (!c) M1
theorem qvw(d:d8 X a tA):mR X (.BoolOp .And [a] pos) tA:=WY d
theorem R9(d:d8 X a tA):mR X (.BoolOp .Or [a] pos) tA:=YM d
theorem rand(l:d8 X a tA)(m:mR X (.BoolOp .And (b::rest) pos) tB):mR X (.BoolOp .And (a::b::rest) pos) (zh tA tB):=PW.imp (YN l m) λσ0 H r h=>by
 obtain⟨f,M,Q,hs,o,n,d⟩:=h;refine⟨f,M,_,hs,o,n,λk M1 H1 q e1 e=>?_⟩
 cases k with
 |true=>exact rh ⟨f,M1,Q,hs.ext e1,e,q.1 rfl,λb i g z j w=>d b i g z (e1.trans j) w⟩
 |false=>exact rH (d false M1 H1 (q.2 rfl) e1 e)
theorem PJ(l:d8 X a tA)(m:mR X (.BoolOp .Or (b::rest) pos) tB):mR X (.BoolOp .Or (a::b::rest) pos) (zC tA tB):=PW.imp (qvH l m) λσ0 H r h=>by
 obtain⟨f,M,Q,hs,o,n,d⟩:=h;refine⟨f,M,_,hs,o,n,λk M1 H1 q e1 e=>?_⟩
 cases k with
 |true=>exact rh (d true M1 H1 (q.1 rfl) e1 e)
 |false=>exact rH ⟨f,M1,Q,hs.ext e1,e,q.2 rfl,λb i g z j w=>d b i g z (e1.trans j) w⟩
theorem zE(h:mR X a tA):d8 X a tA:=PW.pt h
theorem qvh(d:d8 X a tA):d8 X (.UnaryOp .Not a pos) (Pn tA):=PT.imp (YQ d) λσ0 H l h=>by
 obtain⟨j,M,Q,hs,g,f,e⟩:=h;exact⟨j,M,_,hs,g,f,λk M1 H1 q e1 i=>e (!k) M1 H1 q e1 i⟩
def yR(ta tb:aq):aq:=λσ M Q=>ta σ M λx M1=>match x with| .bl c=>(c=true->tb σ M1 Q)/\(c=false->Q (.bl false) M1)|_=>False
def zb(ta tb:aq):aq:=λσ M Q=>ta σ M λx M1=>match x with| .bl c=>(c=true->Q (.bl true) M1)/\(c=false->tb σ M1 Q)|_=>False
def K2(ta:aq):aq:=λσ M Q=>ta σ M λx M1=>match x with| .bl c=>Q (.bl (!c)) M1|_=>False
theorem Pd{op}{t:aq}(h:aj X a t):aj X (.BoolOp op [a] pos) t:=Ys h
theorem K8(ha:aj X a ta)(hb:aj X (.BoolOp .And (b::rest) pos) tb):aj X (.BoolOp .And (a::b::rest) pos) (yR ta tb):=PE.imp (Yx ha hb) λσ0 H Q0 h=>by
 obtain⟨σ,M,Q,hs,hv,ht,hk⟩:=h;refine⟨σ,M,_,hs,hv,ht,λrx M1 x H1 q e1 v1 r1=>?_⟩
 cases rx with
 |bl k=>
  simp only[Rep]at r1;refine⟨k,r1,?_⟩;cases k with
  |true=>exact rh ⟨σ,M1,Q,hs.ext e1,v1,q.1 rfl,hk.ext e1⟩
  |false=>exact rH (hk _ M1 _ H1 (q.2 rfl) e1 v1 rfl)
 |_=>exact q.elim
theorem Pc(ha:aj X a ta)(hb:aj X (.BoolOp .Or (b::rest) pos) tb):aj X (.BoolOp .Or (a::b::rest) pos) (zb ta tb):=PE.imp (qvN ha hb) λσ0 H Q0 h=>by
 obtain⟨σ,M,Q,hs,hv,ht,hk⟩:=h;refine⟨σ,M,_,hs,hv,ht,λrx M1 x H1 q e1 v1 r1=>?_⟩
 cases rx with
 |bl k=>
  simp only[Rep]at r1;refine⟨k,r1,?_⟩;cases k with
  |true=>exact rh (hk _ M1 _ H1 (q.1 rfl) e1 v1 rfl)
  |false=>exact rH ⟨σ,M1,Q,hs.ext e1,v1,q.2 rfl,hk.ext e1⟩
 |_=>exact q.elim
theorem qvn(ha:aj X a ta):aj X (.UnaryOp .Not a pos) (K2 ta):=PE.imp (Yt ha) λσ0 H Q0 h=>by
 obtain⟨σ,M,Q,hs,hv,ht,hk⟩:=h;refine⟨σ,M,_,hs,hv,ht,λrx M1 x H1 q e1 v1 r1=>?_⟩
 cases rx with
 |bl k=>exact⟨k,r1,hk _ M1 _ H1 q e1 v1 rfl⟩
 |_=>exact q.elim
def zB(t:dP)(ta tb:aq):aq:=λσ M Q=>t σ M λc M1=>(c=true->ta σ M1 Q)/\(c=false->tb σ M1 Q)
theorem rif(j:d8 X c tA)(g:aj X a ta)(i:aj X b tb):aj X (.IfExp c a b pos) (zB tA ta tb):=PE.imp (U6 j g i) λσ0 H n h=>by
 obtain⟨d,M,Q,hs,m,l,e⟩:=h;refine⟨d,M,_,hs,m,l,λk M1 H1 q e1 f=>?_⟩
 cases k with
 |true=>exact rh ⟨d,M1,Q,hs.ext e1,f,q.1 rfl,e.ext e1⟩
 |false=>exact rH ⟨d,M1,Q,hs.ext e1,f,q.2 rfl,e.ext e1⟩
variable {e:Expr}{es:bc}{te:aq}{t:bJ}
def mv:bJ:=λ_ M Q=>Q [] M
def tJ(ta:aq)(tr:bJ):bJ:=λσ M Q=>ta σ M λx M1=>tr σ M1 λxs M2=>Q (x::xs) M2
theorem Dc:eJ X [] mv:=PA.imp Yy λσ0 H i h=>by
 obtain⟨j,M,Q,hs,g,f,d⟩:=h;exact d [] M [] H f (.refl H) g aa.nil
theorem yS(ha:aj X e te)(hr:eJ X es t)(hs:starEach (e::es) X.env=(false,eval e X.env)::starEach es X.env:=by rfl):eJ X (e::es) (tJ te t):=PA.imp (Xg ha hr hs) λσ0 H Q0 h=>by
 obtain⟨σ,M,Q,hs,hv,ht,hk⟩:=h;refine⟨σ,M,_,hs,hv,ht,λrx M1 x H1 q e1 v1 r1=>?_⟩
 refine⟨σ,M1,_,hs.ext e1,v1,q,λrs M2 vs H2 q2 e2 v2 r2=>?_⟩
 exact hk (rx::rs) M2 (x::vs) H2 q2 (e1.trans e2) v2 (aa.cons (Rep.ext e2 rx x r1) r2)
def Pf(t:bJ):aq:=λσ M Q=>t σ M λrs M1=>rs.length<=sizeLine/\Q (.tup rs) M1
theorem sN{K:ah}{p:Addr}{rs:LR}{vs:LV}(h:H p=none)(r:aa K H rs vs):Rep K (upd H p (.tup vs)) (.tup rs) (.ref p):=by
 simp only[Rep];exact⟨p,vs,rfl,ej,aa.ext (Ext.new h) rs vs r⟩
theorem kh{K:ah}{p:Addr}{rs:LR}{vs:LV}(h:H p=none)(r:aa K H rs vs):Rep K (upd H p (.aX o (.lst vs))) (.ls rs) (.ref p):=by
 simp only[Rep];exact⟨p,vs,rfl,.inl ⟨o,ej⟩,aa.ext (Ext.new h) rs vs r⟩
theorem R7{x1}(h:eJ X es t):aj X (.Tuple es x1 pos) (Pf t):=PE.imp (Y1 h) λσ0 H l h=>by
 obtain⟨k,M,Q,hs,i,g,f⟩:=h;refine⟨k,M,_,hs,i,g,λrs M1 vs H1 q e1 j r1=>⟨by rw[<-r1.length];exact q.1,λp d=>?_⟩⟩
 exact f _ M1 _ _ q.2 (e1.trans (Ext.new d)) (j.new d) (sN d r1)
def OA(t:bJ):aq:=λσ M Q=>t σ M λrs M1=>rs.length<=sizeLine/\∀p,M1 p=none->Q (.ref p) (put M1 p (.lst rs))
theorem Sa(h:eJ X es t):aj X (.List es pos) (OA t):=PE.imp (J1 h) λσ0 H l h=>by
 obtain⟨k,M,Q,hs,j,i,g⟩:=h;refine⟨k,M,_,hs,j,i,λrs M1 vs H1 q e1 f r1=>⟨by rw[<-r1.length];exact q.1,λp d=>?_⟩⟩
 exact g _ _ _ _ (q.2 p (f.free d)) (e1.trans (Ext.new d)) (f.cS d ⟨vs,rfl,aa.ext (Ext.new d) rs vs r1⟩) rfl
end
section
variable {X:Cx}{pins:aF}{σ:L2.St}{H:Hp}{s:Shared}
noncomputable def chg:HO->Bool
 | .tup _| .own _| .mE _=>false
 |_=>true
theorem Inv.chg{p:Addr}{u v:HO}(I:Inv X pins σ H s)(h:H p=some u)(c:R.chg u=true)(l:∀o w,X.H₀ p≠some (.aX o w))(d:(∀{x w},aB X.prog X.w H s.heap x w->aB X.prog X.w (upd H p v) s.heap x w)->aB X.prog X.w (upd H p v) s.heap p v):Inv X pins σ (upd H p v) s:=by
 have k:∀{b w},H b=some w->R.chg w=false->upd H p v b=some w:=λ{b w} q n=>(aZ (by rintro rfl;rw[h]at q;cases q;rw[c]at n;cases n)).trans q
 have a:∀{b},H b=none->upd H p v b=none:=λ{b} q=>(aZ (by rintro rfl;rw[h]at q;cases q)).trans q
 have st:∀{x w},aB X.prog X.w H s.heap x w->aB X.prog X.w (upd H p v) s.heap x w:=λz=>z.fu (λ_ _ _ q=>q) (λ_ q=>k q rfl) λ_ _ q=>k q rfl
 refine⟨I.ok,I.os,I.bare,⟨I.base.keep,I.base.slot,λb o q w x=>a (I.base.free b o q w x),I.base.there,λb r q=>k (I.base.bO b r q) rfl,λb o u q=>?_,λb m q=>(I.base.fw b m q).imp λ_ z=>k z rfl⟩,I.loc,I.cell,a I.free,λx c q=>a (I.cg x c q),λq j=>?_,λb w q=>?_,I.len⟩
 . exact(aZ (by rintro rfl;exact l _ _ q)).trans (I.base.aY b o u q)
 . obtain⟨f,g,i⟩:=I.pin q j
   exact⟨f,a g,i⟩
 . by_cases e:b=p
   . subst e;rw[ej]at q;cases q;exact d st
   . rw[aZ e]at q;exact st (I.av b w q)
theorem freeze{p:Addr}(I:Inv X pins σ H s)(h:H p=some (.lst xs)):∃o,Inv X pins σ (upd H p (.aX o (.lst xs))) s:=by
 obtain⟨z,ae,n,r,e⟩:=I.av p _ h;exact⟨_,Inv.chg I h rfl (λo w q=>by rw[I.base.aY p o w q]at h;cases h) λ_=>⟨e,z,ae,n,r,e⟩⟩
theorem frozen(h:EP X pins σ (λv a=>∃H1 p xs,v= .ref p/\H1 p=none/\a=upd H1 p (.lst xs)/\∀o,Q (.ref p) (upd H1 p (.aX o (.lst xs)))) u s):EP X pins σ Q u s:=by
 obtain⟨v,a,I,r,H1,p,xs,rfl,c,rfl,q⟩:=h;obtain⟨o,b⟩:=freeze I (p:=p) (xs:=xs) ej;rw[Wk]at b;exact⟨.ref p,_,b,r,q o⟩
end
section
variable {X:Cx}{es:bc}{t:bJ}{pos:Pos}
def OB(t:bJ):aq:=λσ M Q=>t σ M λrs M1=>rs.length<=sizeLine/\Q (.ls rs) M1
theorem Sb(h:eJ X es t):aj X (.List es pos) (OB t):=λpins s σ0 H Q0 I hw=>by
 obtain⟨σ,M,Q,hs,hv,ht,hk⟩:=hw;refine ay (J1 h pins s σ0 H (λv H'=>∃H1 p xs,v= .ref p/\H1 p=none/\H'=upd H1 p (.lst xs)/\∀o,Q0 (.ref p) (upd H1 p (.aX o (.lst xs)))) I ?_) λ_ _ e=>frozen e
 refine⟨σ,M,_,hs,hv,ht,λrs M1 vs H1 q e1 v1 r1=>⟨by rw[<-r1.length];exact q.1,λp hp=>⟨H1,p,vs,rfl,hp,rfl,λo=>?_⟩⟩⟩
 exact hk _ M1 _ _ q.2 (e1.trans (Ext.new hp)) (v1.new hp) (kh hp r1)
end
section
variable {X:Cx}{st:Stmt}{rest:List Stmt}{t u:dz}{e:Expr}{te:aq}{pos:Pos}
def Lq:dz:=λD a M=>D.nx a M
def Ph(t u:dz):dz:=λD a M=>t { D with nx:=u D } a M
theorem Rl:kD X [] Lq:=gq.imp WZ λD0 a H h=>by
 obtain⟨f,M,D,hs,d,c,b⟩:=h;exact b.nx f M a H c (.refl H) d hs
theorem ZU(h1:eL X st t)(h2:kD X rest u):kD X (st::rest) (Ph t u):=gq.imp (VL h1 h2) λD0 σ0 H h=>by
 obtain⟨σ,M,D,hs,hv,ht,hd⟩:=h;refine⟨σ,M,_,hs,hv,ht,⟨λσ' M' σ0' H' q e w r=>?_,hd.rt,hd.bk,hd.ct⟩⟩
 exact⟨σ',M',D,r,w,q,hd.ext e⟩
def Lw(te:aq):dz:=λD a M=>te a M λ_ M1=>D.nx a M1
theorem ZT(d:aj X e te)(hs:swapsWith e none pos.line X.env=pure false:=by rfl):eL X (.Expr e pos) (Lw te):=PS.imp (W4 d hs) λD0 a H h=>by
 obtain⟨b,M,D,hs,g,f,c⟩:=h;exact⟨b,M,_,hs,g,f,λrx M1 x H1 q e1 i r1=>c.nx b M1 a H1 q e1 i (hs.ext e1)⟩
def Pj(te:aq):dz:=λD a M=>te a M D.rt
theorem Rj(b:aj X e te):eL X (.Return (some e) pos) (Pj te):=PS.imp (YT b) λD0 g H h=>by
 obtain⟨f,M,D,hs,d,c,a⟩:=h;exact⟨f,M,_,hs,d,c,a.rt⟩
def KZ:dz:=λD _ M=>D.rt .aw M
theorem quW:eL X (.Return none pos) KZ:=PS.imp W3 λD0 d H h=>by
 obtain⟨f,M,D,hs,c,b,a⟩:=h;exact a.rt .aw M .aw H b (.refl H) c rfl
def ze(c:dP)(t u:dz):dz:=λD a M=>c a M λb M1=>(b=true->t D a M1)/\(b=false->u D a M1)
theorem sif{a b:List Stmt}(l:d8 X c tc)(i:kD X a t)(j:kD X b u):eL X (.If c a b pos) (ze tc t u):=PS.imp (qvJ l i j) λD0 o H h=>by
 obtain⟨d,M,D,hs,n,m,f⟩:=h;refine⟨d,M,_,hs,n,m,λk M1 H1 q e1 g=>?_⟩
 cases k with
 |true=>exact rh ⟨d,M1,D,hs.ext e1,g,q.1 rfl,f.ext e1⟩
 |false=>exact rH ⟨d,M1,D,hs.ext e1,g,q.2 rfl,f.ext e1⟩
def vN(i:Nat)(te:aq):dz:=λD a M=>te a M λx M1=>D.nx (a.set i (some x)) M1
theorem sset(i){x:Str}(c:aj X e te)(a:X.N.Nodup)(hi:X.N[i]? =some x:=by rfl)(hx:Loc X.env.scope x)(hs:swapsWith e (some (.Name x pos')) pos.line X.env=pure false:=by rfl)
 (d:X.fn x=true∨X.env.scope.names.lookup x=some .local):eL X (.Assign [.Name x pos'] e pos) (vN i te):=PS.imp (YS a hi hx c hs d) λD0 l H h=>by
 obtain⟨k,M,D,hs,g,f,b⟩:=h;exact⟨k,M,_,hs,g,f,λrx M1 x H1 q e1 j r1=>b.nx _ M1 _ H1 q e1 j ((hs.ext e1).set r1 i)⟩
abbrev jA:=RV->bw->RM->(bw->RM->Prop)->Prop
def upG(K:ah)(g:jA):TG:=λv a H c=>∃rv b M Q,Rep K H rv v/\aP K H b a/\View K H M/\g rv b M Q/\n8 K H Q c
def nY(X:Cx)(a:Expr)(g:jA):Prop:=PG X a (upG X.K g)
theorem PG.imp{tg:Expr}{t t':TG}(h:PG X tg t)(i:∀v σ H Q,t' v σ H Q->t v σ H Q):PG X tg t':=λpins s σ H v u Q I r w=>h pins s σ H v u Q I r (i v σ H Q w)
def jU(i:Nat):jA:=λx a M Q=>Q (a.set i (some x)) M
theorem qwq(i){x:Str}(a:X.N.Nodup)(hi:X.N[i]? =some x:=by rfl)(hx:Loc X.env.scope x)
 (b:X.fn x=true∨X.env.scope.names.lookup x=some .local):nY X (.Name x pos) (jU i):=PG.imp (yr a hi hx b) λv j H k h=>by
 obtain⟨rv,l,M,Q,f,hs,g,c,d⟩:=h;exact d _ M _ H c (.refl H) g (hs.set f i)
noncomputable def u5:bw->List Nat->LR->bw
 |σ,i::is,x::xs=>u5 (σ.set i (some x)) is xs
 |σ,_,_=>σ
def mz:List Nat->mS
 | []=>OV
 |i::is=>LB (CT i) (mz is)
theorem Jh{K:ah}:∀{is:List Nat} {rs:LR} {vs:LV} {σ:bw} {σ0:L2.St},rs.length=is.length->aa K H rs vs->aP K H σ σ0->
 (∀a,aP K H (u5 σ is rs) a->Q0 a H)->mz is vs σ0 H Q0
 | [],[],vs,σ,σ0,_,r,hs,k=>by
  simp only[aa]at r;exact⟨r,k σ0 hs⟩
 |i::is,x::rs,vs,σ,σ0,hl,r,hs,k=>by
  obtain⟨v,b,rfl,c,d⟩:=r;refine⟨v,b,rfl,?_⟩;show mz is b (σ0.set i (some v)) H Q0;exact Jh (σ:=σ.set i (some x)) (by simpa using hl) d (hs.set c i) k
def wj(is:List Nat):jA:=λx a M Q=>match x with| .tup xs=>xs.length=is.length/\Q (u5 a is xs) M|_=>False
theorem RQ{is:List Nat}{n:Nat}(hc:X.calm=true)(h:nX X es (mz is))(hl:n=is.length:=by rfl)
 (hn:(assignEach es X.env).length=n:=by rfl) (hst:(assignEach es X.env).findIdx? (·.1)=none:=by rfl):nY X (.Tuple es k pos) (wj is):=PG.imp (J0 hc h hn hst) λv σ0 H Q0 h=>by
 obtain⟨rv,σ,M,Q,hr,hs,hv,hg,hk⟩:=h;cases rv with
 |tup xs=>
  obtain⟨a,vs,rfl,h1,h2⟩:=hr;exact⟨a,vs,rfl,bS.of h1,by rw[<-h2.length,hl];exact hg.1,Jh hg.1 h2 hs λσ0' q=>hk _ M σ0' H hg.2 (.refl H) hv q⟩
 |_=>exact hg.elim
def C7(te:aq)(g:jA):dz:=λD a M=>te a M λx M1=>g x a M1 D.nx
theorem Pa{tg e:Expr}{g:jA}{pos:Pos}(he:aj X e te)(hg:nY X tg g)(hs:swapsWithSole [tg] e pos.line X.env=pure false:=by rfl)(hw:swappedStores [tg] e X.env=pure none:=by rfl)
 (h1:(assignEach [tg] X.env).map (·.2)= [assign tg X.env]:=by rfl):eL X (.Assign [tg] e pos) (C7 te g):=PS.imp (YX he hg hs hw h1) λD0 σ0 H h=>by
 obtain⟨σ,M,D,hs,hv,ht,hd⟩:=h;exact⟨σ,M,_,hs,hv,ht,λrx M1 x H1 q e1 v1 r1=>⟨rx,σ,M1,D.nx,r1,hs.ext e1,v1,q,hd.nx.ext e1⟩⟩
abbrev yU:=RV->RV->RV->RM->(RM->Prop)->Prop
noncomputable def K9 (K:ah)(g:yU):zu:=λo i v H d=>∃ro ri c M Q,Rep K H ro o/\Rep K H ri i/\Rep K H c v/\View K H M/\g ro ri c M Q/\∀b a,Q b->Ext H a->View K a b->d a
def K6(to ti:aq)(g:yU):jA:=λv σ M Q=>to σ M λo M1=>ti σ M1 λi M2=>g o i v M2 λM3=>Q σ M3
theorem RS{o i:Expr}{g:yU}(ho:aj X o to)(hi:aj X i ti)(hs:zv X (K9 X.K g))
 (ha:∀v,assign (.Subscript o i pos) X.env v=(do
  let ov<-holding [v] (eval o X.env)
  let iv<-holding [v,ov] (eval i X.env)
  standAt pos
  holding [v,ov,iv] (setItem ov iv v)
  release [v,ov,iv] []):=by intro _;rfl):nY X (.Subscript o i pos) (K6 to ti g):=PG.imp (YZ ho hi hs ha) λv σ0 H Q0 h=>by
 obtain⟨rv,σ,M,Q,hr,hs,hv,hg,hk⟩:=h;refine⟨σ,M,_,hs,hv,hg,λro M1 o H1 q e1 v1 r1=>?_⟩
 refine⟨σ,M1,_,hs.ext e1,v1,q,λri M2 i H2 q2 e2 v2 r2=>?_⟩
 refine⟨ro,ri,rv,M2,_,Rep.ext e2 ro o r1,r2,Rep.ext (e1.trans e2) rv v hr,v2,q2,λM3 H3 q3 e3 v3=>?_⟩
 have e:=(e1.trans e2).trans e3;exact hk σ M3 σ0 H3 q3 e v3 (hs.ext e)
noncomputable def jQ (g:jA)(tb:dz)(D:RD)(ok:RM->Prop)(un:RM->RM):LR->bw->RM->Prop
 | [],σ,M=>ok M/\D.nx σ (un M)
 |x::r,σ,M=>ok M/\g x σ M λσ2 M2=>tb { D with nx:=jQ g tb D ok un r,ct:=jQ g tb D ok un r,bk:=λσ M=>ok M/\D.nx σ (un M),rt:=λv M=>ok M/\D.rt v (un M) } σ2 M2
end
open PySem.SeqAt (EqAt RcAt RcNeAt)
mutual
def cK:RV->RV->Bool
 | .aw,.aw=>true
 | .bl a,.bl b=>a==b
 | .bl a,.int b=>(if a then 1 else 0)==b
 | .int a,.bl b=>a==(if b then 1 else 0)
 | .int a,.int b=>a==b
 | .str a,.str b=>a==b
 | .tup xs,.tup ys=>jq xs ys
 | .ls xs,.ls ys=>jq xs ys
 |_,_=>false
def jq:LR->LR->Bool
 | [],[]=>true
 |x::xs,y::ys=>cK x y&&jq xs ys
 |_,_=>false
end
noncomputable def bK:Nat->RV->Bool
 |_,.aw=>true
 |_,.bl _=>true
 |_,.int _=>true
 |_,.str _=>true
 |n+1,.tup xs=>xs.all (bK n)
 |n+1,.ls xs=>xs.all (bK n)
 |_,_=>false
section
variable {h:Heap}{xs ys:LR}{us:au}{u:Value}
mutual
def Den(h:Heap):RV->Value->Prop
 | .aw,u=>u= .none
 | .bl b,u=>u= .bool b
 | .int i,u=>∃t,u= .int i t
 | .str x,u=>∃t,u= .str x t
 | .tup xs,u=>∃a ae,u= .ref a/\h.IsTuple a ae.toArray/\cy h xs ae
 | .ls xs,u=>∃a ae,u= .ref a/\h.IsList a ae.toArray/\cy h xs ae
 | .ref _,_=>False
 | .ty _,_=>False
def cy(h:Heap):LR->au->Prop
 | [],us=>us= []
 |x::xs,us=>∃u r,us=u::r/\Den h x u/\cy h xs r
end
theorem cy.length:∀{xs us},cy h xs us->xs.length=us.length
 | [],_,d=>by cases d;rfl
 |_::_,_,⟨_,_,e,_,t⟩=>by rw[e,bW,bW,t.length]
theorem cy.get:∀{xs us} {j:Nat},cy h xs us->us[j]? =some u->Den h (xs.getD j .aw) u/\xs.getD j .aw∈xs
 | [],_,_,d,e=>by cases d;cases e
 |_::_,_,0,⟨_,_,e1,a,_⟩,e=>by cases e1;cases e;exact⟨a,.head _⟩
 |_::_,_,_+1,⟨_,_,e1,_,t⟩,e=>by cases e1;exact(t.get e).imp id (.tail _)
theorem Vals.cons_inv{v:V}{vs:LV}(r:Vals (v::vs) us):∃u c,us=u::c/\RelV v u/\Vals vs c:=by
 cases r with
 |cons a b=>exact⟨_,_,rfl,a,b⟩
mutual
theorem u9{X:Cx}{pins:aF}{σ:L2.St}{H:Hp}{s:Shared}(I:Inv X pins σ H s){v:V}{u}:∀n {r},Rep X.K H r v->bK n r=true->RelV v u->Den s.heap r u
 |_,.aw,h,_,w|_,.bl _,h,_,w|_,.int _,h,_,w|_,.str _,h,_,w=>by cases h;exact w
 |n,.tup _,⟨_,_,e,h1,h2⟩,o,w=>by
  cases e;cases n with|zero=>cases o|succ n=>
  obtain⟨_,rv,ht,_⟩:=I.tuple (bS.of h1);exact⟨_,_,w,ht,yB I n o h2 rv⟩
 |n,.ls _,⟨_,_,e,h1,h2⟩,o,w=>by
  cases e;cases n with|zero=>cases o|succ n=>
  obtain⟨_,rv,ht,_⟩:=I.list h1.sq;exact⟨_,_,w,ht.isList,yB I n o h2 rv⟩
 |n,.ref _,_,o,_|n,.ty _,_,o,_=>by cases n<;>cases o
theorem yB{X:Cx}{pins:aF}{σ:L2.St}{H:Hp}{s:Shared}(I:Inv X pins σ H s){vs:LV}{us}:∀n {rs},rs.all (bK n)=true->aa X.K H rs vs->Vals vs us->cy s.heap rs us
 |_,[],_,h,w=>by cases h;cases w;rfl
 |n,_::_,o,⟨_,_,e,h1,h2⟩,w=>by
  cases e;obtain⟨_,_,rfl,w1,w2⟩:=Vals.cons_inv w;obtain⟨o1,o2⟩:=uj.mp o;exact⟨_,_,rfl,u9 I n h1 o1 w1,yB I n o2 h2 w2⟩
end
theorem Ja{a:Addr}{p q:Array Value}(i:h.IsTuple a p∨h.IsList a p)(j:h.IsTuple a q∨h.IsList a q):p=q:=by
 obtain⟨_,e,_,_,d⟩|⟨_,e,_,_,d⟩:=i<;>obtain⟨_,f,_,_,g⟩|⟨_,f,_,_,g⟩:=j<;>cases e.symm.trans f<;>cases d.symm.trans g<;>rfl
theorem IT{a:Addr}{p q:Array Value}(i:h.IsList a p)(j:h.IsTuple a q):False:=by
 obtain⟨_,e,c,_⟩:=i;obtain⟨_,f,g,_⟩:=j;cases e.symm.trans f;exact aU (c.symm.trans g) (by decide+kernel)
mutual
theorem BQ:∀{x y u},Den h x u->Den h y u->x=y
 | .ref _,_,_,d,_| .ty _,_,_,d,_=>d.elim
 | .tup _,y,_,⟨_,_,e,p,d⟩,g=>by
  cases e;cases y<;>first|cases g;done|(obtain⟨_,e⟩:=g;cases e;done)|(obtain⟨_,_,e,q,g⟩:=g;cases e;first|exact(IT q p).elim|(cases Ja (.inl p) (.inl q);exact congrArg _ (BD d g)))
 | .ls _,y,_,⟨_,_,e,p,d⟩,g=>by
  cases e;cases y<;>first|cases g;done|(obtain⟨_,e⟩:=g;cases e;done)|(obtain⟨_,_,e,q,g⟩:=g;cases e;first|exact(IT p q).elim|(cases Ja (.inr p) (.inr q);exact congrArg _ (BD d g)))
 | .aw,y,_,d,g| .bl _,y,_,d,g| .int _,y,_,d,g| .str _,y,_,d,g=>by
  first|subst d|(obtain⟨_,e⟩:=d;subst e)
  cases y<;>first|(obtain⟨_,_,e,_⟩:=g;cases e;done)|(obtain⟨_,e⟩:=g;cases e<;>rfl)|(cases g<;>rfl)
theorem BD:∀{xs ys us},cy h xs us->cy h ys us->xs=ys
 | [],[],_,_,_=>rfl
 | [],_::_,_,d,⟨_,_,e,_⟩|_::_,[],_,⟨_,_,e,_⟩,d=>by cases d;cases e
 |_::_,_::_,_,⟨_,_,e,a,b⟩,⟨_,_,f,c,d⟩=>by cases e;cases f;rw[BQ a c,BD b d]
end
end
mutual
theorem c8:∀(x:RV),(∃n,bK n x=true)->cK x x=true
 | .aw,_=>rfl
 | .bl _,_| .int _,_| .str _,_=>beq_self_eq_true _
 | .tup _,⟨n,o⟩| .ls _,⟨n,o⟩=>by cases n;cases o;exact Hl _ ⟨_,o⟩
 | .ref _,⟨n,o⟩| .ty _,⟨n,o⟩=>by cases n<;>cases o
theorem Hl:∀(xs:LR),(∃n,xs.all (bK n)=true)->jq xs xs=true
 | [],_=>rfl
 |_::_,⟨n,o⟩=>by
  obtain⟨a,b⟩:=uj.mp o;exact uj.mpr ⟨c8 _ ⟨n,a⟩,Hl _ ⟨n,b⟩⟩
end
theorem BP:∀a b:LR,((List.range (min a.length b.length)).all (λj=>cK (a.getD j .aw) (b.getD j .aw))&&a.length==b.length)=jq a b
 | [],[]| [],_::_|_::_,[]=>by simp;rfl
 |x::a,y::b=>by
  show _=(cK x y&&jq a b);rw[bW,bW,Nat.succ_min_succ,List.range_succ_eq_map,fz,List.all_map,<-BP a b,Bool.and_assoc];simp;rfl
theorem in1_units(A:Around):A.in1.units=A.units+1:=rfl
section
local macro_rules | `(tactic| fail"eq3") => do
 let K:=["none","bool","int","str","tuple","list"]
 let g(t:Lean.TSyntax `tactic)(n:String):Lean.MacroM (Lean.TSyntax `tactic):=
  let f x:=Lean.mkIdent (x++n).toName
  `(tactic|($t:tactic;first|exact⟨by first|exact EqAt.same _|(apply $(f "EqAt")<;>assumption),by apply $(f "RcAt")<;>assumption,by apply $(f "RcNeAt")<;>assumption⟩|rotate_left))
 let r<-(K.flatMap fun a=>K.map fun b=>"."++a++"_"++b).foldlM g (<-`(tactic|skip))
 return r
def E3(s:Shared)(n:Nat):Prop:=∀{x y:RV} {A:Around} {u w:Value},bK n x=true->bK n y=true->Den s.heap x u->Den s.heap y w->A.units+n<cLine->EqAt A s u w (cK x y)/\RcAt A s u w (cK x y)/\RcNeAt A s u w (!cK x y)
theorem KS0{s:Shared}{n:Nat}{x y:RV}{A:Around}{a b:Addr}(o:bK n x=true)(g:Den s.heap x (.ref a))(h:Den s.heap y (.ref b))(z:RcAt A s (.ref a) (.ref b) (cK x y)/\RcNeAt A s (.ref a) (.ref b) (!cK x y)):EqAt A s (.ref a) (.ref b) (cK x y)/\RcAt A s (.ref a) (.ref b) (cK x y)/\RcNeAt A s (.ref a) (.ref b) (!cK x y):=by
 by_cases e:a=b
 . subst e;cases BQ g h;exact⟨c8 _ ⟨n,o⟩ ▸ .same _,z⟩
 . exact⟨.of_refs e z.1,z⟩
theorem KS{s:Shared}{n:Nat}(L:∀m,n=m+1->E3 s m):E3 s n:=λ{x y A u w} o D g h J=>by
 have c:A.units<cLine:=iJ (Nat.le_add_right _ _) J
 have d:∀{m},n=m+1->∀{t v:LR} {us r:au},t.all (bK m)=true->v.all (bK m)=true->cy s.heap t us->cy s.heap v r->
  ∀j (M:j<us.toArray.size) (N:j<r.toArray.size),EqAt A.in1 s us.toArray[j] r.toArray[j] (cK (t.getD j .aw) (v.getD j .aw)):=λ{m} e t v us r o1 O d1 d2 j M N=>by
  obtain⟨E,H⟩:=d1.get (j:=j) (u:=us.toArray[j]) (by simp)
  obtain⟨F,I⟩:=d2.get (j:=j) (u:=r.toArray[j]) (by simp)
  subst e;exact(L m rfl (fx.mp o1 _ H) (fx.mp O _ I) E F (by rw[in1_units];lia)).1
 cases x
 all_goals first|exact g.elim|obtain⟨_,k,rfl,p1,d1⟩:=g|obtain⟨_,rfl⟩:=g|cases g
 all_goals cases y
 all_goals first|exact h.elim|obtain⟨_,l,rfl,f,d2⟩:=h|obtain⟨_,rfl⟩:=h|cases h
 fail"eq3"
 . refine KS0 o ⟨_,_,rfl,p1,d1⟩ ⟨_,_,rfl,f,d2⟩ ?_
   cases n with|zero=>cases o|succ m=>
   have i:=d rfl o D d1 d2;show RcAt _ _ _ _ (jq _ _)/\RcNeAt _ _ _ _ (!jq _ _);rw[<-BP,d1.length,d2.length];exact⟨RcAt.tuples p1 f c i,RcNeAt.tuples p1 f c i⟩
 . refine KS0 o ⟨_,_,rfl,p1,d1⟩ ⟨_,_,rfl,f,d2⟩ ?_
   cases n with|zero=>cases o|succ m=>
   have i:=d rfl o D d1 d2;show RcAt _ _ _ _ (jq _ _)/\RcNeAt _ _ _ _ (!jq _ _);rw[<-BP,d1.length,d2.length]
   by_cases z:k.length=l.length
   . rw[<-z,Nat.min_self,beq_self_eq_true,Bool.and_true]
     exact⟨RcAt.lists p1 f z c i,RcNeAt.lists p1 f z c i⟩
   . rw[beq_false_of_ne z,Bool.and_false]
     exact⟨RcAt.lists_lengths p1 f (by simpa using z) c,RcNeAt.lists_lengths p1 f (by simpa using z) c⟩
theorem eq3{s:Shared}:∀n,E3 s n
 |0=>KS λ_ e=>by cases e
 |n+1=>KS λm e=>by cases e;exact eq3 n
end
section
variable {X:Cx}
def yQ(C:Int->Int->Prop)(g:Int->Int->RV):cJ:=λx y M Q=>match x,y with| .int i,.int j=>C i j/\Q (g i j) M|_,_=>False
def tH(g:Int->Int->RV):cJ:=λx y M Q=>match x,y with| .int i,.int j=>Q (g i j) M|_,_=>False
theorem vj{g:Int->Int->V}(h:dw X f (mD g))(e:∀{H:Hp} i j,Rep X.K H (g' i j) (g i j)):cz X f (tH g'):=by
 rintro c s r H x y v u k I n o ⟨a,b,M,Q,ra,rb,m,d,l⟩;cases a with
 |int i=>cases b with
  |int j=>exact h c s r H _ _ v u k I n o ⟨i,j,ra,rb,l.now d m (e i j)⟩
  |_=>exact d.elim
 |_=>exact d.elim
theorem C8{g:Int->Int->V}(h:dw X f (rI C g))(e:∀{H:Hp} i j,Rep X.K H (g' i j) (g i j)):cz X f (yQ C g'):=by
 rintro c s r H x y v u k I n o ⟨a,b,M,Q,ra,rb,m,d,l⟩;cases a with
 |int i=>cases b with
  |int j=>exact h c s r H _ _ v u k I n o ⟨i,j,ra,rb,d.1,l.now d.2 m (e i j)⟩
  |_=>exact d.elim
 |_=>exact d.elim
abbrev Pg:cJ:=tH λi j=>.int (i-j)
theorem Ry:cz X (binaryOp .Sub) Pg:=vj YB λ_ _=>rfl
abbrev Pr:cJ:=yQ (λ_ j=>0<j) λi j=>.int (i % j)
theorem RE:cz X (binaryOp .Mod) Pr:=C8 YF λ_ _=>rfl
abbrev OH:cJ:=yQ (λ_ j=>0<j/\j<1073741824) λi j=>.int (i / j)
theorem RH:cz X (binaryOp .FloorDiv) OH:=C8 WE λ_ _=>rfl
abbrev Pk:cJ:=yQ (λi j=>0<=j/\j<=1000000/\i.natAbs<2 ^ 64) λi j=>.int (i ^ j.toNat)
theorem RA:cz X (binaryOp .Pow) Pk:=C8 YD λ_ _=>rfl
abbrev Pz:cJ:=tH λi j=>.bl (decide (i<j))
theorem QC:cz X (compareOp .Lt) Pz:=vj qvT λ_ _=>rfl
abbrev Py:cJ:=tH λi j=>.bl (decide (i<=j))
theorem Qz:cz X (compareOp .LtE) Py:=vj qvU λ_ _=>rfl
abbrev Pw:cJ:=tH λi j=>.bl (decide (j<i))
theorem Qv:cz X (compareOp .Gt) Pw:=vj qvV λ_ _=>rfl
abbrev Pu:cJ:=tH λi j=>.bl (decide (j<=i))
theorem Qu:cz X (compareOp .GtE) Pu:=vj qvW λ_ _=>rfl
noncomputable def Pe (x:Str)(n:Nat):Str:=⟨(List.replicate n x.cps).foldl (. ++ ·) #[]⟩
theorem size_rep(a:Array α):∀(n:Nat) (acc:Array α),((List.replicate n a).foldl (. ++ ·) acc).size=acc.size+n*a.size
 |0,acc=>by simp
 |n+1,acc=>by
  rw[um,List.foldl_cons,size_rep a n,Array.size_append,Nat.succ_mul];lia
noncomputable def Pq:cJ:=λx y M Q=>match x,y with
 | .int i,.int j=>iM i j/\Q (.int (i*j)) M
 | .str z,.int k=>2<=k/\k<=1000/\z.length=1/\Q (.str (Pe z k.toNat)) M
 | .ref a,.int k=>∃b,M a=some (.lst b)/\-(2 ^ 63)<=k/\k<2 ^ 63/\b.length*k.toNat<=sizeLine/\Q (.ls (List.replicate k.toNat b).flatten) M
 |_,_=>False
theorem Hv{K:ah}{vs:LV}(r:aa K H xs vs):∀n:Nat,aa K H (List.replicate n xs).flatten (List.replicate n vs).flatten
 |0=>rfl
 |n+1=>r.append (Hv r n)
theorem RC:cz X (binaryOp .Mult) Pq:=by
 rintro f s D H x y v u r I l m ⟨a,b,M,Q,ra,rb,h,d,j⟩;cases b with
 |int k=>cases a with
  |int i=>exact YE f s D H x y v u r I l m ⟨i,k,ra,rb,d.1,j.now d.2 h rfl⟩
  |str z=>
   cases ra;cases rb;obtain⟨t,rfl⟩:=l;obtain⟨O,rfl⟩:=m;obtain⟨w,A,g,d⟩:=d;have N:(1000:Nat)<=sizeLine:=by decide
   refine PySem.P.mul_str ?_ ?_ ?_ ?_
   . rw[fy ∅,fy ∅];rfl
   . rw[g]
     intro _ _ J;have:=Int.le_ediv_of_mul_le (c:=k) (a:=1) (b:=2 ^ 63-1) ∅ ∅
     lia
   . rw[g];intro _ _;exact fy ∅
   . rw[ab ∅,show(k==1||z.length==0)=false by rw[g];simp;lia]
     refine⟨?_,.str (Pe z k.toNat),H,I.tok _,⟨_,rfl⟩,j.now d h rfl⟩;show Array.size (List.foldl _ _ _)<=sizeLine;rw[size_rep,show z.cps.size=1 from g,Array.size_empty]
     lia
  |ref p=>
   obtain⟨n,L,w,A,g,F⟩:=d;obtain⟨_,e,vs,rfl,C⟩:=h p _ L;exact ay (YC f s D H x y v u (λv E=>∃H1 p n,v= .ref p/\H1 p=none/\E=upd H1 p (.lst n)/\∀o,r (.ref p) (upd H1 p (.aX o (.lst n)))) I l m ⟨p,k,vs,ra,rb,e,w,A,by rw[<-C.length];exact g,λq d=>⟨H,q,_,rfl,d,rfl,λo=>
    j _ M _ _ F (Ext.new d) (h.new d) (kh d (Hv C _))⟩⟩) λ_ _ e=>frozen e
  |_=>exact d.elim
 |_=>cases a<;>exact d.elim
noncomputable def zi:cJ:=λx y M Q=>match x,y with
 | .int i,.int j=>Q (.int (i+j)) M
 | .str i,.str j=>i.length+j.length<=sizeLine/\Q (.str (i++j)) M
 | .tup xs,.tup ys=>xs.length+ys.length<=sizeLine/\Q (.tup (xs++ys)) M
 | .ls xs,.ls ys=>xs.length+ys.length<=sizeLine/\Q (.ls (xs++ys)) M
 |_,_=>False
theorem V1{s:Shared}{t b:Addr}{o:au}(v:IsTup s.heap t ([]:au).toArray)(u:IsTup s.heap b o.toArray)(h:Q (.ref b) s):
 wpAny (model prog w) A (binaryOp .Add (.ref t) (.ref b)) Q E s:=by
 obtain⟨⟨r,dd,j,sl⟩,m,k,n,l⟩:=id v;obtain⟨⟨i,f,e,g⟩,d,a,x,c⟩:=id u;simp only at k l a c;subst k l a c;exact concat_meets ⟨_,m,rfl⟩ ⟨_,d,rfl⟩ noFill_tuple_add seq_tuple_add PySem.F.slot_tuple_add PySem.F.entry_tuple_add (PySem.F.args_tuple_add_2 _ _)
  (tuple_addW0 t b [].toArray o.toArray n x dd f sl g (by simp)) ⟨m,d,h⟩
theorem Xk{s:Shared}{l b:Addr}{vs ws:au}(hl:s.heap.IsList l vs.toArray)(hb:s.heap.IsList b ws.toArray)
 (h:Q (.ref s.heap.objs.size) { s with heap:=s.heap.push { cls:=.type "list",data:=.seq (vs++ws).toArray } }) (hsz:vs.length+ws.length<=sizeLine):
 wpAny (model prog w) A (binaryOp .Add (.ref l) (.ref b)) Q E s:=by
 obtain⟨⟨cls,dd,data,sl⟩,ho,hc,n,hd⟩:=id hl;obtain⟨⟨cls2,dd2,data2,sl2⟩,ho2,hc2,n2,hd2⟩:=id hb;simp only at hc hd hc2 hd2;subst hc hd hc2 hd2;have e:vs.toArray++ws.toArray=(vs++ws).toArray:=by simp
 refine concat_meets ⟨_,ho,rfl⟩ ⟨_,ho2,rfl⟩ noFill_list_add seq_list_add PySem.F.slot_list_add PySem.F.entry_list_add (PySem.F.args_list_add_2 _ _) (list_addW l b vs.toArray ws.toArray n n2 dd dd2 sl sl2 (by simpa using hsz)) ⟨ho,ho2,?_⟩
 rw[e];exact h
theorem RI:cz X (binaryOp .Add) zi:=by
 rintro c s z H x y v u m I j k ⟨a,b,M,Q,ra,rb,i,f,h⟩;cases a<;>cases b<;>first|exact f.elim|skip
 . exact YH c s z H x y v u m I j k ⟨_,_,ra,rb,h.now f i rfl⟩
 . exact Ti c s z H x y v u m I j k ⟨_,_,ra,rb,f.1,h.now f.2 i rfl⟩
 all_goals obtain⟨w,f⟩:=f
 all_goals obtain⟨p,vs,rfl,r,t⟩:=ra
 all_goals obtain⟨q,D,rfl,g,d⟩:=rb
 all_goals rw[t.length,d.length]at w
 . by_cases E:vs= []
   . subst E
     cases wC.mp t.length;cases j;cases k;obtain⟨_,r1,p1,_⟩:=I.tuple (bS.of r);obtain⟨_,_,C,_⟩:=I.tuple (bS.of g);cases r1;exact V1 p1 C ⟨.ref q,H,I,rfl,h.now f i ⟨q,D,rfl,g,d⟩⟩
   . refine WG c s z H _ _ v u m I j k ⟨p,q,vs,D,rfl,rfl,.of r,.of g,E,w,λe=>?_,λe l A=>h _ M _ _ f (Ext.new A) (i.new A) (sN A (t.append d))⟩
     subst e;cases wC.mp d.length;exact h.now f i ⟨p,vs,rfl,r,by rwa [nU]⟩
 . cases j;cases k
   obtain⟨_,r1,p1,_⟩:=I.list r.sq;obtain⟨_,F,C,_⟩:=I.list g.sq;have n:=I.av.fresh (aD s.heap.objs.size);refine ay (Xk (Q:=EP X c z (λv L=>∃H1 p J,v= .ref p/\H1 p=none/\L=upd H1 p (.lst J)/\∀o,m (.ref p) (upd H1 p (.aX o (.lst J))))) p1.isList C.isList ?_ (by rw[<-r1.length,<-F.length];exact w)) λ_ _ e=>frozen e
   exact⟨.ref s.heap.objs.size,upd H s.heap.objs.size (.lst (vs++D)),I.laid (t':=s.toks) (λb ob q=>bx _ q) (aD _) ⟨by rw[fF];exact w,_,0,r1.append F,c0 _ rfl⟩,rfl,H,_,_,rfl,n,rfl,λo=>h _ M _ _ f (Ext.new n) (i.new n) (kh n (t.append d))⟩
noncomputable def ka:RV->Bool
 | .aw=>true
 |_=>false
theorem Jt{K:ah}{a:RV}{x:V}(h:Rep K H a x):decide (x= .aw)=ka a:=by
 cases a<;>first|(cases h<;>rfl;done)|(obtain⟨_,_,rfl,_⟩:=h;rfl)
def Px:cJ:=λx y M Q=>match y with| .aw=>Q (.bl (ka x)) M|_=>False
def Kn:cJ:=λx y M Q=>match y with| .aw=>Q (.bl (!ka x)) M|_=>False
theorem Qx:cz X (compareOp .Is) Px:=by
 rintro c s j H x y v u e I h i ⟨a,b,M,Q,ra,rb,g,d,f⟩;cases b with
 |aw=>exact YG c s j H x y v u e I h i ⟨rb,by rw[Jt ra];exact f.now d g rfl⟩
 |_=>exact d.elim
theorem YL:cz X (compareOp .IsNot) Kn:=by
 rintro c s j H x y v u e I h i ⟨a,b,M,Q,ra,rb,g,d,f⟩;cases b with
 |aw=>exact WD c s j H x y v u e I h i ⟨rb,by rw[Jt ra];exact f.now d g rfl⟩
 |_=>exact d.elim
noncomputable def d7:cJ:=λx y M Q=>match x,y with
 | .tup xs,.int i=>match bT xs i with|some v=>Q v M|none=>False
 | .ls xs,.int i=>match bT xs i with|some v=>Q v M|none=>False
 | .ref a,.int i=>match M a with
  |some (.lst xs)=>match bT xs i with|some v=>Q v M|none=>False
  |_=>False
 | .str z,.int i=>z.length<=sizeLine/\match bT z.cps.toList i with|some c=>Q (.str ⟨#[c]⟩) M|none=>False
 |_,_=>False
theorem Qy:uq X (ub X.K d7):=by
 rintro f d g s o H x y v u k I m n ⟨a,b,M,Q,ra,rb,j,c,l⟩ hs;cases b with
 |int i=>
  cases a<;>first|exact c.elim|simp only[d7]at c
  . obtain⟨t,c⟩:=c
    split at c
    . exact Zw f d g s o H x y v u k I m n ⟨_,i,_,ra,rb,t,‹_›,l.now c j rfl⟩ hs
    . exact c.elim
  . split at c
    . obtain⟨_,e,vs,rfl,h⟩:=j _ _ ‹_›
      split at c
      . obtain⟨w,e1,r1⟩:=h.bT ‹_›
        exact Jp f d g s o H x y v u k I m n ⟨_,vs,i,w,ra,rb,c7.of e,e1,l.now c j r1⟩ hs
      . exact c.elim
    . exact c.elim
  . obtain⟨p,vs,rfl,r,h⟩:=ra
    split at c
    . obtain⟨w,e1,r1⟩:=h.bT ‹_›
      exact Zv f d g s o H _ y v u k I m n ⟨p,vs,i,w,rfl,rb,.of r,e1,l.now c j r1⟩ hs
    . exact c.elim
  . obtain⟨p,vs,rfl,r,h⟩:=ra
    split at c
    . obtain⟨w,e1,r1⟩:=h.bT ‹_›
      exact Jp f d g s o H _ y v u k I m n ⟨p,vs,i,w,rfl,rb,r.sq,e1,l.now c j r1⟩ hs
    . exact c.elim
 |_=>cases a<;>exact c.elim
theorem rix{a b:Expr}{c tb:aq}(d:aj X a c)(e:aj X b tb)(hs:JQ b:=by intro _ _;rfl):aj X (.Subscript a b pos) (nI d7 c tb):=PE.imp (qvP Qy d e hs) λ_ _ _ h=>yw h
noncomputable def qX:yU:=λo i v M Q=>match o,i with
 | .ref p,.int k=>match M p with
  |some (.lst xs)=>match fT xs.length k with|some j=>Q (put M p (.lst (xs.set j v)))|none=>False
  |_=>False
 |_,_=>False
theorem qvS:zv X (K9 X.K qX):=by
 rintro f s x H o i v t iv u m I ro ri rv ⟨a,b,c,M,Q,ra,rb,w,l,d,r⟩;cases a with
 |ref p=>cases b with
  |int k=>
   simp only[qX]at d;split at d
   . rename_i y g
     obtain⟨_,e,vs,rfl,h⟩:=l p _ g;split at d
     . rename_i j n
       have ex:Ext H (upd H p (.lst (vs.set j v))):=Ext.write e rfl;exact set_list f s x H o i v t iv u m I ro ri rv ⟨p,vs,k,j,ra,rb,e,by rw[<-h.length];exact n,r _ _ d ex (l.write g ⟨_,rfl,aa.ext ex _ _ (h.set w j)⟩)⟩
     . exact d.elim
   . exact d.elim
  |_=>exact d.elim
 |_=>cases b<;>exact d.elim
def eS(K:ah)(r:LR->RM->ak->Prop):LV->Hp->VK->Prop:=λvs H a=>∃rs M Q,aa K H rs vs/\View K H M/\r rs M Q/\iN K H Q a
def kj(r:LR->RM->ak->Prop)(t:bJ):aq:=λσ M Q=>t σ M λrs M1=>r rs M1 Q
theorem HA{K:ah}{t:bJ}(h:up K (kj r t) σ0 H Q0):DP (eS K r) (DU K t) σ0 H Q0:=by
 obtain⟨e,M,Q,hs,c,b,a⟩:=h;exact⟨e,M,_,hs,c,b,λrs M1 vs H1 q e1 d r1=>⟨rs,M1,Q,r1,d,q,a.ext e1⟩⟩
variable {x:Str}{p pos:Pos}{e:Expr}{es:bc}{t:bJ}{id T:String}{r:LR->RM->ak->Prop}
theorem m8(d:cU X (.builtin id) (eS X.K r))(i:X.mg x=none)(k:bootBuiltins x=some (.builtin id))(c:eJ X (e::es) t)(g:Gl X x:=by rfl)(j:x≠"__name__":=by decide)(a:(x==("__debug__":Str))=false:=by decide)
 (f:starEach (e::es) X.env=(false,eval e X.env)::starEach es X.env:=by rfl) (b:(backTo pos (starEach es X.env)).any (·.1)=false:=by rfl):aj X (.Call (.Name x p) (e::es) [] pos) (kj r t):=
 PE.imp (Vc d g i k c j a f b) λ_ _ _ h=>HA h
theorem X6(d:cU X (.type T) (eS X.K r))(i:X.mg x=none)(k:bootBuiltins x=some (.type T))(c:eJ X (e::es) t)(g:Gl X x:=by rfl)(j:x≠"__name__":=by decide)(a:(x==("__debug__":Str))=false:=by decide)
 (f:starEach (e::es) X.env=(false,eval e X.env)::starEach es X.env:=by rfl) (b:(backTo pos (starEach es X.env)).any (·.1)=false:=by rfl):aj X (.Call (.Name x p) (e::es) [] pos) (kj r t):=
 PE.imp (Uv d g i k c j a f b) λ_ _ _ h=>HA h
theorem aa.one{K:ah}{x:RV}{vs:LV}(h:aa K H [x] vs):∃v,vs= [v]/\Rep K H x v:=by
 obtain⟨v,r,rfl,a,rfl⟩:=h;exact⟨v,rfl,a⟩
theorem aa.two{K:ah}{x y:RV}{vs:LV}(h:aa K H [x,y] vs):∃v w,vs= [v,w]/\Rep K H x v/\Rep K H y w:=by
 obtain⟨v,r,rfl,a,w,c,rfl,b,rfl⟩:=h;exact⟨v,w,rfl,a,b⟩
noncomputable def zc:LR->RM->ak->Prop:=λrs M Q=>match rs with
 | [.tup xs]=>Q (.int xs.length) M
 | [.ls xs]=>Q (.int xs.length) M
 | [.str z]=>z.length<=sizeLine/\Q (.int z.length) M
 | [.ref a]=>match M a with|some (.lst xs)=>Q (.int xs.length) M|_=>False
 |_=>False
theorem Fh:cU X (.builtin "len") (eS X.K zc):=by
 rintro a s j H l us f I h ⟨rs,M,Q,i,d,b,g⟩;unfold zc at b;split at b
 . obtain⟨_,rfl,q,vs,rfl,k,c⟩:=i.one
   exact A0 a s j H _ us f I h ⟨q,vs,rfl,.inr (.of k),by rw[<-c.length];exact g.now b d rfl⟩
 . obtain⟨_,rfl,q,vs,rfl,k,c⟩:=i.one
   exact A0 a s j H _ us f I h ⟨q,vs,rfl,.inl k.sq,by rw[<-c.length];exact g.now b d rfl⟩
 . obtain⟨_,rfl,rfl⟩:=i.one
   exact Td a s j H _ us f I h ⟨_,rfl,b.1,g.now b.2 d rfl⟩
 . obtain⟨_,rfl,rfl⟩:=i.one
   split at b
   . obtain⟨_,e,vs,rfl,c⟩:=d _ _ ‹_›
     exact A0 a s j H _ us f I h ⟨_,vs,rfl,.inl (c7.of e),by rw[<-c.length];exact g.now b d rfl⟩
   . exact b.elim
 . exact b.elim
noncomputable def Cb:LR->RM->ak->Prop:=λrs M Q=>match rs with
 | [.tup xs]=>Q (.tup xs) M
 | [.ls xs]=>Q (.tup xs) M
 | [.ref a]=>match M a with|some (.lst xs)=>Q (.tup xs) M|_=>False
 |_=>False
theorem Zm:cU X (.type "tuple") (eS X.K Cb):=by
 rintro a s l H m us h I j ⟨rs,M,Q,k,g,b,i⟩;unfold Cb at b;split at b
 . obtain⟨_,rfl,q,vs,rfl,f,d⟩:=k.one
   exact AJ a s l H _ us h I j ⟨q,vs,rfl,.inr ⟨.of f,i.now b g ⟨q,vs,rfl,f,d⟩⟩⟩
 . obtain⟨_,rfl,q,vs,rfl,f,d⟩:=k.one
   exact AJ a s l H _ us h I j ⟨q,vs,rfl,.inl ⟨f.sq,λl c=>i _ M _ _ b (Ext.new c) (g.new c) (sN c d)⟩⟩
 . obtain⟨_,rfl,rfl⟩:=k.one
   split at b
   . obtain⟨_,e,vs,rfl,d⟩:=g _ _ ‹_›
     exact AJ a s l H _ us h I j ⟨_,vs,rfl,.inl ⟨c7.of e,λl c=>i _ M _ _ b (Ext.new c) (g.new c) (sN c d)⟩⟩
   . exact b.elim
 . exact b.elim
end
open HT
section
variable {prog:Program}{w:World}{A:Around}{E:aK}{s:Shared}
theorem SK{t sl:Addr}{lo hi:Option Int}(a:IsTup s.heap t items)(hs:s.heap.IsSliceOf sl vl vu .none)(pl:IsPart vl lo)(j:IsPart vu hi)
 (h0:aJ items.size 0 lo=0) (f:aJ items.size items.size hi=items.size)
 (h:Q (.ref t) s):wpAny (model prog w) A (getItem (.ref t) (.ref sl)) Q E s:=by
 obtain⟨i,e,d,g⟩:=id hs;have c:s.TypeIs (.ref sl) "slice":=⟨i,e,d⟩;unfold getItem
 try with_reducible refine jz ?_
 first|refine ai (aC ?_)|skip
 refine ai (wpAny_sequenceKey a.typeIs ⋯ ?_)
 refine ai (wpAny_callSpecial?_slot (name:=Str.ofString "__getitem__") a.typeIs zR
  (iK zR a.typeIs entry_tuple_getitem ?_ (args_tuple_getitem _ _)))
 show wpAny _ _ (Builtin.Tuple.tupleItemsOf (.ref t) >>= _) _ _ s;refine ai (tupleItemsOf_ a ?_);refine ai (wpAny_typeOf c ?_);rw[ag ⋯]
 refine ai (GH hs pl j ?_);have b:(((aJ items.size 0 lo:Nat):Int)==0&&(1:Int)==1&&(aJ items.size items.size hi-aJ items.size 0 lo)==items.size)=true:=by
  rw[h0,f];simp
 show wpAny _ _ (if(((aJ items.size 0 lo:Nat):Int)==0&&(1:Int)==1&&(aJ items.size items.size hi-aJ items.size 0 lo)==items.size)=true then _ else _) _ _ s
 rw[ag b];show wpAny _ _ (Builtin.Tuple.tupleIsExact (.ref t) >>= _) _ _ s;unfold Builtin.Tuple.tupleIsExact;refine ai (ai (wpAny_typeOf a.typeIs (aC ?_)));rw[ag ⋯]
 refine ai (wpAny_rule ?_);refine ai (aC ?_);exact aC ⟨_,rfl,aC h⟩
end
section
variable {X:Cx}
abbrev nZ:=bw->RM->(Option Int->RM->Prop)->Prop
def upP(K:ah)(t:nZ):TO:=λσ0 H Q0=>∃σ M Q,aP K H σ σ0/\View K H M/\t σ M Q/\∀o M' H',Q o M'->Ext H H'->View K H' M'->Q0 o H'
def rW(X:Cx)(e:Option Expr)(t:nZ):Prop:=PO X e (upP X.K t)
def Po:nZ:=λ_ M Q=>Q none M
def K1(t:aq):nZ:=λσ M Q=>t σ M λx M1=>match x with| .int i=>Q (some i) M1|_=>False
theorem PO.imp{e:Option Expr}{t t':TO}(h:PO X e t)(i:∀σ H Q,t' σ H Q->t σ H Q):PO X e t':=λpins s σ H Q I w=>h pins s σ H Q I (i σ H Q w)
theorem qvM:rW X none Po:=PO.imp W7 λσ0 H d h=>by
 obtain⟨e,M,Q,hs,c,b,a⟩:=h;exact a none M H b (.refl H) c
theorem qvI{e:Expr}(h:aj X e te):rW X (some e) (K1 te):=PO.imp (W6 h) λσ0 H Q0 h=>by
 obtain⟨σ,M,Q,hs,hv,ht,hk⟩:=h;refine⟨σ,M,_,hs,hv,ht,λrx M1 x H1 q e1 v1 r1=>?_⟩
 cases rx with
 |int i=>exact⟨i,r1,hk _ M1 H1 q e1 v1⟩
 |_=>exact q.elim
noncomputable def gj (xs:LR)(lo hi:Option Int):LR:=(xs.drop (aJ xs.length 0 lo)).take (aJ xs.length xs.length hi-aJ xs.length 0 lo)
theorem IB{K:ah}{vs:LV}(r:aa K H xs vs)(lo hi:Option Int):aa K H (gj xs lo hi) (nH vs lo hi):=by
 unfold gj nH;rw[r.length];exact(r.drop _).take _
noncomputable def upL (K:ah)(r:RV->Option Int->Option Int->RM->ak->Prop):V->Option Int->Option Int->Hp->VK->Prop:=λx lo hi H b=>∃a M Q,Rep K H a x/\View K H M/\r a lo hi M Q/\iN K H Q b
theorem Jy{v:Value}(h:IsPart v o):∃l:Option (Int×Tok),v=partValue l/\o=l.map (·.1):=by
 cases h with
 |none=>exact⟨none,rfl,rfl⟩
 |int i t=>exact⟨some (i,t),rfl,rfl⟩
noncomputable def tP:RV->Option Int->Option Int->RM->ak->Prop:=λx lo hi M Q=>match x with
 | .tup xs=>Q (.tup (gj xs lo hi)) M
 | .ls xs=>Q (.ls (gj xs lo hi)) M
 | .ref a=>match M a with|some (.lst xs)=>Q (.ls (gj xs lo hi)) M|_=>False
 | .str z=>z.length<=sizeLine/\Q (.str (Txt.slice z lo hi)) M
 |_=>False
theorem Rz:wK X (upL X.K tP):=by
 rintro pins s σ H x v vl vu lo hi sl Q0 I rx hs pl pu ⟨a,M,Q,ra,hv,hq,hk⟩;have lc:∀{p:Addr} {xs:LR} {vs:LV},x= .ref p->c7 X.K H p vs->aa X.K H xs vs->Q (.ls (gj xs lo hi)) M->
  ∃T id,typeLookup (.type T) "__getitem__" =pure (some (.builtin id))/\s.TypeIs v T/\wpAny (model X.prog X.w) X.A (getItem v (.ref sl)) (EP X pins σ Q0) X.xe s:=by
  intro p xs vs ex hp hr hq;obtain⟨T,id,h1,h2,h3⟩:=Wu pins s σ H x v vl vu lo hi sl (λv H'=>∃H1 p xs,v= .ref p/\H1 p=none/\H'=upd H1 p (.lst xs)/\∀o,Q0 (.ref p) (upd H1 p (.aX o (.lst xs)))) I rx hs pl pu
   ⟨p,vs,ex,hp,λq hq'=>⟨H,q,_,rfl,hq',rfl,λo=>hk _ M _ _ hq (Ext.new hq') (hv.new hq') (kh hq' (IB hr lo hi))⟩⟩
  exact⟨T,id,h1,h2,ay h3 λ_ _ e=>frozen e⟩
 cases a<;>first|exact hq.elim|simp only[tP]at hq
 . cases ra
   obtain⟨t,rfl⟩:=rx;obtain⟨l,rfl,rfl⟩:=Jy pl;obtain⟨u,rfl,rfl⟩:=Jy pu;exact⟨"str",_,F.slot_str_getitem.lookup,typeIs_str _ _ _,wpAny_getItem_str_slice (l:=l) (u:=u) (st:=none) hs rfl (post_val_or_str ⟨bQ (Txt.slice_le _ _ _) hq.1,λt' k=>⟨.str _,H,I.tok k,⟨t',rfl⟩,hk.now hq.2 hv rfl⟩⟩)⟩
 . split at hq
   . obtain⟨_,e,vs,rfl,hr⟩:=hv _ _ ‹_›
     exact lc ra (c7.of e) hr hq
   . exact hq.elim
 . obtain⟨p,vs,rfl,hp,hr⟩:=ra
   by_cases hw:aJ vs.length 0 lo=0/\aJ vs.length vs.length hi=vs.length
   . cases rx
     obtain⟨ae,r,ht,hz⟩:=I.tuple (bS.of hp);have hlen:ae.toArray.size=vs.length:=r.length.symm;refine⟨"tuple",_,PyProof.Rows.slot_tuple_getitem.lookup,ht.typeIs,SK ht hs pl pu (by rw[hlen];exact hw.1) (by rw[hlen];exact hw.2) ⟨.ref p,H,I,rfl,?_⟩⟩
     rw[gj,hr.length,hw.1,hw.2,List.drop_zero,Nat.sub_zero,<-hr.length,List.take_length]at hq;exact hk.now hq hv ⟨p,vs,rfl,hp,hr⟩
   . exact XN pins s σ H _ v vl vu lo hi sl Q0 I rx hs pl pu ⟨p,vs,rfl,.of hp,hw,λq hq'=>hk _ M _ _ hq (Ext.new hq') (hv.new hq') (sN hq' (IB hr lo hi))⟩
 . obtain⟨p,vs,rfl,hp,hr⟩:=ra
   exact lc rfl hp.sq hr hq
def PF(te:aq)(tl th:nZ):aq:=λσ M Q=>te σ M λx M1=>tl σ M1 λl M2=>th σ M2 λu M3=>tP x l u M3 Q
theorem rsl{e:Expr}{lo hi:Option Expr}(he:aj X e te)(hl:rW X lo tl)(hu:rW X hi th):aj X (.Subscript e (.Slice lo hi none p2) pos) (PF te tl th):=PE.imp (U3 Rz he hl hu) λσ0 H Q0 h=>by
 obtain⟨σ,M,Q,hs,hv,ht,hk⟩:=h;refine⟨σ,M,_,hs,hv,ht,λrx M1 x H1 q e1 v1 r1=>?_⟩
 refine⟨σ,M1,_,hs.ext e1,v1,q,λl M2 H2 q2 e2 v2=>?_⟩
 refine⟨σ,M2,_,hs.ext (e1.trans e2),v2,q2,λu M3 H3 q3 e3 v3=>?_⟩
 exact⟨rx,M3,Q,Rep.ext (e2.trans e3) rx x r1,v3,q3,hk.ext ((e1.trans e2).trans e3)⟩
noncomputable def KH:RV->Option Bool
 | .bl _| .int _=>some true
 | .ref _| .ty _=>none
 |_=>some false
noncomputable def is_bool:RV->Option Bool
 | .bl _=>some true
 | .ref _| .ty _=>none
 |_=>some false
noncomputable def KG:RV->Option Bool
 | .str _=>some true
 | .ref _| .ty _=>none
 |_=>some false
noncomputable def Ih:RV->Option Bool
 | .tup _=>some true
 | .ref _| .ty _=>none
 |_=>some false
noncomputable def Jr:RV->Option Bool
 | .ls _=>some true
 | .ref _| .ty _=>none
 |_=>some false
noncomputable def tyN:RV->Option String
 | .aw=>some "NoneType"
 | .bl _=>some "bool"
 | .int _=>some "int"
 | .str _=>some "str"
 | .tup _=>some "tuple"
 | .ls _=>some "list"
 |_=>none
noncomputable def rB (T:String)(a:RV->Option Bool):LR->RM->ak->Prop:=λrs M Q=>match rs with
 | [x,.ty T']=>T'=T/\(match a x with|some b=>Q (.bl b) M|none=>False)
 |_=>False
theorem vV{T:String}(ht:∀a b,test a=some b->∃n,tyN a=some n/\PySem.W.kitOne X.K (.type n) (.type T)=some b):cU X (.builtin "isinstance") (eS X.K (rB T test)):=by
 rintro pins s σ H xs us Q0 I rl ⟨rs,M,Q,rr,hv,hq,hk⟩;unfold rB at hq;split at hq
 . rename_i a _
   obtain⟨rfl,hq⟩:=hq;obtain⟨v,w,rfl,r1,rfl⟩:=rr.two;obtain⟨u,u',rfl,w1,w2⟩:=vals2 rl;cases(show u'=Value.type _ from w2)
   split at hq
   . rename_i b e
     obtain⟨n,en,ek⟩:=ht a b e;have fin:∀tk,EP X pins σ Q0 (.bool b) { s with toks:=tk }:=λtk=>⟨.bl b,H,I.tok tk,rfl,hk.now hq hv rfl⟩
     cases a<;>cases en
     . cases r1;cases(show u=Value.none from w1);exact rT PySem.W.kitx_none I.dE True.intro ek (λz=>nomatch z) fin
     . cases r1;cases(show u=Value.bool _ from w1);exact rT PySem.W.kitx_bool I.dE True.intro ek (λz=>nomatch z) fin
     . cases r1;obtain⟨_,rfl⟩:=w1;exact rT PySem.W.kitx_int I.dE True.intro ek (λz=>nomatch z) fin
     . cases r1;obtain⟨_,rfl⟩:=w1;exact rT PySem.W.kitx_str I.dE True.intro ek (λz=>nomatch z) fin
     . obtain⟨p,vs,rfl,hp,_⟩:=r1
       cases(show u=Value.ref p from w1)
       obtain⟨_,_,⟨o,h1,h2,_⟩,_⟩:=I.tuple (bS.of hp);exact rT PySem.W.kitx_tuple I.dE ⟨o,h1,h2⟩ ek (λz=>nomatch z) fin
     . obtain⟨p,vs,rfl,hp,_⟩:=r1
       cases(show u=Value.ref p from w1)
       obtain⟨_,_,pt,_⟩:=I.list hp.sq;obtain⟨o,h1,h2,_⟩:=pt.isList;exact rT PySem.W.kitx_list I.dE ⟨o,h1,h2⟩ ek (λz=>nomatch z) fin
   . exact hq.elim
 . exact hq.elim
theorem V0:cU X (.builtin "isinstance") (eS X.K (rB "int" KH)):=vV λa _ e=>by cases a<;>cases e<;>exact⟨_,rfl,by kernel_rfl⟩
theorem UP:cU X (.builtin "isinstance") (eS X.K (rB "bool" is_bool)):=vV λa _ e=>by cases a<;>cases e<;>exact⟨_,rfl,by kernel_rfl⟩
theorem VZ:cU X (.builtin "isinstance") (eS X.K (rB "str" KG)):=vV λa _ e=>by cases a<;>cases e<;>exact⟨_,rfl,by kernel_rfl⟩
theorem T7:cU X (.builtin "isinstance") (eS X.K (rB "tuple" Ih)):=vV λa _ e=>by cases a<;>cases e<;>exact⟨_,rfl,by kernel_rfl⟩
theorem UO:cU X (.builtin "isinstance") (eS X.K (rB "list" Jr)):=vV λa _ e=>by cases a<;>cases e<;>exact⟨_,rfl,by kernel_rfl⟩
abbrev bU:=LR->RM->ak->Prop
def fP(K:ah)(sp:bU):Sp:=λvs H a _=>∃rs M Q,aa K H rs vs/\View K H M/\sp rs M Q/\iN K H Q a
end
structure zU(P:Program)(w:World)(K:ah)(mg:br)(base:Heap)(k:Nat)(x:Str)(ps:az)(sp:bU):Prop where
 ex:∃(f:Addr) (fd:FuncData),mg x=some (.ref f)/\PySem.W.keepIn K (.ref f)=true/\Binds K fd ps []/\dZ P w K mg base fg k f fd ps (fP K sp)
section
variable {X:Cx}{x:Str}{p pos:Pos}{e:Expr}{es:bc}{t:bJ}{k:Nat}{ps:az}{sp:bU}
theorem X7(F:zU X.prog X.w X.K X.mg X.base k x ps sp)(m:aH k X.A)(d:eJ X (e::es) t)(j:Gl X x:=by rfl)(a:(x==("__debug__":Str))=false:=by decide)
 (i:starEach (e::es) X.env=(false,eval e X.env)::starEach es X.env:=by rfl) (c:(backTo pos (starEach es X.env)).any (·.1)=false:=by rfl):aj X (.Call (.Name x p) (e::es) [] pos) (kj sp t):=by
 obtain⟨f,v,l,b,g,F⟩:=F.ex;refine PE.imp (Xe F m j l b g .nil qZ d a i c) λσ0 H u h=>?_
 obtain⟨s,M,Q,hs,o,n,b⟩:=h;exact⟨s,M,_,hs,o,n,λrs M1 vs H1 q e1 r r1=>⟨rs,M1,Q,by rw[nU];exact r1,r,q,b.ext e1⟩⟩
theorem Wh(F:zU X.prog X.w X.K X.mg X.base k x ps sp)(i:aH k X.A)(d:Gl X x:=by rfl)(a:(x==("__debug__":Str))=false:=by decide):aj X (.Call (.Name x p) [] [] pos) (kj sp mv):=by
 obtain⟨f,n,g,b,c,F⟩:=F.ex;refine PE.imp (Vd F i d g b c .nil qZ a) λσ0 H m h=>?_
 obtain⟨o,M,Q,hs,l,j,b⟩:=h;exact⟨[],M,Q,aa.nil,l,j,b⟩
noncomputable def jj (N:az)(rs:LR):bw:=rs.map some++List.replicate (N.length-rs.length) none
theorem TH{K:ah}{rs:LR}{vs:LV}(r:aa K H rs vs):aP K H (jj N rs) (L2.start N vs):=by
 unfold jj L2.start;refine⟨by simp[r.length],λi z e=>?_⟩
 by_cases hi:i<rs.length
 . rw[rS (by simpa using hi),fR]at e
   cases q:rs[i]? with
   |none=>rw[q]at e;cases e
   |some y=>
    rw[q]at e;cases e;obtain⟨v,e1,r1⟩:=r.get q;exact⟨v,by rw[rS (by rw[aW,<-r.length];exact hi),fR,e1];rfl,r1⟩
 . rw[List.getElem?_append_right (by simpa using hi),List.getElem?_replicate]at e
   split at e<;>cases e
noncomputable def nums (n:Nat):LR:=(List.range n).map λ(i:Nat)=>RV.int (i:Int)
theorem yn(n):(nums n).length=n:=by simp[nums]
end
def eM(b H a:Hp):Prop:=a=H∨∃d o u,H d=some (.aX o u)/\i5 u=true/\(∀c e,b d≠some (.aX c e))/\a=upd H d u
theorem eM.inv{X:Cx}{s:Shared}(t:eM X.H₀ H H')(I:Inv X pins σ H s):Inv X pins σ H' s:=by
 obtain rfl|⟨p,ob,u,h,b,a,rfl⟩:=t
 . exact I
 . exact Inv.chg I h rfl a λst=>st (I.av p _ h).2
theorem BN{s:Shared}{p:Addr}(I:Inv X pins σ H s)(h:H p=some u)(b:i5 u=true):∃o,s.heap.get? p=some o/\Inv X pins σ (upd H p (.aX o u)) s/\∀c a,X.H₀ p≠some (.aX c a):=by
 have d:=I.av p u h;have f:∀c a,X.H₀ p≠some (.aX c a):=λo' a z=>by rw[I.base.aY _ _ _ z]at h;cases h;cases b
 obtain⟨ob,e⟩:∃o,s.heap.get? p=some o:=by
  cases u<;>first|cases b;done|(obtain⟨_,_,_,_,o,_,_,e,_⟩:=d;exact⟨o,e⟩)
 exact⟨ob,e,Inv.chg I h (by cases u<;>first|cases b;done|rfl) f λst=>⟨e,st d⟩,f⟩
structure jr(H0 Hs:Hp)(K:ah)(J:It)(xs:LR)(ok:RM->Prop)(un:RM->RM)(H1:Hp):Prop where
 turn:∀i H M,Ext H1 H->View K H M->ok M->∀x,xs[i]? =some x->J.go i H/\∀v H',J.DZ i H v H'->Ext H H'/\(∀M,View K H M->View K H' M)/\Rep K H' x v
 stop:∀i H M,Ext H1 H->View K H M->ok M->xs.length<=i->J.stop i H
 dj:∀H M,Ext H1 H->View K H M->ok M->∃H',eM H0 H H'/\bu H H'/\Ext Hs H'/\View K H' (un M)
abbrev ig:=bw->RM->(LR->(RM->Prop)->(RM->RM)->RM->Prop)->Prop
abbrev eE:RM->Prop:=λ_=>True
noncomputable def upI (H0:Hp)(K:ah)(ti:ig):TI:=λσ0 H R=>∃σ M Q,aP K H σ σ0/\View K H M/\ti σ M Q/\∀xs ok un M' J H',Q xs ok un M'->Ext H H'->View K H' M'->jr H0 H K J xs ok un H'->R J H'
def jd(X:Cx)(tg a:Expr)(b:ig):Prop:=PI X tg a (upI X.H₀ X.K b)
section
variable {X:Cx}{tg:Expr}
noncomputable def OD (te:aq):ig:=λσ M Q=>te σ M λv M1=>match v with
 | .tup xs=>Q xs eE id M1
 | .ls xs=>Q xs eE id M1
 | .ref a=>match M1 a with
  |some (.lst xs)=>Q xs (λM=>M a=some (.lst xs)) id M1
  |_=>False
 |_=>False
theorem mZ{K:ah}{H1:Hp}{b:RM->Prop}(es:Ext Hs H1):∀H M,Ext H1 H->View K H M->b M->∃a,eM H0 H a/\bu H a/\Ext Hs a/\View K a (id M):=λH M e v _=>⟨H,.inl rfl,(Ext.refl H).w,es.trans e,v⟩
theorem ZA{K:ah}{H1:Hp}{a:Addr}{rs:LR}{vs:LV}(h:Fz K H1 a vs)(r:aa K H1 rs vs)(es:Ext Hs H1):jr H0 Hs K (wF K a) rs eE id H1 where
 turn:=λi H M e _ _ x hx=>by
  obtain⟨v,e1,r1⟩:=r.get hx;refine⟨⟨vs,v,(h.ext e).sq,e1⟩,λv' c b=>?_⟩;obtain⟨z,y⟩:=b
  cases z;cases(y vs (h.ext e).sq).symm.trans e1;exact⟨.refl _,λ_ w=>w,Rep.ext e x v r1⟩
 stop:=λi H M e _ _ hi=>⟨vs,(h.ext e).sq,by rw[<-r.length];exact hi⟩
 dj:=mZ es
theorem Zx{K:ah}{H1:Hp}{a:Addr}{rs:LR}{vs:LV}(h:bS K H1 a vs)(r:aa K H1 rs vs)(es:Ext Hs H1):jr H0 Hs K (D1 K a) rs eE id H1 where
 turn:=λi H M e _ _ x hx=>by
  obtain⟨v,e1,r1⟩:=r.get hx;refine⟨⟨vs,v,bS.ext e h,e1⟩,λv' c b=>?_⟩;obtain⟨z,y⟩:=b
  cases z;cases(y vs (bS.ext e h)).symm.trans e1;exact⟨.refl _,λ_ w=>w,Rep.ext e x v r1⟩
 stop:=λi H M e _ _ hi=>⟨vs,bS.ext e h,by rw[<-r.length];exact hi⟩
 dj:=mZ es
theorem Zy{K:ah}{H1:Hp}(n)(es:Ext Hs H1):jr H0 Hs K (wG 0 n) (nums n) eE id H1 where
 turn:=λi H M e _ _ x hx=>by
  have hi:i<n:=by have:=(mH.mp hx).1;rw[yn]at this;exact this
  have a:x= .int (i:Int):=by simp[nums,hi]at hx;exact hx.symm
  subst a;refine⟨hi,λv' b y=>?_⟩
  obtain⟨rfl,rfl⟩:=y;exact⟨.refl _,λ_ w=>w,by simp only[Rep];simp⟩
 stop:=λi H M e _ _ hi=>by rw[yn]at hi;exact hi
 dj:=mZ es
theorem Zz{K:ah}{H1:Hp}{a:Addr}{rs:LR}(es:Ext Hs H1):jr H0 Hs K (wF K a) rs (λM=>M a=some (.lst rs)) id H1 where
 turn:=λi H M e d c x hx=>by
  obtain⟨_,b,vs,rfl,r⟩:=d a _ c;obtain⟨v,e1,r1⟩:=r.get hx;refine⟨⟨vs,v,c7.of b,e1⟩,λv' g f=>?_⟩;obtain⟨z,y⟩:=f
  cases z;cases(y vs (c7.of b)).symm.trans e1;exact⟨.refl _,λ_ w=>w,r1⟩
 stop:=λi H M e d c hi=>by
  obtain⟨_,b,vs,rfl,r⟩:=d a _ c;exact⟨vs,c7.of b,by rw[<-r.length];exact hi⟩
 dj:=mZ es
theorem RP{l:Expr}(w:aj X l te):jd X tg l (OD te):=by
 intro d s k H R I h;obtain⟨C,M,Q,hs,z,y,n⟩:=h;refine ay (w d s k H (λx H1=>(∃a vs rs j M1,x= .ref a/\c7 X.K H1 a vs/\jr X.H₀ H X.K (wF X.K a) rs j id H1/\Q rs j id M1/\Ext H H1/\View X.K H1 M1)∨∃a vs rs M1,x= .ref a/\bS X.K H1 a vs/\aa X.K H1 rs vs/\Q rs eE id M1/\Ext H H1/\View X.K H1 M1) I ⟨C,M,_,hs,z,y,λrv M1 v H1 q e1 g r1=>?_⟩) λu f ⟨v,H1,I1,r1,q1⟩=>?_
 . cases rv with
   |ls xs=>obtain⟨a,vs,rfl,c,i⟩:=r1;exact .inl ⟨a,vs,xs,eE,M1,rfl,c.sq,ZA c i e1,q,e1,g⟩
   |tup xs=>obtain⟨a,vs,rfl,c,i⟩:=r1;exact .inr ⟨a,vs,xs,M1,rfl,bS.of c,i,q,e1,g⟩
   |ref a=>
    dsimp only at q;split at q
    . obtain⟨_,t,vs,rfl,r⟩:=g a _ ‹_›
      exact .inl ⟨a,vs,_,_,M1,r1,c7.of t,Zz e1,q,e1,g⟩
    . exact q.elim
   |_=>exact q.elim
 . have m:∀b∈[f.heap.objs.size],kE X d H1 b:=λb u=>by
    cases eG.mp u;exact I1.gv (aD _) (I1.av.fresh (aD _))
   obtain⟨a,vs,rs,j,M1,rfl,c,i,q,e1,g⟩|⟨a,vs,rs,M1,rfl,c,i,q,e1,g⟩:=q1<;>cases r1
   . obtain⟨ae,rv,p,A⟩:=I1.list c
     exact wpAny_pyIter_list p.isList ⟨f.heap.objs.size,[f.heap.objs.size],_,_,H1,rfl,I1.kept (t':=f.toks) λb o e=>bx _ e,Uc a _,⟨_,c0 _ rfl,rfl,rfl⟩,m,n rs j id M1 _ H1 q e1 g i⟩
   . obtain⟨ae,rv,p,A⟩:=I1.tuple c
     exact wpAny_pyIter_tuple (show f.heap.IsTuple a ae.toArray from p) ⟨f.heap.objs.size,[f.heap.objs.size],_,_,H1,rfl,I1.kept (t':=f.toks) λb o e=>bx _ e,Tq a _,⟨_,c0 _ rfl,rfl,rfl⟩,m,n rs eE id M1 _ H1 q e1 g (Zx c i e1)⟩
noncomputable def vh (Q:LR->(RM->Prop)->(RM->RM)->RM->Prop):LR->RM->Prop:=λrs M=>match rs with
 | [.int n]=>-(2 ^ 62)<=n/\n<2 ^ 62/\Q (nums n.toNat) eE id M
 |_=>False
def OE(te:aq):ig:=λσ M Q=>te σ M λv M1=>vh Q [v] M1
theorem PI.imp{t t':TI}(h:PI X tg iter t)(i:∀σ H R,t' σ H R->t σ H R):PI X tg iter t':=λpins s σ H R I w=>h pins s σ H R I (i σ H R w)
theorem ZC{a:Expr}{p pos:Pos}(i:X.mg "range" =none)(f:aj X a te)(b:Gl X "range":=by rfl)(d:starEach [a] X.env= [(false,eval a X.env)]:=by rfl)(c:starEach (a::[]) X.env=(false,eval a X.env)::starEach [] X.env:=by rfl):
 jd X tg (.Call (.Name "range" p) [a] [] pos) (OE te):=PI.imp (Uu b i (yS f Dc c) d) λσ0 H R h=>by
 obtain⟨r,M,Q,hs,k,j,g⟩:=h;refine⟨r,M,vh Q,hs,k,j,λrs M1 vs H1 q e1 o r1=>?_⟩
 unfold vh at q;split at q
 . rename_i n
   obtain⟨l,m,q⟩:=q;obtain⟨v,rfl,e⟩:=r1.one;simp only[Rep]at e;subst e;exact⟨n,rfl,l,m,g _ eE id M1 _ H1 q e1 o (Zy _ e1)⟩
 . exact q.elim
def Lv(ti:ig)(g:jA)(tb:dz):dz:=λD σ M=>ti σ M λxs ok un M1=>jQ g tb D ok un xs σ M1
noncomputable def Lb (H0:Hp)(D:Ends):Ends where
 nx:=λσ H=>∃H',eM H0 H H'/\D.nx σ H'
 rt:=λv H=>∃H',eM H0 H H'/\D.rt v H'
 bk:=D.bk
 ct:=D.ct
theorem O9{body:List Stmt}{g:jA}{tb:dz}(hp:PassesOwn (model X.prog X.w) X.A X.env X.xe)(hc:X.calm=true)(hi:jd X tg iter ti)(hg:nY X tg g)(hb:kD X body tb)
 (hs:∀x,foldedSetIterable iter X.env x=pure x:=by intro _;rfl):eL X (.For tg iter body [] pos) (Lv ti g tb):=by
 intro pins s σ0 H D0 I h;refine ay (YV hp hc hi hg hb hs pins s σ0 H (Lb X.H₀ D0) I ?_) λf s' h'=>?_
 rotate_left
 . cases f with
   |next=>obtain⟨σ1,H1,I1,H2,t,q⟩:=h';exact⟨σ1,H2,t.inv I1,q⟩
   |brk=>exact h'
   |cont=>exact h'
   |ret v=>obtain⟨x1,σ1,H1,I1,r1,H2,t,q⟩:=h';exact⟨x1,σ1,H2,t.inv I1,r1,q⟩
 obtain⟨σ,M,D,hs,hv,ht,hd⟩:=h;refine⟨σ,M,_,hs,hv,ht,λxs ok un M1 J H1 q e1 v1 hJ=>?_⟩
 have outN:∀{σ4:bw} {M4:RM} {σ04:L2.St} {H4:Hp},(ok M4/\D.nx σ4 (un M4))->Ext H1 H4->View X.K H4 M4->aP X.K H4 σ4 σ04->(Lb X.H₀ D0).nx σ04 H4:=λq4 e4 v4 r4=>by
  obtain⟨H5,t5,e5,x5,v5⟩:=hJ.dj _ _ e4 v4 q4.1;exact⟨H5,t5,hd.nx _ _ _ H5 q4.2 x5 v5 (r4.aV e5)⟩
 refine⟨λi m σ0 H=>m=xs.length-i/\i<=xs.length/\∃σ M,aP X.K H σ σ0/\View X.K H M/\jQ g tb D ok un (xs.drop i) σ M/\Ext H1 H,⟨_,rfl,j3 _,σ,M1,hs.ext e1,v1,by simpa using q,.refl _⟩,?_⟩
 rintro i m σ0 H ⟨rfl,hi,σ,M,hs,hv,hf,e⟩
 by_cases hlt:i<xs.length
 . have ed:xs.drop i=xs[i]::xs.drop (i+1):=by simp
   rw[ed]at hf;obtain⟨av,hf⟩:=hf;obtain⟨hgo,hy⟩:=hJ.turn i H M e hv av xs[i] (by simp)
   refine .inr ⟨hgo,λσ0 H=>∃σ M,aP X.K H σ σ0/\View X.K H M/\jQ g tb D ok un (xs.drop (i+1)) σ M/\Ext H1 H,λσ' H' h=>⟨_,∅,rfl,hlt,h⟩,λx H' y=>?_⟩
   obtain⟨e2,w2,r2⟩:=hy x H' y;refine⟨xs[i],σ,M,_,r2,hs.ext e2,w2 M hv,hf,λσ' M' σ0' H'' q e3 v3 r3=>?_⟩
   have e13:=(e.trans e2).trans e3;refine⟨σ',M',_,r3,v3,q,⟨λσ4 M4 σ04 H4 q4 e4 v4 r4=>⟨σ4,M4,r4,v4,q4,e13.trans e4⟩,λrv M4 v H4 q4 e4 v4 r4=>?_,λσ4 M4 σ04 H4 q4 e4 v4 r4=>outN q4 (e13.trans e4) v4 r4,λσ4 M4 σ04 H4 q4 e4 v4 r4=>⟨σ4,M4,r4,v4,q4,e13.trans e4⟩⟩⟩
   obtain⟨H5,t5,e5,x5,v5⟩:=hJ.dj _ _ (e13.trans e4) v4 q4.1;exact⟨H5,t5,hd.rt _ _ _ H5 q4.2 x5 v5 (Rep.aV e5 _ _ r4)⟩
 . have ei:i=xs.length:=by lia
   subst ei;rw[List.drop_length]at hf;exact .inl ⟨hJ.stop _ H M e hv hf.1 (aD _),outN hf e hv hs⟩
end
theorem T6{env:Env}(scope:Scope)(h:∀y∈scope.names,y.2= .free->∃c,env.cells.lookup y.1=some c):∃b,closureFor scope env=pure b/\(∀y c,b.lookup y=some c->env.cells.lookup y=some c)/\∀y∈scope.names,y.2= .free->∃c,b.lookup y.1=some c:=by
 have s:∀(l:List (Str×NameKind)) (cs:List (Str×Addr)),(∀y∈l,y.2= .free->∃c,env.cells.lookup y.1=some c)->(∀y c,cs.lookup y=some c->env.cells.lookup y=some c)->
  ∃b,(forIn l cs λ(x:Str×NameKind) (r:List (Str×Addr))=>(match x with|(name,kind)=>if(kind==NameKind.free)=true then do let c<-cellOf env name;pure (ForInStep.yield ((name,c)::r))else pure (ForInStep.yield r):Sem (ForInStep (List (Str×Addr)))))=(pure b:Sem _)/\
   (∀y c,b.lookup y=some c->env.cells.lookup y=some c)/\(∀y c,cs.lookup y=some c->∃w,b.lookup y=some w)/\∀y∈l,y.2= .free->∃c,b.lookup y.1=some c:=by
  intro l
  induction l with
  |nil=>exactλcs _ j=>⟨cs,by simp,j,λy c e=>⟨c,e⟩,λy a=>by cases a⟩
  |cons x l ih=>
   intro cs t j;obtain⟨n,k⟩:=x
   by_cases u:k= .free
   . subst u
     obtain⟨c,ec⟩:=t (n,.free) (.head _) rfl;obtain⟨b,e1,f,g,i⟩:=ih ((n,c)::cs) (λy a=>t y (.tail _ a)) (λy d e=>by
      rw[nS]at e;split at e
      . rename_i z;cases e;rw[gG z];exact ec
      . exact j y d e)
     refine⟨b,by simpa[ug,cellOf,ec]using e1,f,λy d e=>?_,λy a o=>?_⟩
     . by_cases a:y=n
       . subst a;exact g y c (by simp)
       . exact g y d (by rw[nS,nQ.mpr a];exact e)
     . obtain rfl|a:=fC.mp a
       . exact g n c (by simp)
       . exact i y a o
   . obtain⟨b,e1,f,g,i⟩:=ih cs (λy a=>t y (.tail _ a)) j
     refine⟨b,by simpa[ug,u]using e1,f,g,λy a o=>?_⟩
     obtain rfl|a:=fC.mp a
     . exact aU o u
     . exact i y a o
 obtain⟨b,e1,f,_,i⟩:=s scope.names [] h (λy c e=>by simp at e)
 refine⟨b,?_,f,i⟩;unfold closureFor;have v:=congrArg (λm=>m >>= λr=>(pure r:Sem (List (Str×Addr)))) e1
 simp only[pure_bind]at v;rw[<-v]
noncomputable def tN (env:Env)(p:Str×NameKind):Str×NameKind:=if(p.2==NameKind.free&&env.scope.kind== .function&&env.kindOf p.1==some .cell)then(p.1,NameKind.cell)else(p.1,p.2)
theorem uY{env:Env}{x:Str}:∀{names:List (Str×NameKind)},(names.map (tN env)).lookup x=names.lookup x∨((names.map (tN env)).lookup x=some .cell/\names.lookup x=some .free)
 | []=>.inl rfl
 |(n,k)::r=>by
  rw[bX];unfold tN;dsimp only;cases hx:x==n<;>split<;>simp only[nS,hx]
  . exact uY
  . exact uY
  . rename_i h
    rw[bj,bj]at h;exact .inr ⟨trivial,congrArg _ (gG h.1.1)⟩
  . exact .inl trivial
theorem GS{env:Env}{names:List (Str×NameKind)}{x:Str}{k:NameKind}(hc:∀y∈names,y.2≠.cell)(hk:k= .cell∨k= .free)
 (h:(names.map (tN env)).lookup x=some k):names.lookup x=some .free:=by
 obtain z|⟨_,z⟩:=uY (env:=env) (x:=x) (names:=names)
 . rw[z]at h
   obtain rfl|rfl:=hk
   . exact aU rfl (hc _ (PySem.mem_of_lookup h))
   . exact h
 . exact z
theorem GR{env:Env}{names:List (Str×NameKind)}{x:Str}(h:names.lookup x=some .free):(names.map (tN env)).lookup x=some .cell∨(names.map (tN env)).lookup x=some .free:=by
 obtain z|⟨z,_⟩:=uY (env:=env) (x:=x) (names:=names)
 . exact .inr (z.trans h)
 . exact .inl z
noncomputable def fH (X:Cx)(scope:Scope)(cl:List (Str×Addr))(C:Addr)(a:az)(s:Shared)(H:Hp)(b:List Addr):Cx:=
 { X with N:=a,s₀:=s,H₀:=H,env:=compEnvC scope cl C X.env,outer:=X.stack,ex:=b,fn:=λ_=>false,pn:=[],xe:=λ_ _=>False }
theorem ZN{s:Shared}{scope:Scope}{cl:List (Str×Addr)}(I:Inv X pins σ H s)(d:∀b∈i,kE X pins H b)(g:∀b∈i,b<s.heap.objs.size)
 (k:scope.kind= .function) (j:s.heap.objs.size<=C) (f:∀y c,cl.lookup y=some c->X.env.cells.lookup y=some c) (m:∀y∈scope.names,y.2= .free->∃c,cl.lookup y.1=some c) (h:∀y∈scope.names,y.2≠.cell):
 (fH X scope cl C Nc s H i).Ok where
 mod:=I.ok.mod
 kind:=k
 glob:=I.ok.glob
 blt:=I.ok.blt
 above:=j
 inj:=λx y c e1 l=>I.ok.inj x y c (f x c e1) (f y c l)
 has:=λx hx=>by
  have e:scope.names.lookup x=some .free:=by
   rcases hx with hx|hx
   . exact GS h (.inl rfl) hx
   . exact GS h (.inr rfl) hx
  exact m (x,.free) (PySem.mem_of_lookup e) rfl
 rX:=λx c z=>by cases z
 hd:=I.ok.hd
 frames:=I.ok.frames
 wk:=.inl rfl
 uB:=λb a=>⟨λz=>aU (fA (g b a) j) (by rw[show b=C from z];exact j5 _),λx c e=>(d b a).2.2.2.2.1 x c (f x c e)⟩
 bs:=λb o e=>I.bs b o e
 jC:=bQ I.ok.jC I.sz
 iW:=λb o e a=>by
  rcases(d b a).2.2.2.1 with z|z
  . exact I.ok.iW b o e z
  . exact aU (fA (bB e) (bQ I.ok.jC z)) (j5 _)
 iR:=λb a z=>by
  rcases fC.mp (I.fQ b z)with e|e
  . exact(d b a).2.1 e
  . exact(d b a).2.2.1 e
 dM:=I.stack
 mV:=I.iG
section
variable {prog:Program}{w:World}{A:Around}{R:Result->Shared->Prop}{s:Shared}
abbrev Nv:aK:=λ_ _=>False
noncomputable abbrev BX (a:bc) (env:Env):Sem Bool:=forIn a true λc r=>if r=true then do let b<-isTrue c env (eval c env);pure (ForInStep.yield b)else pure (ForInStep.yield r)
theorem UN{env:Env}(I:Nat->Shared->Prop)
 (u:∀n s,I n s->wpAny (model prog w) A (pyNext it) (λr c=>(r=none/\R (.ok .next) c)∨∃v,r=some v/\wpAny (model prog w) A (letOwnedTupleGo target it v) (λ_ d=>wpAny (model prog w) A (assign target env v) (λ_ g=>
  wpAny (model prog w) A (BX ifs env) (λok e=>
   if ok=true then wpAny (model prog w) A (eval elt env) (λx i=>
    wpAny (model prog w) A (call (.builtin "list.append") [acc,x]) (λ_ j=>∃m,m<n/\I m j) Nv i) Nv e
   else ∃m,m<n/\I m e) Nv g) Nv d) Nv c) Nv s)
 (n) (h:I n s):
 codeAny (model prog w) A (.compLoop (.ListComp elt [⟨target,iter,ifs,0⟩] scope pos) 0 it acc env) R s:=by
 refine codeAny_loop rfl I (λn s y=>?_) n h
 show wpAny _ A ((compTurn (.ListComp elt [⟨target,iter,ifs,0⟩] scope pos) 0 it acc env).onRaise (λx=>do noteFrame x env;theTreesLotGoes x)) _ _ s
 refine wpAny_noted ?_;rw[compTurn_list];refine ai (wpAny_standAt (ai (gQ (u n s y) (λr c a=>?_) λ_ _ b=>b.elim)))
 rcases a with⟨rfl,a⟩|⟨v,rfl,a⟩
 . exact aC a
 . refine ai (gQ a (λ_ d k=>?_) λ_ _ b=>b.elim)
   refine ai (gQ k (λ_ g l=>ai (gQ l (λok e f=>?_) λ_ _ b=>b.elim)) λ_ _ b=>b.elim)
   cases ok with
   |false=>exact aC ⟨rfl,f⟩
   |true=>
    exact ai (ai (gQ f (λx i o=>ai (gQ o (λ_ j t=>aC (aC ⟨rfl,t⟩)) λ_ _ b=>b.elim)) λ_ _ b=>b.elim))
end
def tZ(X:Cx)(b:bc)(t:dP):Prop:=
 ∀(a:aF) (s:Shared) (σ:L2.St) (H:Hp) (Q:Bool->Hp->Prop),Inv X a σ H s->DV X.K t σ H Q->wpAny (model X.prog X.w) X.A (BX b X.env) (TP X a σ Q) X.xe s
def Sg:dP:=λ_ M Q=>Q true M
theorem QQ:tZ X [] Sg:=by
 rintro a s e H f I ⟨g,M,Q,hs,d,c,b⟩;exact aC ⟨H,I,b true M H c (.refl H) d⟩
theorem QO{t:dP}(h:d8 X c t):tZ X [c] t:=by
 intro a s b H d I e;have:=h a s b H d I e;unfold BX;rw[ug];simp only[if_true,bind_assoc,pure_bind];refine ai (ay this λb f q=>?_)
 simp only[List.forIn_nil];exact aC q
def nE(b:Bool)(a:LR)(M:RM)(Q:ak):Prop:=match b with
 |true=>∀p,M p=none->Q (.ref p) (put M p (.lst a))
 |false=>Q (.ls a) M
noncomputable def m4 (bd:RV->Option (LR))(d:Bool)(b:RM->Prop)(un:RM->RM)(f:dP)(e:aq)(a:List (Option RV)):LR->LR->RM->ak->Prop
 | [],acc,M,Q=>b M/\nE d acc (un M) Q
 |x::xs,acc,M,Q=>b M/\match bd x with
  |some bs=>f (bs.map some++a) M λc M1=>(c=true->e (bs.map some++a) M1 λv M2=>m4 bd d b un f e a xs (acc++ [v]) M2 Q)/\(c=false->m4 bd d b un f e a xs acc M1 Q)
  |none=>False
noncomputable def vd (bd:RV->Option (LR))(md:Bool)(ti:ig)(cap:List Nat)(tt:dP)(te:aq):aq:=λσ M Q=>ti σ M λxs ok un M1=>xs.length<sizeLine/\m4 bd md ok un tt te (cap.map λi=>(σ[i]?).join) xs [] M1 Q
noncomputable def tw:bc->Option (az)
 | []=>some []
 | .Name x _::r=>(tw r).map (x:: ·)
 |_::_=>none
noncomputable def Sr (n:Nat):RV->Option (LR)
 | .tup xs=>if xs.length=n then some xs else none
 |_=>none
noncomputable def Ss (r:RV):Option (LR):=some [r]
def t8(tup:Bool)(tg:Expr)(nm:az):Prop:=match tup,tg with
 |false,.Name x _=>nm= [x]
 |true,.Tuple es _ _=>tw es=some nm
 |_,_=>False
noncomputable def gk (tup:Bool)(n:Nat):RV->Option (LR):=match tup with
 |true=>Sr n
 |false=>Ss
theorem VO{tup:Bool}{n:Nat}(e:gk tup n r=some bs):bs.length=n∨tup=false:=by
 cases tup
 . exact .inr rfl
 . cases r<;>first|cases e;done|skip
   replace e:(if _ then _ else _)=_:=e
   split at e
   . cases e;exact .inl ‹_›
   . cases e
structure vf(N:az)(sc scope:Scope)(nm:az)(cap:List (Nat×Str)):Prop where
 uC:∀p∈cap,N[p.1]? =some p.2/\scope.names.lookup p.2=some .free/\(sc.names.lookup p.2=some .cell∨sc.names.lookup p.2=some .free)
 fI:∀y∈scope.names,y.2= .free->(sc.names.lookup y.1=some .cell∨sc.names.lookup y.1=some .free)
 cM:∀y∈scope.names,y.2≠.cell
 de:scope.kind= .function
 gU:∀y∈scope.names,y.2= .local->scope.names.lookup y.1=some .local
 hx:∀x∈nm,scope.names.lookup x=some .local
 lE:(nm++cap.map Prod.snd).Nodup
noncomputable abbrev iq (ae:au) (k:Nat):Obj:={ cls:=.type "list",data:=.seq ae.toArray k }
section
variable {X:Cx}
theorem IQ:∀f d j,tw f=some d->X.N.Nodup->(∀i x,d[i]? =some x->X.N[j+i]? =some x)->(∀x∈d,X.env.scope.names.lookup x=some .local)->nX X f (mz (List.range' j d.length))/\(assignEach f X.env).length=d.length/\(assignEach f X.env).findIdx? (·.1)=none
 | [],d,j,h,_,_,_=>by cases h;exact⟨Jw,rfl,rfl⟩
 |e::r,d,j,h,lE,hN,hl=>by
  cases e<;>first|cases h;done|skip
  rename_i x p;obtain⟨l,e,rfl⟩:=nM.mp (show(tw r).map (x:: ·)=_ from h)
  obtain⟨a,b,c⟩:=IQ r l (j+1) e lE (λi y g=>by have:=hN (i+1) y g;rw[<-this];congr 1;lia) λy g=>hl y (.tail _ g)
  have hx:=hl x (.head _);have k:(assignEach (.Name x p::r) X.env)=(false,assign (.Name x p) X.env)::assignEach r X.env:=rfl;refine⟨?_,by rw[k,bW,b];rfl,by rw[k,List.findIdx?_cons,c];rfl⟩
  rw[bW,List.range'_succ];exact IH (yr (i:=j) lE (by simpa using hN 0 x rfl) (.inl hx) (.inr hx)) a
theorem Ji:∀(vs:LV) (pre vs0 cv:List (Option V)),vs0.length=vs.length->Q (pre++(vs.map some++cv)) H->mz (List.range' pre.length vs.length) vs (pre++(vs0++cv)) H Q
 | [],pre,vs0,cv,h,q=>by cases wC.mp h;exact⟨rfl,q⟩
 |v::vs,pre,o::r,cv,h,q=>by
  rw[bW,List.range'_succ];refine⟨v,vs,rfl,?_⟩;show mz _ vs ((pre++(o::r++cv)).set pre.length (some v)) H Q;simpa using Ji (H:=H) (Q:=Q) vs (pre++ [some v]) r cv (by simpa using h) (by simpa using q)
variable {elt iter tg:Expr}{nm:az}{tup md:Bool}{scope:Scope}{pos:Pos}{ti:ig}{tt:dP}{te:aq}{ifs:bc}{caps:List (Nat×Str)}{osc:Scope}{oN:az}
theorem Xr{cl C s2 H2 fp pins'}{vs0 cv:List (Option V)}{rv:RV}{Q1:Unit->Shared->Prop}(htg:t8 tup tg nm)(hc:X.calm=true)(c:vf oN osc scope nm caps)(hl:vs0.length=nm.length)
 (I6:Inv (fH X scope cl C (nm++caps.map Prod.snd) s2 H2 fp) pins' (vs0++cv) H6 s6) (r6:RelV xv u) (rr6:Rep X.K H6 rv xv) (eb:gk tup nm.length rv=some bs)
 (hQ:∀vs s7,vs.length=nm.length->aa X.K H6 bs vs->Inv (fH X scope cl C (nm++caps.map Prod.snd) s2 H2 fp) pins' (vs.map some++cv) H6 s7->Q1 () s7):wpAny (model X.prog X.w) X.A (assign tg (compEnvC scope cl C X.env) u) Q1 Nv s6:=by
 have hls:∀x∈nm,(fH X scope cl C (nm++caps.map Prod.snd) s2 H2 fp).env.scope.names.lookup x=some .local:=λx h=>lookup_relabel_local (c.hx x h)
 have lE:=c.lE;cases tup<;>cases tg<;>first|exact False.elim htg|skip
 . rename_i x px
   cases(show nm= [x]from htg)
   cases eb;obtain⟨v0,rfl⟩:=List.length_eq_one_iff.mp hl;have hx0:=hls x (.head _);refine ay (yr (X:=fH X scope cl C (x::caps.map Prod.snd) s2 H2 fp) (i:=0) lE rfl (.inl hx0) (.inr hx0) _ s6 _ H6 xv u (λσ' H'=>σ'=(some xv::cv)/\H'=H6) I6 r6 ⟨rfl,rfl⟩) λ_ s7 zz=>?_;obtain⟨σ7,H7,I7,q7,q7'⟩:=zz
   subst q7 q7';exact hQ [xv] s7 rfl (aa.cons rr6 aa.nil) I7
 . rename_i es tk tp
   have htg:tw es=some nm:=htg;cases rv<;>first|cases(show none=some bs from eb);done|skip
   rename_i xs;have hh:bs.length=nm.length:=(VO eb).resolve_right nofun;obtain rfl:xs=bs:=by
    replace eb:(if _ then _ else _)=_:=eb
    split at eb<;>cases eb
    rfl
   obtain⟨pa,pvs,rfl,sq6,rp6⟩:=rr6;have hlen:pvs.length=nm.length:=rp6.length.symm.trans hh;obtain⟨g1,g2,g3⟩:=IQ (X:=fH X scope cl C (nm++caps.map Prod.snd) s2 H2 fp) es nm 0 htg lE (λi x e=>by
    show(nm++caps.map Prod.snd)[0+i]? =some x;rw[iH,rS (mH.mp e).1];exact e) hls
   have pg:PG (fH X scope cl C (nm++caps.map Prod.snd) s2 H2 fp) (.Tuple es tk tp) (OU X.K nm.length (mz (List.range' 0 nm.length))):=J0 (n:=nm.length) hc g1 g2 g3;refine ay (pg _ s6 _ H6 _ u (λσ' H'=>σ'=(pvs.map some++cv)/\H'=H6) I6 r6 ⟨pa,pvs,rfl,bS.of sq6,hlen,?_⟩) λ_ s7 ⟨σ7,H7,I7,q7,q7'⟩=>?_
   . have:=Ji (H:=H6) (Q:=λσ' H'=>σ'=(pvs.map some++cv)/\H'=H6) pvs [] vs0 cv (by rw[hlen];exact hl) ⟨rfl,rfl⟩
     rw[hlen]at this;exact this
   . subst q7 q7'
     exact hQ pvs s7 hlen rp6 I7
theorem Il(htg:t8 tup tg nm)(hc:X.calm=true)(hi:jd X tg iter ti)
 (hif:∀cl C s H fp,tZ (fH X scope cl C (nm++caps.map Prod.snd) s H fp) ifs tt)
 (hel:∀cl C s H fp,aj (fH X scope cl C (nm++caps.map Prod.snd) s H fp) elt te)
 (hX:X.env.scope=osc) (hN:X.N=oN) (c:vf oN osc scope nm caps)
 (hs:∀v,foldedSetIterable iter X.env v=pure v) {s:Shared} (I:Inv X pins σ0 H s) (hw:up X.K (vd (gk tup nm.length) md ti (caps.map Prod.fst) tt te) σ0 H Q0)
 (fin:∀(D C:Addr) (s5:Shared) (m5:br) (H5:Hp),s5.heap.Ns C m5->(∀h',Heap.SameBut C s5.heap h'->Inv X pins σ0 H5 { s5 with heap:=h' })->Q0 (.ref D) H5->H5 C=none->C≠X.env.locals->X.s₀.heap.objs.size<=C->(∀y c,X.env.cells.lookup y=some c->c≠C)->(∀p∈X.pn++pins,p.1≠C)->compPost (model X.prog X.w) X.A X.xe use PP (.ref D) C (.ok .next) s5):
 wpAny (model X.prog X.w) X.A (comprehension (.ListComp elt [⟨tg,iter,ifs,0⟩] scope pos) scope X.env pos' (newList []) false (eval iter X.env) use) PP X.xe s:=by
 subst hX;subst hN;obtain⟨σ,M,Q,hst,hv,ht,hk⟩:=hw;obtain⟨cl,hclos,hcl1,hcl2⟩:=T6 scope λy hy hf=>I.ok.has y.1 (c.fI y hy hf)
 refine wpAny_comprehension_free (use:=use) (cl:=cl) rfl hs hclos c.de c.gU ?_;refine gQ (hi pins s σ0 H (λJ H1=>∃xs ok un M1,Ext H H1/\View X.K H1 M1/\jr X.H₀ H X.K J xs ok un H1/\xs.length<sizeLine/\m4 (gk tup nm.length) md ok un tt te ((caps.map Prod.fst).map λi=>(σ[i]?).join) xs [] M1 Q) I ⟨σ,M,_,hst,hv,ht,λxs ok un M' J H' q e w hJ=>⟨xs,ok,un,M',e,w,hJ,q.1,q.2⟩⟩)
  (λv s1 h1=>gQ h1 (λitv s2 h2=>?_) λ_ _ e=>e) λ_ _ e=>e
 obtain⟨it,fp,tn,J,H2,rfl,I2,T,st2,f2,xs,ok,un,M1,e2,w2,hJ,hz,hq⟩:=h2;have qm:∀b∈fp,b<s2.heap.objs.size:=λb hb=>by obtain⟨o,e,_⟩:=T.obj _ _ st2 b hb;exact bB e
 refine jX (wpAny_newFunctionEnv c.cM (by intro y hy;simp at hy) (λh₁ hns₁ hsb₁=>?_) c.de)
 dsimp only at hns₁ hsb₁ ⊢;generalize hH2:s2.heap.push { cls:=.type "list",dict:=none,data:=.seq ([]:au).toArray }=hp2 at hns₁ hsb₁ ⊢;have hCs:hp2.objs.size=s2.heap.objs.size+1:=by rw[<-hH2,Heap.size_push]
 have old:∀b o,s2.heap.get? b=some o->h₁.get? b=some o:=λb o e=>hsb₁.extBut b o (cE (by rw[hCs];exact Nat.lt_succ_of_lt (bB e))) (bx _ (hH2 ▸ bx _ e))
 have hDC:s2.heap.objs.size≠hp2.objs.size:=by lia
 have hacc:h₁.get? s2.heap.objs.size=some (iq [] 0):=hsb₁.extBut _ _ hDC (bx _ (hH2 ▸ c0 _ rfl));generalize hD:s2.heap.objs.size=D at*;generalize hp2.objs.size=C at*;have hCle:D<=C:=by lia
 have oD:∀{b o},s2.heap.get? b=some o->b<D:=λe=>hD ▸ bB e
 have hDfp:∀b∈fp,b≠D:=λb hb=>cE (qm b hb)
 let Y:=fH X scope cl C (nm++caps.map Prod.snd) s2 H2 fp
 have okB:Y.Ok:=ZN I2 f2 (by rw[hD];exact qm) c.de (by rw[hD];exact hCle) hcl1 hcl2 c.cM
 have fr:∀b,D<=b->H2 b=none:=λb hb=>I2.av.fresh (by rw[hD];exact hb)
 have jn:∀{α:Type} {x:Option (Option α)} {v:α},x.join=some v->x=some (some v):=λ{α x v} e=>by
  obtain _|_|_:=x<;>cases e<;>rfl
 have capsV:∃cv:List (Option V),((caps.map Prod.fst).map λi=>(σ[i]?).join).length=cv.length/\cv.length=caps.length/\(∀(j:Nat) v,cv[j]? =some (some v)->∃p,caps[j]? =some p/\σ0[p.1]? =some (some v))/\
  ∀(j:Nat) r,((caps.map Prod.fst).map λi=>(σ[i]?).join)[j]? =some (some r)->∃v,cv[j]? =some (some v)/\Rep X.K H2 r v:=by
  refine⟨caps.map λp=>(σ0[p.1]?).join,by simp,by simp,λj v e=>?_,λj r e=>?_⟩
  . rw[fR]at e
    obtain⟨p,q,e⟩:=nM.mp e;exact⟨p,q,jn e⟩
  . rw[bp,fR]at e
    obtain⟨p,q,e⟩:=nM.mp e;obtain⟨v,h1,h2⟩:=hst.2 p.1 r (jn e);exact⟨v,by rw[fR,q,uf,h1];rfl,Rep.ext e2 r v h2⟩
 obtain⟨cv,bbl,cvl,cv1,cv2⟩:=capsV;generalize ((caps.map Prod.fst).map λi=>(σ[i]?).join)=bb at*
 let L:=m4 (gk tup nm.length) md ok un tt te bb
 have I3:Inv Y [(D,iq [] 0)] (List.replicate nm.length none++cv) H2 { s2 with heap:=h₁,toks:=s2.toks+([]:List (Str×Value)).length }:=by
  refine⟨okB,rfl,I2.bare,Un.kept old,⟨_,hns₁,λi y v a b _=>?_⟩,λy z e=>?_,fr C hCle,λy z e=>I2.cg y z (hcl1 y z e),λp hp=>?_,I2.av.kept old,?_⟩
  . by_cases hi0:i<nm.length
    . rw[rS (by rw[zM];exact hi0),List.getElem?_replicate]at b
      split at b<;>cases b
    . obtain⟨j,rfl⟩:=Nat.exists_eq_add_of_le (Nat.le_of_not_lt hi0)
      rw[List.getElem?_append_right (by rw[zM];lia),zM,zL]at b
      replace a:(nm++caps.map Prod.snd)[nm.length+j]? =some y:=a
      rw[List.getElem?_append_right ∅,zL,fR]at a
      obtain⟨p,q1,q2⟩:=cv1 j v b;rw[q1]at a;cases a;obtain⟨z1,z2,z3⟩:=c.uC p (jw q1);obtain⟨m,hn,hl⟩:=I2.loc;obtain⟨u,ru,lk⟩:=hl p.1 p.2 v z1 q2 (z3.elim (λz=>.inr (.inl z)) λz=>.inr (.inr z))
      refine⟨u,ru,.inr ⟨GR z2,?_⟩⟩;obtain⟨d,ec⟩:=hcl2 (p.2,.free) (PySem.mem_of_lookup z2) rfl;obtain⟨k,_⟩|⟨_,d',e',o,ho,hd⟩:=lk
      . rcases z3 with z|z<;>cases z.symm.trans (show X.env.scope.names.lookup p.2=some .local from k)
      . cases(hcl1 p.2 d ec).symm.trans e'
        exact⟨d,ec,o,old d o ho,hd⟩
  . obtain⟨v,o,ho,hd⟩:=I2.cell y z (hcl1 y z e)
    exact⟨v,o,old z o ho,hd⟩
  . obtain rfl:p=(D,iq [] 0):=by simpa[Y,fH]using hp
    refine⟨hacc,fr D (aD _),hDC,λz=>?_,λv=>by simp⟩
    obtain e|e:=fC.mp (I2.fQ D z)
    . exact aU I2.lt (by rw[<-e,hD];exact j5 _)
    . exact I2.uK (by rw[hD];exact aD _) e
  . show(List.replicate nm.length none++cv).length=(nm++caps.map Prod.snd).length
    simp[cvl]
 let Iv:Nat->Shared->Prop:=λn s'=>∃(i:Nat) (v0:List (Option V)) (H':Hp) (M':RM) (accR:LR) (accV:LV) (ae:au) (k:Nat),n=xs.length-i/\v0.length=nm.length/\i<=xs.length/\accR.length<=i/\
  Inv Y [(D,iq ae k)] (v0++cv) H' s'/\View X.K H' M'/\Ext H2 H'/\aa X.K H' accR accV/\Vals accV ae/\tn i s'.heap/\(∀b∈fp,H' b=none)/\L (xs.drop i) accR M' Q
 have W:codeAny (model X.prog X.w) X.A (.compLoop (.ListComp elt [⟨tg,iter,ifs,0⟩] scope pos) 0 (.ref it) (.ref D) (compEnvC scope cl C X.env)) (compPost (model X.prog X.w) X.A X.xe use PP (.ref D) C) { s2 with heap:=h₁,toks:=s2.toks+([]:List (Str×Value)).length }:=by
  refine UN Iv ?_ xs.length ⟨0,List.replicate nm.length none,H2,M1,[],[],[],0,rfl,by simp,j3 _,aD _,I3,w2,.refl _,aa.nil,.nil,T.keep _ _ _ st2 λb _ o e=>old b o e,λb hb=>(f2 b hb).1,by simpa using hq⟩
  rintro n s' ⟨i,v0,H',M',accR,accV,ae,k,rfl,hv0,hi,hal,I4,w4,e4,ra,rl,st4,f4,hq4⟩;have fpB:∀{Hx:Hp},(∀b∈fp,Hx b=none)->∀b∈fp,kE Y [(D,iq ae k)] Hx b:=λf b hb=>⟨f b hb,(okB.uB b hb).1,okB.iR b hb,.inl hb,(okB.uB b hb).2,λp hp=>by
   obtain rfl:p=(D,iq ae k):=by simpa[Y,fH]using hp
   exact(hDfp b hb).symm⟩
  by_cases hlt:i<xs.length
  . rw[show xs.drop i=xs[i]::xs.drop (i+1) by simp]at hq4
    obtain⟨av,hq4⟩:=hq4;obtain⟨hgo,hy⟩:=hJ.turn i H' M' e4 w4 av xs[i] (by simp)
    refine ay (T.item Y rfl rfl rfl hc i _ s' _ H' Nv I4 (fpB f4) st4 hgo) λr s5 ⟨u,hr,h5⟩=>.inr ⟨u,hr,?_⟩
    refine ay h5 λ_ s6 zz=>?_;obtain⟨xv,H6,I6,r6,y6,st6,f6⟩:=zz
    obtain⟨e6,w6,rr6⟩:=hy xv H6 y6;have I6':=I6.pinned (fpB f6) (T.obj _ _ st6);split at hq4
    rotate_left
    . exact hq4.elim
    rename_i bs ebs;refine Xr htg hc c hv0 I6' r6 rr6 ebs λvs6 s7 lv6 rp6 I7=>?_
    have base:∀{Hx:Hp},Ext H6 Hx->aP X.K Hx (bs.map some++bb) (vs6.map some++cv):=λ{Hx} ex=>by
     have lb:=rp6.length;refine⟨by simp[bbl,lb],λj r e=>?_⟩
     by_cases hj:j<bs.length
     . rw[rS (by simpa using hj),fR]at e
       obtain⟨r',q,e⟩:=nM.mp e;cases e;obtain⟨v,q1,q2⟩:=rp6.get q;exact⟨v,by rw[rS (by rw[aW];lia),fR,q1];rfl,Rep.ext ex _ _ q2⟩
     . obtain⟨k,rfl⟩:=Nat.exists_eq_add_of_le (Nat.le_of_not_lt hj)
       rw[List.getElem?_append_right (by simp),aW,zL]at e
       obtain⟨v,q1,q2⟩:=cv2 k r e;exact⟨v,by rw[List.getElem?_append_right (by rw[aW];lia),aW,<-lb,zL];exact q1,Rep.ext (e4.trans (e6.trans ex)) r v q2⟩
    have next:∀{M8:RM} {H8:Hp} {s8:Shared} {accR':LR} {accV':LV} {its':au} {k':Nat},accR'.length<=i+1->
     Inv Y ([(D,iq its' k')]++qN fp s6.heap) (vs6.map some++cv) H8 s8->View X.K H8 M8->Ext H6 H8->aa X.K H8 accR' accV'->Vals accV' its'->L (xs.drop (i+1)) accR' M8 Q->∃m,m<xs.length-i/\Iv m s8:=by
     intro M8 H8 s8 accR' accV' its' k' hl' I8 w8 e8 ra' rl' hq8;have keep8:∀b∈fp,∀o,s6.heap.get? b=some o->s8.heap.get? b=some o/\H8 b=none:=λb hb o e=>
      (I8.pin (b,o) (i8 _ (i8 _ (AM hb e)))).imp id And.left
     refine⟨xs.length-(i+1),∅,i+1,vs6.map some,H8,M8,accR',accV',its',k',rfl,by rw[aW];exact lv6,hlt,hl',I8.dv,w8,e4.trans (e6.trans e8),ra',rl',T.keep _ _ _ st6 λb hb o e=>(keep8 b hb o e).1,λb hb=>?_,hq8⟩
     obtain⟨o,e,_⟩:=T.obj _ _ st6 b hb;exact(keep8 b hb o e).2
    refine ay (hif cl C s2 H2 fp _ s7 _ H6 (λoc H8=>∃M8,View X.K H8 M8/\Ext H6 H8/\(oc=true->te (bs.map some++bb) M8 λv M2=>L (xs.drop (i+1)) (accR++ [v]) M2 Q)/\(oc=false->L (xs.drop (i+1)) accR M8 Q)) I7 ⟨_,M',_,base (.refl _),w6 M' w4,hq4,λb M8 H8 q e w=>⟨M8,w,e,q.1,q.2⟩⟩) λoc s8 zz=>?_;obtain⟨H8,I8,M8,w8,e8,qt,qf⟩:=zz
    cases oc with
    |false=>exact next ∅ I8 w8 e8 (aa.ext (e6.trans e8) _ _ ra) rl (qf rfl)
    |true=>
     refine ay (hel cl C s2 H2 fp _ s8 _ H8 (λv H9=>∃rv M9,View X.K H9 M9/\Ext H8 H9/\Rep X.K H9 rv v/\L (xs.drop (i+1)) (accR++ [rv]) M9 Q) I8 ⟨_,M8,_,base e8,w8,qt rfl,λrv M9 v H9 q e w r=>⟨rv,M9,w,e,r,q⟩⟩) λy s9 zz=>?_;obtain⟨yv,H9,I9,r9,rv,M9,w9,e9,rr9,hq9⟩:=zz
     have pD9:=I9.pin (D,iq ae k) (i8 _ (zN _ (.head _)));have hlen:ae.length<=i:=by rw[<-rl.length,<-ra.length];exact hal
     refine call_meets F.slot_list_append ⟨_,pD9.1,rfl⟩ F.entry_list_append (F.args_list_append_2 _ _) (PySem.list_append D ae.toArray k y (by rw[eX];lia)) ⟨pD9.1,?_⟩
     have q:=PySem.IsL.update pD9.1 (λx_1=>x_1.push y)
     rw[show ae.toArray.push y=(ae++ [y]).toArray by simp]at q
     obtain⟨k',q⟩:∃k',(s9.heap.update D (Obj.mapSeq λx_1=>x_1.push y)).get? D=some (iq (ae++ [y]) k'):=⟨_,q⟩
     have I10:Inv Y (qN fp s6.heap) (vs6.map some++cv) H9 { s9 with heap:=s9.heap.update D (Obj.mapSeq λx_1=>x_1.push y),toks:=s9.toks }:=by
      refine Inv.turned (it:=D) (I9.eF λp hp=>I9.pin p (i8 _ (i8 _ hp))) (λb o hb e=>(Heap.get?_update_other _ _ (cx hb)).trans e) pD9.2.1 pD9.2.2.1 (.inr (hD ▸ aD _)) (λz d e=>?_) λp hp=>hDfp p.1 (HH (show p∈qN fp s6.heap by simpa[Y,fH]using hp)).1
      obtain⟨_,_,ho,_⟩:=I2.cell z d (hcl1 z d e);exact cE (oD ho)
     refine next (k':=k') (by rw[fF];exact Nat.succ_le_succ hal) (I10.eF λp hp=>?_) w9 (e8.trans e9) ((aa.ext (e6.trans (e8.trans e9)) _ _ ra).append (aa.cons rr9 aa.nil)) (rl.append (.cons r9 .nil)) hq9
     obtain hp|hp:=c6.mp hp
     . cases eG.mp hp
       exact⟨q,pD9.2.1,pD9.2.2.1,pD9.2.2.2.1,λv=>by simp⟩
     . exact I10.pin p (i8 _ hp)
  . obtain rfl:i=xs.length:=by lia
    rw[List.drop_length]at hq4;obtain⟨hok4,hq4⟩:=hq4;refine ay (T.done Y rfl rfl rfl hc _ _ s' _ H' Nv I4 (fpB f4) st4 (hJ.stop _ H' M' e4 w4 hok4 (aD _))) λr s5 ⟨hr,I5⟩=>.inl ⟨hr,?_⟩
    obtain⟨m5,hn5,_⟩:=I5.loc;have pD5:=I5.pin (D,iq ae k) (i8 _ (.head _));have hC5:H' C=none:=I5.free;obtain⟨HD,oHD,wHD,H5,t5,q5,c5⟩:∃HD:HO,(∀h':Heap,h'.get? D=some (iq ae k)->accV.length<=sizeLine->aB X.prog X.w (upd H' D HD) h' D HD)/\(∀o u,HD= .aX o u->i5 u=false)/\∃H5,eM X.H₀ (upd H' D HD) H5/\Q0 (.ref D) H5/\H5 C=none:=by
     have keyD:∀(HD:HO),∃H5,eM X.H₀ (upd H' D HD) H5/\H5 C=none/\∃H4,bu H' H4/\Ext H H4/\View X.K H4 (un M')/\H4 D=none/\H5=upd H4 D HD:=λHD=>by
      obtain⟨H4,t4,e4',x4',v4⟩:=hJ.dj H' M' e4 w4 hok4;obtain rfl|⟨d,ob,u,h1,du,h0,rfl⟩:=t4
      . exact⟨_,.inl rfl,(aZ (cx hDC)).trans hC5,_,e4',x4',v4,pD5.2.1,rfl⟩
      . have nd:d≠D:=λz=>by rw[z,pD5.2.1]at h1;cases h1
        have nc:C≠d:=λz=>by rw[<-z,hC5]at h1;cases h1
        have eq:upd (upd H' D HD) d u=upd (upd H' d u) D HD:=by
         funext b;unfold upd
         by_cases b1:b=d
         . rw[ag b1,ab (b1 ▸ nd),ag b1]
         . rw[ab b1,ab b1]
        exact⟨_,.inr ⟨d,ob,u,(aZ nd).trans h1,du,h0,rfl⟩,by rw[aZ nc,aZ (cx hDC)];exact hC5,_,e4',x4',v4,(aZ nd.symm).trans pD5.2.1,eq⟩
     cases md with
     |false=>
      obtain⟨H5,t5,c5,H4,x4,y4,v4,n4,rfl⟩:=keyD (.aX (iq ae k) (.lst accV));exact⟨.aX (iq ae k) (.lst accV),λh' e z=>⟨e,z,ae,k,rl,e⟩,λo u z=>by cases z;rfl,_,t5,hk _ _ _ _ hq4 (y4.trans (Ext.new n4)) (v4.new n4) (kh n4 (aa.aV x4 _ _ ra)),c5⟩
     |true=>
      obtain⟨H5,t5,c5,H4,x4,y4,v4,n4,rfl⟩:=keyD (.lst accV);exact⟨.lst accV,λh' e z=>⟨z,ae,k,rl,e⟩,λo u z=>(by cases z),_,t5,hk _ _ _ _ (hq4 D (v4.free n4)) (y4.trans (Ext.new n4)) (v4.cS n4 ⟨accV,rfl,aa.aV (x4.trans (Ext.new n4).w) _ _ ra⟩) rfl,c5⟩
    refine fin D C s5 m5 H5 hn5 (λh' sb=>t5.inv ?_) q5 c5 (Nat.ne_of_gt (fA I2.lt (by rw[hD];exact hCle))) (bQ I2.sz (by rw[hD];exact hCle)) (λy d e=>?_) λp hp=>cE (fA (oD (I2.pin p hp).1) hCle)
    rotate_left
    . obtain⟨_,_,ho,_⟩:=I2.cell y d e
      exact cE (fA (oD ho) hCle)
    have hDh:h'.get? D=some (iq ae k):=sb.extBut _ _ hDC pD5.1;have uD:∀{b w},H' b=some w->upd H' D HD b=some w:=λq=>(aZ (fh q pD5.2.1)).trans q
    have un5:Un (iT X.stack) fp H2 (upd H' D HD) s2.heap h':=by
     have B:Un (iT X.stack) fp H2 H' s2.heap s5.heap:=I5.base;have nC:∀{b o},s2.heap.get? b=some o->b≠C:=λe=>cE (fA (oD e) hCle)
     exact⟨λb o a1 a2 a3 a4=>sb.extBut b o (nC a1) (B.keep b o a1 a2 a3 a4),λb o a1 a2 a3 a4=>(B.slot b o a1 a2 a3 a4).imp λ_ e=>sb.extBut b _ (nC a1) e,λb o a1 a2 a4=>(aZ (cE (oD a1))).trans (B.free b o a1 a2 a4),
      λb o a1 a4=>(B.there b o a1 a4).imp λ_ e=>sb.extBut b _ (nC a1) e,λb ys a=>uD (B.bO b ys a),λb o u a=>uD (B.aY b o u a),λb ps a=>(B.fw b ps a).imp λ_ e=>uD e⟩
    refine I2.ux (ch:=fp) I5.os un5 (λb u q=>?_) I5.bare λb hb=>⟨(f2 b hb).2.2.2.1,(f2 b hb).2.1,(f2 b hb).2.2.2.2.1,(f2 b hb).2.2.2.2.2⟩
    by_cases hb:b=D
    . subst hb;rw[ej]at q;cases q
      exact oHD h' hDh (by rw[<-ra.length];lia)
    . rw[aZ hb]at q
      exact(I5.av b u q).fu (λd v hcb e=>sb.extBut d v (hcb.elim (λz=>z ▸ fh q hC5) λz=>fh z hC5) e) (λ_ e=>uD e) λ_ _ e=>uD e
 exact codeAny_compStart_list W (T.self X.A 0 _ _ _ (T.keep _ _ _ st2 λb _ o e=>old b o e) W)
end
noncomputable def gh:RV->Option Key
 | .int i=>some (.inl i)
 | .str x=>some (.inr x)
 |_=>none
noncomputable def fb(kvs:List (Key×α))(k:Key):Option α:=(kvs.find? λp=>decide (p.1=k)).map (·.2)
theorem sQ{K:ah}{a:RV}{x:V}(e:gh a=some k)(r:Rep K H a x):x=kV k:=by
 cases a with
 |int i=>cases e;exact r
 |str y=>cases e;exact r
 |_=>cases e
theorem x8{K:ah}:∀{kvs:bR} {ws:List (Key×V)},aE K H kvs ws->(∀r,fb kvs k=some r->∃v,gf ws k=some v/\Rep K H r v)/\(fb kvs k=none->gf ws k=none)
 | [],ws,h=>by
  have h:ws= []:=h;subst h;exact⟨λr e=>(by cases e),λ_=>rfl⟩
 |(j,x)::t,ws,h=>by
  obtain⟨v,u,rfl,c,d⟩:=h;have b:=x8 (k:=k) d;unfold fb;rw[mM]
  by_cases a:j=k
  . rw[cu (show(j,x).1=k from a)]
    refine⟨λr e=>⟨v,uS (p:=(j,v)) a,?_⟩,λe=>(by cases e)⟩
    cases e;exact c
  . rw[fy (show ¬(j,x).1=k from a)]
    refine⟨λr e=>?_,λe=>?_⟩
    . rw[qD (p:=(j,v)) a];exact b.1 r e
    . rw[qD (p:=(j,v)) a];exact b.2 e
structure KTab(P:Program)(w:World)(K:ah)(mg:br)(x:Str)(kvs:bR):Prop where
 ex:∃(a:Addr) (vs:List (Key×Value)) (ws:List (Key×V)),mg x=some (.ref a)/\(a==sysModules)=false/\(∀h:Heap,K.In h->h.DictOf (cZ P w) a vs)/\KV ws vs/\∀H,aE K H kvs ws
noncomputable def vH (w:World):List DictEntry->List (Str×Value)->Prop
 | [],[]=>True
 |e::es,(x,v)::r=>(∃t,e.key= .str x t)/\e.hash=hashStr w x/\e.val=v/\vH w es r
 |_,_=>False
theorem GK{P:Program}:∀{es:List DictEntry} {vs:List (Str×Value)},vH w es vs->
 (∀e∈es,∃k,(cZ P w).is k e.key=true/\e.hash=(cZ P w).hash k)/\Pairs (cZ P w) es (vs.map λp=>((Sum.inr p.1:Key),p.2))
 | [],[],_=>⟨λ_ h=>(by cases h),Pairs.nil⟩
 |e::es,(x,v)::r,h=>by
  obtain⟨⟨t,h1⟩,h2,h3,h4⟩:=h;obtain⟨ih1,ih2⟩:=GK (P:=P) (w:=w) h4;have hi:(cZ P w).is (.inr x) e.key=true:=by rw[h1];exact GP P w x t
  refine⟨λe' he=>?_,?_⟩
  . rcases fC.mp he with rfl|he
    . exact⟨.inr x,hi,h2⟩
    . exact ih1 e' he
  . subst h3
    exact Pairs.cons hi rfl ih2
theorem HI:∀{l:az},l.Nodup->(l.map (Sum.inr:Str->Key)).Nodup
 | [],_=>mP
 |a::r,h=>by
  obtain⟨c,d⟩:=iL.mp h;rw[bX];refine iL.mpr ⟨λm=>?_,HI d⟩
  obtain⟨b,f,e⟩:=aA.mp m;cases e;exact c f
theorem Jn{P:Program}{K:ah}{x:Str}{a:Addr}{sl:Array (cI)}{vs:List (Str×Value)}
 (i:mg x=some (.ref a)) (l:K.lookup a=some ⟨.type "dict",none,.dict es ep,sl⟩) (f:(a==sysModules)=false) (m:vH w es.toList vs) (j:(vs.map Prod.fst).Nodup)
 (b:Obj.ExactDict ⟨.type "dict",none,.dict es ep,sl⟩) (h:KV ws (vs.map λp=>((Sum.inr p.1:Key),p.2))) (k:∀H,aE K H kvs ws):KTab P w K mg x kvs:=by
 obtain⟨c,d⟩:=GK (P:=P) m;refine⟨a,_,ws,i,f,λh X=>⟨_,es,ep,X _ _ l,b,rfl,λe g=>c e (by simpa using g),d,?_⟩,h,k⟩
 have:(vs.map λp=>((Sum.inr p.1:Key),p.2)).map (·.1)=(vs.map Prod.fst).map Sum.inr:=by simp[bp,Function.comp_def]
 rw[this];exact HI j
section
variable {X:Cx}
noncomputable def za (kvs:bR)(te:aq):aq:=λσ M Q=>te σ M λk M1=>match gh k with
 |some key=>(match fb kvs key with|some v=>Q v M1|none=>False)
 |none=>False
theorem R8{x:Str}{e:Expr}{p pos:Pos}(T:KTab X.prog X.w X.K X.mg x kvs)(h:aj X e te)(hs:zw e:=by intro _ _;rfl)(i:Gl X x:=by rfl)(g:(x==("__debug__":Str))=false:=by decide):
 aj X (.Subscript (.Name x p) e pos) (za kvs te):=by
 obtain⟨a,vs,D,l,z,f,j,m⟩:=T.ex;rintro b s d H u I ⟨t,M,Q,hs',hv,ht,hq⟩;refine IZ PySem.F.slot_dict_getitem.lookup hs (m6 I i l (ay (h b s d H (λv H1=>∃r M1,Rep X.K H1 r v/\Ext H H1/\View X.K H1 M1/\(match gh r with
  |some key=>(match fb kvs key with|some v=>Q v M1|none=>False)
  |none=>False)) I ⟨t,M,_,hs',hv,ht,λr M1 v H1 q e w r1=>⟨r,M1,r1,e,w,q⟩⟩) λiv A ⟨y,H2,I2,ry,r,M2,rr,e2,w2,q2⟩=>?_) g)
 have dd:=f _ I2.dE;refine⟨dd.typeIs,?_⟩;cases ek:gh r with
 |none=>rw[ek]at q2;exact q2.elim
 |some key=>
  rw[ek]at q2;simp only at q2;cases el:fb kvs key with
  |none=>rw[el]at q2;exact q2.elim
  |some rv=>
   rw[el]at q2;simp only at q2;obtain⟨v,e1,r1⟩:=(x8 (k:=key) (m H2)).1 rv el;have:=sQ ek rr;subst this;obtain⟨C,n,c⟩:=bM.some_of (v:=v) (o:=valueAt vs key) (by rw[<-e1];exact j.val key)
   exact wpAny_getItem_of (jm ry) dd.mapOf n ⟨v,H2,I2.tok _,c,hq rv M2 v H2 q2 e2 w2 r1⟩
theorem Tt{K:ah}{vs:List (Key×Value)}(b:KV ws vs)(a:aE K H kvs ws):(valueAt vs key).isSome=(fb kvs key).isSome:=by
 rw[<-(b.val key).bh];cases el:fb kvs key with
 |none=>rw[(x8 (k:=key) a).2 el];rfl
 |some rv=>obtain⟨v,e1,_⟩:=(x8 (k:=key) a).1 rv el;rw[e1];rfl
noncomputable def drop (M:RM)(p:Addr):RM:=λb=>if b=p then none else M b
noncomputable def wY (l:List (Str×Int)):bR:=l.map λp=>((Sum.inr p.1:Key),RV.int p.2)
noncomputable def DY (l:List (Str×Int)):List (Key×V):=l.map λp=>((Sum.inr p.1:Key),V.int p.2)
theorem Kh{K:ah}:∀l:List (Str×Int),aE K H (wY l) (DY l)
 | []=>rfl
 |p::r=>⟨V.int p.2,DY r,rfl,by simp only[Rep],Kh r⟩
end
theorem qvs{P:Program}{K:ah}{x qual:Str}{st:Stmt}{sp:bU}{t:dz}(F:uo K x qual st f fd)(S:sS N ps (fX st))
 (len:∀rs M Q,sp rs M Q->rs.length=ps.length)
 (term:∀(cdv:Value),fd.code=cdv->∀(A:Around) (outer:List Env) (s:Shared) (H:Hp) (E:XK),aH k (A.deeper (envOfC qual (fX st) s.heap.objs.size f cdv))->kD (nG fg P w K mg base N qual (fX st) f cdv A outer s H E).sA (qF st) t)
 (body:∀rs M Q,sp rs M Q->t { nx:=λ_ M'=>Q .aw M',rt:=Q } (jj N rs) M):dZ P w K mg base fg (k+1) f fd ps (fP K sp):=by
 refine F.ok S (λvs H Q0 E h=>?_) λcdv hcd A outer s H vs Q0 E hr h=>?_
 . obtain⟨rs,M,Q,rr,hv,hq,hk⟩:=h
   rw[<-rr.length];exact len rs M Q hq
 . obtain⟨rs,M,Q,rr,hv,hq,hk⟩:=h
   refine⟨_,term cdv hcd A outer s H E hr,jj N rs,M,{ nx:=λ_ M'=>Q .aw M',rt:=Q },TH rr,hv,body rs M Q hq,⟨λσ M' σ0 H' q e w r=>hk .aw M' .aw H' q e w rfl,hk,λ_ _ _ _ z=>z.elim,λ_ _ _ _ z=>z.elim⟩⟩
theorem Y8:bootBuiltins "len" =some (.builtin "len"):=by decide+kernel
theorem S2:bootBuiltins "isinstance" =some (.builtin "isinstance"):=by decide+kernel
theorem Y5:bootBuiltins "ord" =some (.builtin "ord"):=by decide+kernel
theorem ZM:bootBuiltins "all" =some (.builtin "all"):=by decide+kernel
theorem Iq:bootBuiltins "tuple" =some (.type "tuple"):=by decide+kernel
theorem Xm:bootBuiltins "list" =some (.type "list"):=by decide+kernel
theorem Y9:bootBuiltins "int" =some (.type "int"):=by decide+kernel
theorem Xn:bootBuiltins "bool" =some (.type "bool"):=by decide+kernel
theorem Y4:bootBuiltins "str" =some (.type "str"):=by decide+kernel
section
variable {X:Cx}{pos:Pos}
theorem WB(b:X.mg "int" =none)(a:Gl X "int":=by rfl):aj X (.Name "int" pos) (rC (.ty "int")):=vk b Y9 (v:=.ty "int") rfl (λH=>by simp only[Rep]) a
theorem VA(b:X.mg "bool" =none)(a:Gl X "bool":=by rfl):aj X (.Name "bool" pos) (rC (.ty "bool")):=vk b Xn (v:=.ty "bool") rfl (λH=>by simp only[Rep]) a
theorem WA(b:X.mg "str" =none)(a:Gl X "str":=by rfl):aj X (.Name "str" pos) (rC (.ty "str")):=vk b Y4 (v:=.ty "str") rfl (λH=>by simp only[Rep]) a
theorem TM(b:X.mg "tuple" =none)(a:Gl X "tuple":=by rfl):aj X (.Name "tuple" pos) (rC (.ty "tuple")):=vk b Iq (v:=.ty "tuple") rfl (λH=>by simp only[Rep]) a
theorem Vz(b:X.mg "list" =none)(a:Gl X "list":=by rfl):aj X (.Name "list" pos) (rC (.ty "list")):=vk b Xm (v:=.ty "list") rfl (λH=>by simp only[Rep]) a
def Dz(mg:br)(x:Str)(i:Int):Prop:=∃t,mg x=some (.int i t)
theorem rgi{x:Str}{i:Int}(h:Dz X.mg x i)(b:Gl X x:=by rfl)(a:(x==("__debug__":Str))=false:=by decide):aj X (.Name x pos) (rC (.int i)):=by
 obtain⟨t,c⟩:=h;exact K5 c (v:=.int i) ⟨t,rfl⟩ (λH=>by simp only[Rep]) b a
def zt(K:ah)(a:Addr)(b:az):Prop:=∃(o:Obj) (ae:Array Value) (n:Nat),K.lookup a=some o/\o.cls= .type "tuple"/\o.data= .seq ae n/\ae.size<=sizeLine/\Vals (b.map V.str) ae.toList
def tY(K:ah)(mg:br)(x:Str)(b:az):Prop:=∃a,mg x=some (.ref a)/\zt K a b
def Pt(K:ah)(a:az):aq:=λ_ M Q=>∀p,zt K p a->Q (.ref p) M
theorem PH{x:Str}(h:tY X.K X.mg x ss)(c:Gl X x:=by rfl)(b:(x==("__debug__":Str))=false:=by decide):aj X (.Name x pos) (Pt X.K ss):=by
 obtain⟨a,e,f⟩:=h;refine PE.imp (K5 (r:=.ref a) e (v:=.ref a) rfl (λH=>by simp only[Rep]) c b) λσ0 H k h=>?_
 obtain⟨j,M,Q,hs,i,g,d⟩:=h;exact⟨j,M,Q,hs,i,g a f,d⟩
end
theorem Wn{K:ah}{x:Str}{a:Addr}{b:az}{ae:Array Value}{n:Nat}{sl:Array (cI)}(c:mg x=some (.ref a))(l:K.lookup a=some ⟨.type "tuple",d,.seq ae n,sl⟩)(hz:ae.size<=sizeLine)
 (e:Vals (b.map V.str) ae.toList):tY K mg x b:=⟨a,c,_,ae,n,l,rfl,rfl,hz,e⟩
structure KW(N:az)(sc:Scope):Prop where
 nd:N.Nodup
 loc:∀x∈N,sc.names.lookup x=some .local∨sc.names.lookup x=some .cell
 jE:∀x∈N,(x==("__debug__":Str))=false/\(x==("__classdict__":Str))=false
section
variable {X:Cx}{x:Str}{pos pos':Pos}
theorem Qc{scope:Scope}{s:Shared}(h:scope.names.lookup x=some .globalImplicit):Gl (fH X scope cl C Nc s H fp) x:=by
 exact(uY (env:=X.env) (x:=x) (names:=scope.names)).elim (·.trans h) λz=>by rw[h]at z;cases z.2
end
noncomputable def Cs (w:World):List DictEntry->List (Str×Int)->Prop
 | [],[]=>True
 |e::es,(x,i)::r=>(∃t,e.key= .str x t)/\e.hash=hashStr w x/\(∃t,e.val= .int i t)/\Cs w es r
 |_,_=>False
theorem Kz:∀{es:List DictEntry} {l:List (Str×Int)},Cs w es l->∃vs:List (Str×Value),vH w es vs/\vs.map Prod.fst=l.map Prod.fst/\KV (DY l) (vs.map λp=>((Sum.inr p.1:Key),p.2))
 | [],[],_=>⟨[],trivial,rfl,.nil⟩
 |e::es,(x,i)::r,h=>by
  obtain⟨d,f,⟨t,g⟩,j⟩:=h;obtain⟨vs,a,b,c⟩:=Kz j;exact⟨(x,.int i t)::vs,⟨d,f,g,a⟩,by simp[b],.cons ⟨rfl,t,rfl⟩ c⟩
theorem UX{P:Program}{K:ah}{x:Str}{a:Addr}{l:List (Str×Int)}
 (f:mg x=some (.ref a)) (lk:K.lookup a=some ⟨.type "dict",none,.dict es ep,#[]⟩) (e:(a==sysModules)=false) (h:Cs w es.toList l) (g:(l.map Prod.fst).Nodup):KTab P w K mg x (wY l):=by
 obtain⟨vs,b,c,d⟩:=Kz h;exact Jn f lk e b (by rw[c];exact g) ⟨rfl,rfl,rfl⟩ d λH=>Kh l
theorem JG{e:Value->Bool}{p:RV->Bool}:∀{xs:LR} {us:au},cy h xs us->(∀x∈xs,∀u,Den h x u->e u=p x)->us.any e=xs.any p
 | [],_,d,_=>by cases d;rfl
 |x::_,_,⟨u,_,e,d1,d2⟩,k=>by rw[e,kN,kN,k x (.head _) u d1,JG d2 λy a=>k y (.tail _ a)]
theorem JC:∀{xs:LR} {us:au},cy h xs us->∀u∈us,∃x∈xs,Den h x u
 | [],_,d,_,hu=>by cases d;cases hu
 |x::_,_,⟨_,_,e,d1,d2⟩,u,hu=>by
  cases e;cases hu with
  |head=>exact⟨x,.head _,d1⟩
  |tail _ hu=>exact(JC d2 u hu).imp λ_ z=>⟨.tail _ z.1,z.2⟩
open Classical in
noncomputable def sg (h:Heap)(a:RV)(w:Value):Bool:=if q:∃r,Den h r w then cK (choose q) a else false
theorem KR{a x:RV}(d:Den h x u):sg h a u=cK x a:=by
 have q:∃r,Den h r u:=⟨x,d⟩;unfold sg;rw[dif_pos q,BQ (Classical.choose_spec q) d]
noncomputable def inR (x:RV)(xs:LR):Bool:=xs.any λy=>cK y x
noncomputable def vU (neg:Bool):cJ:=λx y M Q=>match y with
 | .tup xs=>bK 15 x=true/\xs.all (bK 15)=true/\Q (.bl (if neg then !inR x xs else inR x xs)) M
 | .ls xs=>bK 15 x=true/\xs.all (bK 15)=true/\Q (.bl (if neg then !inR x xs else inR x xs)) M
 |_=>False
section
variable {X:Cx}
theorem Ho{s:Shared}{A:Around}{xs:LR}{ae:au}{a:RV}{v:Value}(f:A.units+15<cLine)(os:xs.all (bK 15)=true)(h:bK 15 a=true)(d:cy s.heap xs ae)(c:Den s.heap a v):
 (∀w,w∈ae.toArray->SeqAt.EqAt A s w v (sg s.heap a w))/\ae.toArray.any (sg s.heap a)=inR a xs:=by
 refine⟨λw g=>?_,?_⟩
 . obtain⟨x,hx,b⟩:=JC d w (by simpa using g)
   rw[KR b];exact(eq3 15 (fx.mp os x hx) h b c f).1
 . rw[show ae.toArray.any (sg s.heap a)=ae.any (sg s.heap a) by simp]
   exact JG d λx _ u e=>KR e
theorem OL(n:X.A.units+64<cLine):cz X (compareOp (if neg then .NotIn else .In)) (vU neg):=by
 rintro g s o H x y v u m I k l ⟨a,b,M,Q,ra,rb,j,c,i⟩;cases b with
 |tup xs|ls xs=>
  obtain⟨e,f,c⟩:=c;obtain⟨p,ae,rfl,d,h⟩:=u9 I 16 rb f l;have z:=Ho (A:=X.A.in1) (by rw[in1_units];lia) f e h (u9 I 15 ra e k)
  cases neg<;>first|refine SeqAt.in_tupleAt _ d z.1 ?_|refine SeqAt.in_listAt _ d z.1 ?_|refine SeqAt.notIn_tupleAt _ d z.1 ?_|refine SeqAt.notIn_listAt _ d z.1 ?_
  all_goals exact⟨.bl _,H,I,by rw[z.2];rfl,i.now c j rfl⟩
 |_=>exact c.elim
theorem Qw(a:X.A.units+64<cLine):cz X (compareOp .In) (vU false):=OL a
theorem YJ(a:X.A.units+64<cLine):cz X (compareOp .NotIn) (vU true):=OL a
def C5:LR->RM->ak->Prop:=λrs M Q=>match rs with
 | [.str x]=>x.length=1/\Q (.int (x.cps.getD 0 0:Nat)) M
 |_=>False
theorem Rt:cU X (.builtin "ord") (eS X.K C5):=by
 rintro b s h H i us c I f ⟨rs,M,Q,g,e,a,d⟩;unfold C5 at a;split at a
 . obtain⟨_,rfl,rfl⟩:=g.one
   exact V2 b s h H _ us c I f ⟨_,rfl,a.1,d.now a.2 e rfl⟩
 . exact a.elim
noncomputable def vS (K:ah)(neg:Bool):cJ:=λx y M Q=>match y with
 | .ref p=>∃a,zt K p a/\bK 15 x=true/\Q (.bl (if neg then !inR x (a.map RV.str)else inR x (a.map RV.str))) M
 |_=>False
theorem Hn:∀{ss:az} {ae:au},Vals (ss.map V.str) ae->cy h (ss.map RV.str) ae
 | [],_,r=>by cases r;rfl
 |_::_,_,r=>by cases r with|cons a t=>exact⟨_,_,rfl,a,Hn t⟩
theorem Lp(r:X.A.units+64<cLine):cz X (compareOp (if neg then .NotIn else .In)) (vS X.K neg):=by
 rintro g s t H x y v u o I m n ⟨a,b,M,Q,ra,rb,k,c,i⟩;cases b with
 |ref p=>
  obtain⟨h,j,f,c⟩:=c;cases rb;cases(show u=Value.ref p from n)
  obtain⟨ae,d,e,_⟩:=I.tuple (a:=p) (xs:=h.map V.str) (.inr j);have l:(h.map RV.str).all (bK 15)=true:=by simp[fx,bK]
  have z:=Ho (A:=X.A.in1) (by rw[in1_units];lia) l f (Hn d) (u9 I 15 ra f m)
  cases neg<;>first|refine SeqAt.in_tupleAt _ e z.1 ?_|refine SeqAt.notIn_tupleAt _ e z.1 ?_
  all_goals exact⟨.bl _,H,I,by rw[z.2];rfl,i.now c k rfl⟩
 |_=>exact c.elim
theorem RF(a:X.A.units+64<cLine):cz X (compareOp .In) (vS X.K false):=Lp a
theorem WH(a:X.A.units+64<cLine):cz X (compareOp .NotIn) (vS X.K true):=Lp a
noncomputable def tQ (neg:Bool)(ss:az)(ty:aq):aq:=λσ M Q=>ty σ M λx M1=>bK 15 x=true/\Q (.bl (if neg then !inR x (ss.map RV.str)else inR x (ss.map RV.str))) M1
def OJ:LR->RM->ak->Prop:=λrs M Q=>∃a:List Bool,rs= [.ls (a.map RV.bl)]/\Q (.bl (a.all id)) M
theorem B0{K:ah}:∀{bs:List Bool} {vs:LV},aa K H (bs.map RV.bl) vs->vs=bs.map V.bl
 | [],vs,h=>by simpa only[ui,aa]using h
 |b::bs,vs,h=>by
  simp only[bX,aa,Rep]at h;obtain⟨v,r,rfl,rfl,a⟩:=h;rw[B0 a];rfl
theorem BW:∀{bs:List Bool} {us:au},Vals (bs.map V.bl) us->us=bs.map Value.bool
 | [],us,h=>by cases h;rfl
 |b::bs,us,h=>by
  obtain⟨u,r,rfl,a,c⟩:=Vals.cons_inv h;cases a;rw[BW c];rfl
theorem range_all(bs:List Bool):(List.range bs.length).all (λi=>bs.getD i true)=bs.all id:=by
 induction bs with
 |nil=>rfl
 |cons b bs ih=>
  rw[bW,List.range_succ_eq_map,fz,List.all_map,fz];have:((λi=>(b::bs).getD i true) ∘ Nat.succ)=λi=>bs.getD i true:=by funext i;rfl
  rw[this,ih];rfl
theorem V4(N:X.calm=true):cU X (.builtin "all") (eS X.K OJ):=by
 rintro d s r H xs us Q0 I W ⟨rs,M,Q,Y,U,⟨f,rfl,R⟩,O⟩;obtain⟨v,rfl,r1⟩:=Y.one;obtain⟨a,vs,rfl,F,J⟩:=r1;have:=B0 J;subst this;obtain⟨u,rfl,ru⟩:=W.one;cases ru;obtain⟨ae,rv,p,hz⟩:=I.list F.sq;have:=BW rv;subst this;have l:a<s.heap.objs.size:=by obtain⟨o,n,e,_⟩:=p;exact bB e
 refine call_all_walk (wpAny_pyIter_list p.isList ?_);have hd:X.A.in1.handled=none:=I.ok.hd N;refine⟨s.heap.objs.size,_,_,_,_,_,λi=>f.getD i true,rfl,Walks.list hd s.heap.objs.size a (cE l) (f.map Value.bool).toArray,⟨⟨_,c0 _ rfl,rfl,rfl⟩,p.isList.push _⟩,?_,?_⟩
 . intro i v Z x E' L h
   have c:(f.map Value.bool)[i]? =some v:=by simpa using L
   rw[fR]at c;cases e:f[i]? with
   |none=>rw[e]at c;cases c
   |some b=>
    rw[e]at c;have j:f.getD i true=b:=by rw[List.getD_eq_getElem?_getD,e];rfl
    cases c;have g:x (f.getD i true) Z:=h;rw[j]at g;exact jW g
 . intro h' m k
   have t:Inv X d r H { s with heap:=s.heap.push { cls:=.type "list_iterator",data:=.fields #[.ref a,.int 0 0] } }:=I.kept (t':=s.toks) λb o e=>bx _ e
   obtain⟨y,A,f2,C,D,E⟩:=I.gv (aD _) (I.av.fresh (aD _));have w:Inv X d r H { s with heap:=h',toks:=m }:=by
    have z:=t.turned (h':=h') (t':=m) (it:=s.heap.objs.size) (λb o j e=>k b o (by simpa using j) e) y A C D E
    exact z
   refine⟨.bl (f.all id),H,w,?_,O.now R U rfl⟩;show _=_;rw[<-range_all];simp
noncomputable def wH (x:Str):It:=⟨λi _=>i<x.cps.size,λi H v a=>a=H/\∃c,x.cps[i]? =some c/\v= .str ⟨#[c]⟩,λi _=>x.cps.size<=i⟩
noncomputable def gI (x:Str):LR:=x.cps.toList.map λc=>.str ⟨#[c]⟩
theorem HV{P:Program}{K:ah}{tg:Expr}(it)(n:String)(x:Str)(t)
 (hn:["enumerate","zip","dict_itemiterator","dict_reverseitemiterator","odict_iterator","itertools.zip_longest","itertools.pairwise"].contains n=false)
 (W:∀A:Around,A.handled=none->Walks P w A it [it] [it] x.cps.size (SignAt x) (λi h=>h.IsStrIter it n x t i))
 (l:∀(A:Around) (i:Nat) (s:Shared) (Q:cI->Shared->Prop) (E:aK),A.handled=none->s.heap.IsStrIter it n x t i->x.cps.size<=i->(∀j,(∀b o,b≠it->s.heap.get? b=some o->j.get? b=some o)->Q none { s with heap:=j })->wpAny (model P w) A (pyNext (.ref it)) Q E s)
 (g:∀A i s Q E,s.heap.IsStrIter it n x t i->Q (.ref it) s->wpAny (model P w) A (pyIter (.ref it)) Q E s):
 Turn P w K tg (wH x) [it] it (λi h=>h.IsStrIter it n x t i) where
 mem:=by simp
 obj:=λi h st b f=>by
  have e:b=it:=by simpa using f
  subst e;obtain⟨o,e,c,d⟩:=st;exact⟨o,e,λv z=>by rw[d]at z;cases z⟩
 keep:=λi h j st k=>by
  obtain⟨o,e,r⟩:=st;exact⟨o,k it (by simp) o e,r⟩
 item:=by
  intro X M Y L N i a s σ H E I v st U;subst M Y L;obtain⟨y,C,f2,D,F,J⟩:=v it (by simp)
  refine(W X.A (I.ok.hd N)).item i s _ _ U st λv j Z hv m kk=>?_
  obtain⟨c,u,R,rfl⟩:=hv;have I1:Inv X a σ H { s with heap:=j,toks:=Z }:=I.turned (λb o f e=>kk b o (by simpa using f) e) y C D F J
  obtain⟨o,e,O,hd⟩:=id m;exact⟨_,rfl,vA (s:={ s with heap:=j,toks:=Z }) (n:=n) e O hd hn ⟨.str ⟨#[c]⟩,H,I1,⟨u,rfl⟩,⟨rfl,c,R,rfl⟩,m,λb f=>(v b f).1⟩⟩
 done:=by
  intro X M Y L N i a s σ H E I v st U;subst M Y L;obtain⟨y,C,f2,D,F,J⟩:=v it (by simp)
  exact l X.A i s _ _ (I.ok.hd N) st U λh' eb=>⟨rfl,I.turned (t':=s.toks) (λb o f e=>eb b o f e) y C D F J⟩
 self:=g
theorem KC{K:ah}{H1:Hp}(x)(es:Ext Hs H1):jr H0 Hs K (wH x) (gI x) eE id H1 where
 turn:=λi H M e _ _ r b=>by
  have hi:i<x.cps.size:=by have:=(mH.mp b).1;simpa[gI]using this
  refine⟨hi,λv' f y=>?_⟩
  obtain⟨rfl,c,a,rfl⟩:=y;refine⟨.refl _,λ_ w=>w,?_⟩
  have:r= .str ⟨#[c]⟩:=by
   have d:x.cps.toList[i]? =some c:=by simpa using a
   simp only[gI,fR,d,uf,mL]at b;exact b.symm
  subst this;simp only[Rep]
 stop:=λi H M e _ _ hi=>by
  have:(gI x).length=x.cps.size:=by simp[gI]
  rw[this]at hi;exact hi
 dj:=mZ es
def OC(te:aq):ig:=λσ M Q=>te σ M λv M1=>match v with| .str x=>Q (gI x) eE id M1|_=>False
theorem RN{tg:Expr}{l:Expr}(m:aj X l te):jd X tg l (OC te):=by
 rintro a s h H R I ⟨n,M,Q,hs,hv,ht,hk⟩;refine ay (m a s h H (λv H1=>∃x M1,v= .str x/\Q (gI x) eE id M1/\Ext H H1/\View X.K H1 M1) I ⟨n,M,_,hs,hv,ht,λrv M1 v H1 q e1 g r1=>?_⟩) λv c ⟨r,H1,I1,r1,q1⟩=>?_
 . cases rv with
   |str x=>exact⟨x,M1,r1,q,e1,g⟩
   |_=>exact q.elim
 . obtain⟨x,M1,rfl,q,e1,g⟩:=q1
   obtain⟨t,rfl⟩:=r1;have j:∀b∈[c.heap.objs.size],kE X a H1 b:=λb k=>by
    have e:b=c.heap.objs.size:=by simpa using k
    subst e;exact I1.gv (aD _) (I1.av.fresh (aD _))
   cases ha:x.cps.all (. < 128)
   . refine wpAny_pyIter_wide ha ?_
     exact⟨c.heap.objs.size,[c.heap.objs.size],_,wH x,H1,rfl,I1.kept (t':=c.toks) λb o e=>bx _ e,HV _ "str_iterator" x t ⋯ (λA d=>Walks.strWide d _ x t) (λA i s Q E d st hi f=>wpAny_pyNext_wide_end d st (by simp;exact hi) f) (λA i s Q E st f=>wpAny_pyIter_striter_wide st f),⟨_,c0 _ rfl,rfl,rfl⟩,j,hk _ eE id M1 _ H1 q e1 g (KC x e1)⟩
   . refine wpAny_pyIter_ascii ha ?_
     exact⟨c.heap.objs.size,[c.heap.objs.size],_,wH x,H1,rfl,I1.kept (t':=c.toks) λb o e=>bx _ e,HV _ "str_ascii_iterator" x t ⋯ (λA d=>Walks.strAscii d _ x t) (λA i s Q E d st hi f=>wpAny_pyNext_ascii_end d st (by simp;exact hi) f) (λA i s Q E st f=>wpAny_pyIter_striter_ascii st f),⟨_,c0 _ rfl,rfl,rfl⟩,j,hk _ eE id M1 _ H1 q e1 g (KC x e1)⟩
theorem IA{K:ah}:∀{ys:az} {vs:LV},aa K H (ys.map RV.str) vs->vs=ys.map V.str
 | [],vs,h=>by simpa only[ui,aa]using h
 |b::bs,vs,h=>by
  simp only[bX,aa,Rep]at h;obtain⟨v,r,rfl,rfl,a⟩:=h;rw[IA a];rfl
theorem HR:∀{ys:az} {us:au},Vals (ys.map V.str) us->StrsAre us ys
 | [],us,h=>by cases h;exact .nil
 |b::bs,us,h=>by
  obtain⟨u,r,rfl,a,c⟩:=Vals.cons_inv h;obtain⟨t,rfl⟩:=a;exact .cons _ _ (HR c)
noncomputable def qv5 (K:ah):V->LV->Hp->VK->Prop:=λx vs H Q=>∃z p a,x= .str z/\vs= [.ref p]/\c7 K H p (a.map V.str)/\(a.map (·.length)).sum+a.length*z.length<=16777216/\Q (.str (Txt.join z a)) H
theorem WN:D2 X "str.join" (qv5 X.K):=by
 rintro a s h H x vs v us Q I e rv ⟨z,p,g,rfl,rfl,c,b,q⟩;obtain⟨t,rfl⟩:=e;obtain⟨u,rfl,ru⟩:=rv.one;cases ru;obtain⟨ae,r,d,f⟩:=I.list c;exact join_list d.isList (by simpa using HR r) b λt' k=>⟨.str _,H,I.tok _,⟨_,rfl⟩,q⟩
noncomputable def CA (t:bJ)(σ:bw)(Q:ak):ak:=λx M=>match x with
 | .str z=>t σ M λrs M2=>∃a:az,rs= [.ls (a.map RV.str)]/\(a.map (·.length)).sum+a.length*z.length<=16777216/\Q (.str (Txt.join z a)) M2
 |_=>False
def rJoin(to:aq)(t:bJ):aq:=λσ M Q=>to σ M (CA t σ Q)
theorem qvr{o e:Expr}{t:bJ}{apos cpos:Pos}(ho:aj X o to)(ha:eJ X [e] t)
 (hbase:attributeBase o "join" X.env (eval o X.env)=eval o X.env:=by rfl)
 (hfew:((backTo cpos (starEach [e] X.env)).all (λx=>!x.1)&&(backToKw cpos (keywordEach [] X.env)).all (λx=>x.1.isSome)&&decide ([e].length+([]:List Keyword).length+(if([]:List Keyword).isEmpty then 0 else 1)<30))=true:=by rfl)
 (hline:(apos.endLine==cpos.line)=true:=by rfl) (hs:starEach [e] X.env=(false,eval e X.env)::starEach [] X.env:=by rfl) (hplain:(backTo cpos (starEach [] X.env)).any (·.1)=false:=by rfl):
 aj X (.Call (.Attribute o "join" apos) [e] [] cpos) (rJoin to t):=PE.imp (Ln PySem.F.plainAttrs_str PySem.F.slot_str_join PySem.F.type_str_join WN ho ha hbase hfew hline hs hplain) λσ0 H Q0 h=>by
 obtain⟨σ,M,Q,hs,hv,ht,hk⟩:=h;refine⟨σ,M,_,hs,hv,ht,λrx M1 x H1 q e1 v1 r1=>?_⟩
 cases rx with
 |str z=>
  cases r1;refine⟨rfl,σ,M1,_,hs.ext e1,v1,q,λrs M2 vs H2 q2 e2 v2 r2=>?_⟩
  obtain⟨ys,rfl,hb,q2⟩:=q2;obtain⟨v,rfl,r3⟩:=r2.one;obtain⟨p,ws,rfl,h1,h2⟩:=r3;have:=IA h2;subst this;exact⟨z,p,ys,rfl,rfl,h1.sq,hb,hk _ M2 _ H2 q2 (e1.trans e2) v2 rfl⟩
 |_=>exact q.elim
noncomputable def zf (to:aq)(t:bJ):aq:=λσ M Q=>to σ M λx M1=>match x with
 | .ref p=>(∃ys,M1 p=some (.lst ys))/\t σ M1 λrs M2=>∃ys y,rs= [y]/\M2 p=some (.lst ys)/\ys.length<sizeLine/\Q .aw (put M2 p (.lst (ys++ [y])))
 |_=>False
theorem Wi{o e:Expr}{t:bJ}{c a:Pos}(D:aj X o to)(z:eJ X [e] t)
 (d:attributeBase o "append" X.env (eval o X.env)=eval o X.env:=by rfl)
 (g:((backTo a (starEach [e] X.env)).all (λx=>!x.1)&&(backToKw a (keywordEach [] X.env)).all (λx=>x.1.isSome)&&decide ([e].length+([]:List Keyword).length+(if([]:List Keyword).isEmpty then 0 else 1)<30))=true:=by rfl)
 (f:(c.endLine==a.line)=true:=by rfl) (hs:starEach [e] X.env=(false,eval e X.env)::starEach [] X.env:=by rfl) (b:(backTo a (starEach [] X.env)).any (·.1)=false:=by rfl):
 aj X (.Call (.Attribute o "append" c) [e] [] a) (zf to t):=PE.imp (Ln PySem.F.plainAttrs_list PySem.F.slot_list_append PySem.F.type_list_append Uy D z d g f hs b) λσ0 H Z h=>by
 obtain⟨u,M,Q,hs,J,I,A⟩:=h;refine⟨u,M,_,hs,J,I,λrx M1 x H1 q e1 r r1=>?_⟩
 cases rx with
 |ref p=>
  obtain⟨⟨ys,C⟩,q⟩:=q;cases r1;obtain⟨E,e0,r0⟩:=r p _ C;obtain⟨W,rfl,U⟩:=r0;refine⟨.inl ⟨rfl,_,c7.of e0⟩,u,M1,_,hs.ext e1,r,q,λrs M2 vs m l w s N=>?_⟩
  obtain⟨Y,y,rfl,i,L,l⟩:=l;obtain⟨v,rfl,O⟩:=N.one;obtain⟨F,n,R⟩:=s p _ i;obtain⟨k,rfl,j⟩:=R;have ex:Ext m (upd m p (.lst (k++ [v]))):=Ext.write n rfl;refine⟨p,k,v,rfl,rfl,n,by rw[<-j.length];exact L,A _ _ _ _ l ((e1.trans w).trans ex) (s.write i ⟨_,rfl,?_⟩) rfl⟩
  exact(aa.ext ex _ _ j).append (aa.cons (Rep.ext ex _ _ O) aa.nil)
 |_=>exact q.elim
noncomputable def Kp (fs:List (Addr×bU))(tx:aq)(t:bJ):aq:=λσ M Q=>tx σ M λv M1=>match v with
 | .ref f=>∃sp,(f,sp)∈fs/\t σ M1 λrs M2=>sp rs M2 Q
 |_=>False
theorem X5{x:Str}{p pos:Pos}{e:Expr}{t:bJ}{tx:aq}(g:List (Addr×bU))
 (w:∀q∈g,∃d l k,aH k X.A/\PySem.W.keepIn X.K (.ref q.1)=true/\Binds X.K d l []/\dZ X.prog X.w X.K X.mg X.base fg k q.1 d l (fP X.K q.2)) (hx:aj X (.Name x p) tx) (z:eJ X (e::es) t)
 (C:starEach (e::es) X.env=(false,eval e X.env)::starEach es X.env:=by rfl) (j:(backTo pos (starEach es X.env)).any (·.1)=false:=by rfl):aj X (.Call (.Name x p) (e::es) [] pos) (Kp g tx t):=by
 rintro a s b H o I ⟨n,M,Q,hs,hv,ht,hk⟩;refine wpAny_Call_Name_kw (ay (hx a s b H (λv H1=>∃f sp M1,v= .ref f/\(f,sp)∈g/\Ext H H1/\View X.K H1 M1/\t n M1 λrs M2=>sp rs M2 Q) I ⟨n,M,_,hs,hv,ht,λrv M1 v H1 q e1 m r1=>?_⟩) λv L ⟨y,H1,I1,r1,q1⟩=>?_)
 . cases rv with
   |ref f=>obtain⟨sp,i,q⟩:=q;exact⟨f,sp,M1,r1,i,e1,m,q⟩
   |_=>exact q.elim
 . obtain⟨f,sp,M1,rfl,i,e1,m,q⟩:=q1
   cases r1;obtain⟨d,l,k,D,h,A,F⟩:=w _ i;refine zO (h₀:=X.base) I1.ok.mod.iU h (ay (z pos a L b H1 (λvs c=>fP X.K sp (vs++ []) c o (λ_ _ _=>False)) I1 ⟨n,M1,_,hs.ext e1,m,q,λrs M2 vs c E u N J=>?_⟩) λus O ⟨vs,c,I2,r,q⟩=>⟨I2.dE,?_⟩) C j
   . exact⟨rs,M2,Q,by rw[nU];exact J,N,E,hk.ext (e1.trans u)⟩
   . exact va F D A .nil qZ I2 r q
end
theorem Uw{P:Program}{vs:List (Key×Value)}(h:Pairs (cZ P w) es vs):Pairs (optKind P w) es (vs.map λp=>(some p.1,p.2)):=by
 induction h with
 |nil=>exact .nil
 |cons a b _ ih=>exact .cons (kv:=(some _,_)) a b ih
theorem G0:∀{l:List Key},l.Nodup->(l.map some).Nodup
 | [],_=>mP
 |a::r,h=>by
  obtain⟨c,d⟩:=iL.mp h;rw[bX];refine iL.mpr ⟨λm=>?_,G0 d⟩
  obtain⟨b,f,e⟩:=aA.mp m;cases e;exact c f
theorem VW{P:Program}{h:Heap}{a:Addr}{vs:List (Key×Value)}(d:h.DictOf (cZ P w) a vs):h.DictOf (optKind P w) a (vs.map λp=>(some p.1,p.2)):=by
 obtain⟨o,c,b,f,g,i,j,l,m⟩:=d;refine⟨o,c,b,f,g,i,λe n=>?_,Uw l,?_⟩
 . obtain⟨k,r,s⟩:=j e n
   exact⟨some k,r,s⟩
 . rw[bp]
   have:((λx:Option Key×Value=>x.1) ∘ λp:Key×Value=>(some p.1,p.2))=some ∘ λp=>p.1:=rfl
   rw[this,<-bp];exact G0 m
theorem WM{vs:List (Key×Value)}:valueAt (vs.map λp=>(some p.1,p.2)) (none:Option Key)=none:=by
 unfold valueAt;rw[jZ.mpr]
 . rfl
 . intro x hx
   obtain⟨p,_,rfl⟩:=aA.mp hx;simp
section
variable {X:Cx}
noncomputable def Cf (neg:Bool)(kvs:bR)(Q:ak):ak:=λk M1=>match gh k with
 |some key=>Q (.bl (if neg then !(fb kvs key).isSome else(fb kvs key).isSome)) M1
 |none=>False
def yg(kvs:bR)(Q:ak):ak:=λk M1=>match k with
 | .aw=>Q (.bl true) M1
 |k=>Cf true kvs Q k M1
def Bl(kvs:bR)(te:aq):aq:=λσ M Q=>te σ M (yg kvs Q)
theorem SQ{x:Str}{e:Expr}{p:Pos}(T:KTab X.prog X.w X.K X.mg x kvs)(u:aj X e te)(z:Gl X x)(t:(x==("__debug__":Str))=false):
 PC X .NotIn e (.Name x p) (up X.K (Bl kvs te)):=by
 obtain⟨a,vs,N,C,i,o,A,D⟩:=T.ex;rintro d s g H J I ⟨F,M,Q,hs',hv,ht,hq⟩;refine ay (u d s g H (λv H1=>∃r M1,Rep X.K H1 r v/\Ext H H1/\View X.K H1 M1/\yg kvs Q r M1) I ⟨F,M,_,hs',hv,ht,λr M1 v H1 q e w r1=>⟨r,M1,r1,e,w,q⟩⟩) λiv L E=>?_;obtain⟨y,c,f,m,r,M2,l,h,n,b⟩:=E
 refine m6 f z C ?_ t;have dd:=o _ f.dE
 by_cases j:r= .aw
 . subst j
   have b:Q (.bl true) M2:=b;have:y=V.aw:=by simpa only[Rep]using l
   subst this;have:iv=Value.none:=m;subst this;refine wpAny_notIn_of (knd:=optKind X.prog X.w) (k:=none) rfl i (VW dd).mapOf ?_;rw[WM];exact⟨.bl true,c,f.tok _,rfl,hq _ M2 _ c b h n rfl⟩
 . have b:Cf true kvs Q r M2:=by
    cases r<;>first|exact b|exact aU rfl j
   unfold Cf at b;cases ek:gh r with
   |none=>rw[ek]at b;exact b.elim
   |some key=>
    rw[ek]at b;simp only at b;have:=sQ ek l;subst this;refine wpAny_notIn_of (jm m) i dd.mapOf ?_;rw[Tt A (D c)];exact⟨.bl (!(fb kvs key).isSome),c,f.tok _,rfl,hq _ M2 _ c b h n rfl⟩
theorem TN{x:Str}{e:Expr}{p pos:Pos}(T:KTab X.prog X.w X.K X.mg x kvs)(c:aj X e te)(d:Gl X x:=by rfl)(b:(x==("__debug__":Str))=false:=by decide)(a:behindInMarks .NotIn (Expr.Name x p)=false:=by with_unfolding_all rfl):
 d8 X (.Compare e [.NotIn] [.Name x p] pos) (ma (Bl kvs te)):=PT.imp (B5 (SQ T c d b) a) λσ0 H k h=>by
 obtain⟨j,M,Q,hs,i,g,f⟩:=h;exact⟨j,M,_,hs,i,g,qG f⟩
end
theorem xE{K:ah}:∀{a:List (Str×RV)} {gs:List (Str×V)} {v:RV},aE K H a gs->a.lookup f=some v->∃u,gs.lookup f=some u/\Rep K H v u
 | [],gs,v,h,e=>by cases e
 |(g,x)::r,gs,v,h,e=>by
  obtain⟨u,t,rfl,b,c⟩:=h;rw[nS]at e;cases hb:f==g with
  |true=>rw[hb]at e;cases e;exact⟨u,by rw[nS,hb],b⟩
  |false=>
   rw[hb]at e;obtain⟨w,e1,r1⟩:=xE c e;exact⟨w,by rw[nS,hb];exact e1,r1⟩
theorem Bd{K:ah}:∀{a:List (Str×RV)} {gs:List (Str×V)},aE K H a gs->a.lookup f=none->gs.lookup f=none
 | [],gs,h,e=>by have b:gs= []:=h;subst b;rfl
 |(g,x)::r,gs,h,e=>by
  obtain⟨u,t,rfl,d,c⟩:=h;rw[nS]at e ⊢;cases hb:f==g with
  |true=>rw[hb]at e;cases e
  |false=>rw[hb]at e;exact Bd c e
noncomputable def kl (f:Str)(v:RV):List (Str×RV)->List (Str×RV)
 | []=>[(f,v)]
 |(g,x)::r=>if g=f then(g,v)::r else(g,x)::kl f v r
theorem Bc{K:ah}{v:RV}(a:Rep K H v u):∀{b:List (Str×RV)} {gs:List (Str×V)},aE K H b gs->aE K H (kl f v b) (fm f u gs)
 | [],gs,h=>by have d:gs= []:=h;subst d;exact⟨u,[],rfl,a,rfl⟩
 |(g,x)::r,gs,h=>by
  obtain⟨w,t,rfl,i,c⟩:=h;unfold kl fm
  by_cases e:g=f
  . rw[ag e,ag e];exact⟨u,t,rfl,a,c⟩
  . rw[ab e,ab e];exact⟨w,_,rfl,i,Bc a c⟩
theorem iY{K:ah}:∀{a:List (κ×RV)} {gs:List (κ×V)},aE K H a gs->a.length=gs.length
 | [],gs,h=>by have b:gs= []:=h;subst b;rfl
 |(g,x)::r,gs,h=>by
  obtain⟨w,t,rfl,d,c⟩:=h;rw[bW,bW,iY c]
section
variable {X:Cx}{o e value:Expr}{f:Str}{pos pos':Pos}{ta tv:aq}{C:Addr}
noncomputable def Rx (C:Addr)(f:Str)(ta:aq):aq:=λσ M Q=>ta σ M λx M1=>match x with
 | .ref a=>∃fs v,M1 a=some (.ins C fs)/\fs.lookup f=some v/\Q v M1
 |_=>False
theorem Sd(hc:cQ X.K C)(hn:aR X.K C f)(he:aj X e ta)(hb:attributeBase e f X.env (eval e X.env)=eval e X.env:=by rfl):aj X (.Attribute e f pos) (Rx C f ta):=PE.imp (Yw he hb) λσ0 H Q0 h=>by
 obtain⟨σ,M,Q,hs,hv,ht,hk⟩:=h;refine⟨σ,M,_,hs,hv,ht,λrx M1 x H1 q e1 v1 r1=>?_⟩
 cases rx with
 |ref a=>
  obtain⟨fs,v,hm,hl,q⟩:=q;cases r1;obtain⟨ho,eo,dx,gs,rfl,hg⟩:=v1 a _ hm;obtain⟨u,hu,ru⟩:=xE hg hl;exact⟨a,C,dx,gs,u,rfl,eo,hc,hn,hu,hk _ M1 _ H1 q e1 v1 ru⟩
 |_=>exact q.elim
noncomputable def qvz (C:Addr)(f:Str)(ta tv:aq):dz:=λD c M=>tv c M λy M1=>ta c M1 λx M2=>match x with
 | .ref a=>∃b,M2 a=some (.ins C b)/\b.length<1000/\D.nx c (put M2 a (.ins C (kl f y b)))
 |_=>False
theorem Ro(hc:cQ X.K C)(hn:aR X.K C f)(ha:aj X o ta)(hv:aj X value tv)(hs:swapsWith value (some (.Attribute o f pos')) pos.line X.env=pure false:=by rfl):eL X (.Assign [.Attribute o f pos'] value pos) (qvz C f ta tv):=PS.imp (YW ha hv hs) λD0 σ0 H h=>by
 obtain⟨σ,M,D,hs,hv,ht,hd⟩:=h;refine⟨σ,M,_,hs,hv,ht,λry M1 y H1 q e1 v1 r1=>⟨σ,M1,_,hs.ext e1,v1,q,λrx M2 x H2 q2 e2 v2 r2=>?_⟩⟩
 cases rx with
 |ref a=>
  obtain⟨fs,hm,hl,q2⟩:=q2;cases r2;obtain⟨ho,eo,dx,gs,rfl,hg⟩:=v2 a _ hm;have ex:Ext H2 (upd H2 a (.ins C dx (fm f y gs))):=Ext.write eo rfl;refine⟨a,C,dx,gs,rfl,eo,hc,hn,by rw[<-iY hg];exact hl,hd.nx σ _ _ _ q2 ((e1.trans e2).trans ex) (v2.write hm ⟨dx,_,rfl,?_⟩) (hs.ext ((e1.trans e2).trans ex))⟩
  exact Bc (Rep.ext (e2.trans ex) _ _ r1) (hg.ext ex)
 |_=>exact q2.elim
end
section
variable {K:ah}{H:Hp}{k:Key}{v:RV}{u:V}
theorem IC:∀{a:List (κ×RV)} {ws:List (κ×V)} {ys:List (κ×RV)} {zs:List (κ×V)},aE K H a ws->aE K H ys zs->aE K H (a++ys) (ws++zs)
 | [],ws,ys,zs,h,t=>by have b:ws= []:=h;subst b;exact t
 |(j,x)::r,ws,ys,zs,h,t=>by
  obtain⟨w,e,rfl,c,d⟩:=h;exact⟨w,_,rfl,c,IC d t⟩
end
section
variable {X:Cx}{o i value:Expr}{pos pos':Pos}{td ty tv:aq}
def Lx:aq:=λ_ M Q=>∀p,M p=none->Q (.ref p) (put M p (.dk []))
theorem qvt:aj X (.Dict [] [] pos) Lx:=PE.imp U8 λσ0 H e h=>by
 obtain⟨f,M,Q,hs,b,d,c⟩:=h;intro p a;exact c _ _ _ _ (d p (b.free a)) (Ext.new a) (b.cS a ⟨[],rfl,rfl⟩) rfl
def atKey(M:RM)(x y:RV)(P:Addr->bR->Key->Prop):Prop:=match x with
 | .ref a=>(match M a with|some (.dk kvs)=>(match gh y with|some k=>P a kvs k|none=>False)|_=>False)
 |_=>False
end
section
variable {X:Cx}{x m:Str}{p pos apos:Pos}{o e:Expr}{es:bc}{t:bJ}{ta:aq}{k:Nat}{ps:az}{sp:bU}{C g:Addr}{fd:FuncData}
noncomputable def vi (C:Addr)(m:Str)(sp:bU)(ta:aq)(t:bJ):aq:=λσ M Q=>ta σ M λx M1=>match x with
 | .ref a=>∃fs,M1 a=some (.ins C fs)/\fs.lookup m=none/\t σ M1 λrs M2=>sp (.ref a::rs) M2 Q
 |_=>False
theorem Uz(h:up X.K (vi C m sp ta t) σ0 H Q0):Cw C m (fP X.K sp) [] (λ_ _ _=>False) (up X.K ta) (DU X.K t) σ0 H Q0:=by
 obtain⟨σ,M,Q,hs,hv,ht,hk⟩:=h;refine⟨σ,M,_,hs,hv,ht,λrx M1 x H1 q e1 v1 r1=>?_⟩
 cases rx with
 |ref a=>
  obtain⟨fs,hm,hl,q⟩:=q;cases r1;obtain⟨ho,eo,dx,gs,rfl,hg⟩:=v1 a _ hm;refine⟨a,dx,gs,rfl,eo,Bd hg hl,σ,M1,_,hs.ext e1,v1,q,λrs M2 vs H2 q2 e2 v2 r2=>?_⟩
  exact⟨.ref a::rs,M2,Q,by rw[nU];exact aa.cons rfl r2,v2,q2,hk.ext (e1.trans e2)⟩
 |_=>exact q.elim
theorem qvp(l:aj X o ta)(c:cQ X.K C)(n:Meth X.K C m g)(F:dZ X.prog X.w X.K X.mg X.base fg k g fd ps (fP X.K sp))(r:aH k X.A)(j:Binds X.K fd ps [])(i:eJ X (e::es) t)
 (b:starEach (e::es) X.env=(false,eval e X.env)::starEach es X.env:=by rfl) (a:(backTo pos (starEach es X.env)).any (·.1)=false:=by rfl)
 (s:eval (.Call (.Attribute o m apos) (e::es) [] pos) X.env=(do
  let d<-eval o X.env
  standAt apos.atName
  let(f,first) <-holding [d] (getMethod d m pl)
  callWith pos f first (backTo pos (starEach (e::es) X.env)) (backToKw pos (keywordEach [] X.env))):=by rfl):
 aj X (.Call (.Attribute o m apos) (e::es) [] pos) (vi C m sp ta t):=PE.imp (Xa l c n F r j .nil qZ i b a s) λσ0 H u h=>Uz h
noncomputable def tG (C:Addr)(sp:bU)(t:bJ):aq:=λσ M Q=>t σ M λrs M1=>∀a,M1 a=none->sp (.ref a::rs) (put M1 a (.ins C [])) (λv M2=>v= .aw/\Q (.ref a) M2)
theorem qvq{h0:Nat}(f:Mk X.K C g)(F:dZ X.prog X.w X.K X.mg X.base fg k g fd ps (fP X.K sp))(N:aH (k+1) X.A)(L:X.mg x=some (.ref C))(D:Binds X.K fd ps [])(A:eJ X (e::es) t)(I:Gl X x:=by rfl)(j:(x==("__debug__":Str))=false:=by decide)
 (E:starEach (e::es) X.env=(false,eval e X.env)::starEach es X.env:=by rfl) (l:(backTo pos (starEach es X.env)).any (·.1)=false:=by rfl):aj X (.Call (.Name x p) (e::es) [] pos) (tG C sp t):=PE.imp (Xb f F N I L D .nil qZ A j E l) λσ0 H Z h=>by
 obtain⟨Y,M,Q,hs,R,O,J⟩:=h;refine⟨Y,M,_,hs,R,O,λrs M1 vs H1 q e1 w r1 a b r s U=>?_⟩
 have i:Ext H1 (upd H1 b (.own a)):=Ext.new s;have d:(upd H1 b (.own a)) a=none:=by rw[aZ (cx U)];exact r
 have c:Ext H1 (upd (upd H1 b (.own a)) a (.ins C b [])):=i.trans (Ext.new d);refine⟨.ref a::rs,put M1 a (.ins C []),_,by rw[nU];exact aa.cons rfl (aa.ext c _ _ r1),(w.new s).cS d ⟨b,[],rfl,rfl⟩,q a (w.free r),λrv M2 v y n z W u=>?_⟩
 obtain⟨rfl,n⟩:=n;simp only[Rep]at u;exact⟨u,J _ M2 _ y n ((e1.trans c).trans z) W rfl⟩
end
section
variable {X:Cx}{o e f:Expr}{apos cpos:Pos}{td ty tx:aq}
def qvB:LR->RM->ak->Prop:=λrs M Q=>∃a b,rs= [.ref a]/\M a=some (.dk b)/\Q (.int b.length) M
theorem qwN:cU X (.builtin "len") (eS X.K qvB):=by
 rintro b s t H u us d I m ⟨rs,M,Q,n,c,⟨a,l,rfl,j,k⟩,i⟩;obtain⟨v,rfl,r1⟩:=n.one;cases r1;obtain⟨_,g,r,rfl,h⟩:=c a _ j;exact US b s t H _ us d I m ⟨a,r,rfl,g,i.now k c (by simp only[Rep];rw[iY h])⟩
end
section
variable {X:Cx}{m:Str}{p pos apos:Pos}{o a b tg:Expr}{ta t1 t2:aq}{k:Nat}{ps:az}{sp:bU}{C g:Addr}{fd:FuncData}
theorem XW(he:aj X o ta)(c:cQ X.K C)(hm:Meth X.K C m g)(F:dZ X.prog X.w X.K X.mg X.base fg k g fd ps (fP X.K sp))(hr:aH k X.A)(hb:Binds X.K fd ps [])
 (ht:eval (.Call (.Attribute o m apos) [] [] pos) X.env=(do
  let ov<-eval o X.env
  standAt apos.atName
  let(f,first) <-holding [ov] (getMethod ov m pl)
  callWith pos f first (backTo pos (starEach [] X.env)) (backToKw pos (keywordEach [] X.env))):=by rfl):
 aj X (.Call (.Attribute o m apos) [] [] pos) (vi C m sp ta mv):=PE.imp (U4 he c hm F hr hb .nil qZ ht) λσ0 H Q0 h=>by
 obtain⟨σ,M,Q,hs,hv,ht,hk⟩:=h;refine⟨σ,M,_,hs,hv,ht,λrx M1 x H1 q e1 v1 r1=>?_⟩
 cases rx with
 |ref a=>
  obtain⟨fs,hm,hl,q⟩:=q;cases r1;obtain⟨ho,eo,dx,gs,rfl,hg⟩:=v1 a _ hm;exact⟨a,dx,gs,rfl,eo,Bd hg hl,[.ref a],M1,Q,aa.cons rfl aa.nil,v1,q,hk.ext e1⟩
 |_=>exact q.elim
noncomputable def yo (lo:Int)(n:Nat):LR:=(List.range n).map λ(i:Nat)=>RV.int (lo+(i:Int))
end
section
variable {prog:Program}{w:World}{A:Around}{E:aK}{s:Shared}
theorem Ii:∀{vs:au} {ns:List Int},vs.length=ns.length->(∀(j:Nat) v,vs[j]? =some v->∃t,v= .int (ns.getD j 0) t)->IntsAre vs ns
 | [],[],_,_=>.nil
 |v::vs,n::ns,hl,h=>by
  obtain⟨t,e⟩:=h 0 v rfl;have e:v= .int n t:=e;subst e;exact .cons _ _ (Ii (by simpa using hl) λj u a=>h (j+1) u (by simpa using a))
theorem Tf{ns:List Int}(hh:A.handled=none)(hd:s.heap.DictOf (cZ prog w) d kvs)(lo:(d==sysModules)=false)(D:kvs.map (·.1)=ns.map Sum.inl)(i:ns.length<64)
 (h:∀(B:Addr) (h':Heap) (tk e:Nat) (vs':au) (c:List Int),(∀b o,s.heap.get? b=some o->h'.get? b=some o)->s.heap.get? B=none->h'.get? B=some { cls:=.type "list",data:=.seq vs'.toArray e }->IntsAre vs' c->c.Perm ns->c.Pairwise (. <= ·)->Q (.ref B) { s with heap:=h',toks:=tk }):
 wpAny (model prog w) A (call (.builtin "sorted") [.ref d]) Q E s:=by
 have r:kvs.length=ns.length:=by have:=congrArg List.length D;simpa using this
 obtain⟨o,O,ep,R,U,W,X,Y,Z⟩:=id hd;have y:s.heap.DictAt (cZ prog w) d kvs ep:=⟨o,O,R,U,W,X,Y,Z⟩;refine Calls.call_function_entry kind_sorted plain_sorted entry_sorted (args_sorted1 (.ref d)) ?_;unfold Builtin.«sorted»;refine ai (m:=checkCount "sorted" 1 1 _) (aC ?_);refine ai (PySem.W.kdu_collect (A:=A.in1) (PySem.W.kdl_dict (knd:=cZ prog w) (kvs:=kvs) (ep:=ep) lo) hh y (by rw[r];exact bQ (mJ i) ⋯) λg tk a F f=>?_)
 have C:a.toList.length=ns.length:=by rw[Array.length_toList,f.1,r]
 have hI:IntsAre a.toList ns:=Ii C λj v e=>by
  obtain⟨k,x,hx,z⟩:=f.2 j v (by rw[<-Array.getElem?_toList];exact e)
  have n:(kvs.map (·.1))[j]? =some k:=by rw[fR,hx];rfl
  rw[D,fR]at n;cases q:ns[j]? with
  |none=>rw[q]at n;cases n
  |some m=>
   rw[q]at n;have N:(Sum.inl m:Key)=k:=eV n;subst N;obtain⟨t,rfl⟩:=Value.isInt_shape (show Value.isInt m v=true from z)
   refine⟨t,?_⟩;rw[List.getD_eq_getElem?_getD,q];rfl
 refine ai (wpAny_newList ?_ (by rw[C];exact bQ (mJ i) ⋯))
 have l:(g.push { cls:=.type "list",data:=.seq a.toList.toArray }).get? g.objs.size=some (seqObj "list" a.toList.toArray 0):=c0 _ rfl;refine ai (jz (iK PyProof.Rows.slot_list_sort ⟨_,l,rfl⟩ PyProof.Rows.entry_list_sort (list_sort_tree (s:={ s with heap:=g.push { cls:=.type "list",data:=.seq a.toList.toArray },toks:=tk }) l hI (by rw[C];exact i) λout c J L M=>⟨_,rfl,?_⟩) (args_list_sort _)))
 obtain⟨e,he⟩:=sortedHeap_at (out:=out) l;refine aC ⟨_,rfl,h g.objs.size _ tk e out.toList c (λb o' q=>?_) ?_ (by rw[Array.toArray_toList];exact he) J L M⟩
 . have H:=F b o' q
   have I:b<g.objs.size:=bB H;rw[sortedHeap_old (cE I) (by rw[size_push'];exact Nat.lt_succ_of_lt I)]
   exact bx _ H
 . cases q:s.heap.get? g.objs.size with
   |none=>rfl
   |some u=>exact aU (bB (F _ u q)) (j5 _)
end
theorem Ux{P:Program}{a:Addr}(x:aB P w H h a o):∃u,h.get? a=some u:=by
 cases o with
 |lst xs=>obtain⟨_,_,_,_,e⟩:=x;exact⟨_,e⟩
 |tup xs=>obtain⟨_,_,_,o,e,_⟩:=x;exact⟨o,e⟩
 |dK kvs=>obtain⟨_,_,_,_,o,_,_,e,_⟩:=x;exact⟨_,e⟩
 |dT kvs=>obtain⟨_,_,_,_,o,_,_,e,_⟩:=x;exact⟨_,e⟩
 |set S n=>obtain⟨o,_,_,_,e,_⟩:=x;exact⟨_,e⟩
 |ins C dx fs=>obtain⟨_,_,_,e,_⟩:=x;exact⟨_,e⟩
 |own y=>obtain⟨_,e⟩:=x;exact⟨_,e⟩
 |xd fs=>obtain⟨_,⟨_,_,_,e,_⟩,_⟩:=x;exact⟨_,e⟩
 |zD lo hi=>obtain⟨_,_,_,e⟩:=x;exact⟨_,e⟩
 |aX ob u=>obtain⟨e,_⟩:=x;exact⟨_,e⟩
 |mE ps=>exact⟨_,(show h.get? a=some _ from x)⟩
 |met f y=>exact⟨_,(show h.get? a=some _ from x)⟩
 |ext φ=>obtain⟨_,⟨_,e⟩,_⟩:=x;exact⟨_,e⟩
section
variable {X:Cx}{pins:aF}{σ:L2.St}{H:Hp}{s:Shared}{h':Heap}{a:Addr}{o:HO}
theorem none_of(I:Inv X pins σ H s)(b:s.heap.get? a=none):H a=none:=by
 cases q:H a with
 |none=>rfl
 |some u=>
  obtain⟨v,e⟩:=Ux (I.av a u q);rw[b]at e;cases e
theorem LP(I:Inv X pins σ H s)(k:∀b u,s.heap.get? b=some u->h'.get? b=some u)(h:s.heap.get? a=none)(f:aB X.prog X.w (upd H a o) h' a o):Inv X pins σ (upd H a o) { s with heap:=h',toks:=t' }:=by
 have d:=none_of I h;have j:∀b u,s.heap.get? b=some u->b≠a:=λb u e z=>by rw[z,h]at e;cases e
 refine I.un ⟨λb u q _ _ _=>k b u q,λb u q _ _ _=>⟨u.slots,k b u q⟩,λb u q n _=>by rw[aZ (j b u q)];exact n,λb u q _=>⟨u,k b u q⟩,λb i q=>by rw[aZ (fh q d)];exact q,λb u i q=>by rw[aZ (fh q d)];exact q,λb l q=>⟨#[],by rw[aZ (fh q d),q];simp⟩⟩ λb u e=>?_
 by_cases g:b=a
 . subst g;rw[ej]at e;cases e;exact f
 . rw[aZ g]at e
   exact(I.av b u e).fu (λc v _ q=>k c v q) (λc q=>by rw[aZ (fh q d)];exact q) λc i q=>by rw[aZ (fh q d)];exact q
end
theorem bP:∀{vs:au} {ns:List Int},IntsAre vs ns->Vals (ns.map V.int) vs
 |_,_,.nil=>.nil
 |_,_,.cons _ t r=>.cons ⟨t,rfl⟩ (bP r)
theorem Bb{K:ah}:∀(ns:List Int),aa K H (ns.map RV.int) (ns.map V.int)
 | []=>aa.nil
 |n::r=>aa.cons rfl (Bb r)
theorem Hw{K:ah}:∀{a:List (κ×RV)} {ws:List (κ×V)},aE K H a ws->a.map (·.1)=ws.map (·.1)
 | [],ws,h=>by have b:ws= []:=h;subst b;rfl
 |(j,x)::r,ws,h=>by
  obtain⟨w,t,rfl,d,c⟩:=h;rw[bX,bX,Hw c]
theorem Jm:∀{a:List (κ×V)} {vs:List (κ×Value)},KV a vs->a.map (·.1)=vs.map (·.1)
 |_,_,.nil=>rfl
 |_,_,.cons r t=>by rw[bX,bX,r.1,Jm t]
section
variable {X:Cx}
noncomputable def Kl:LR->RM->ak->Prop:=λrs M Q=>∃a c ns,rs= [.ref a]/\M a=some (.dk c)/\c.map (·.1)=ns.map Sum.inl/\ns.length<64/\∀b:List Int,b.Perm ns->b.Pairwise (. <= ·)->Q (.ls (b.map RV.int)) M
theorem VX(y:X.calm=true):cU X (.builtin "sorted") (eS X.K Kl):=by
 rintro n s Z H Y us O I L ⟨rs,M,Q,N,l,h,A⟩;obtain⟨a,J,ns,rfl,D,g,c,h⟩:=h;obtain⟨v,r,rfl,rfl,rfl⟩:=N;obtain⟨u,rfl,ru⟩:=vals1 L;cases ru;obtain⟨_,t,o,rfl,z⟩:=l a _ D;obtain⟨U,x,vs,r,m⟩:o.length<=sizeLine/\(a==sysModules)=false/\∃vs,KV o vs/\s.heap.DictOf (cZ X.prog X.w) a vs:=I.av a _ t;refine Tf (I.ok.hd y) m x (by rw[<-Jm r,<-Hw z];exact g) c λB R W e i b F j d w k E=>?_
 have f:=none_of I j;have C:b.length<=sizeLine:=by rw[k.length_eq];exact bQ (mJ c) ⋯
 refine frozen ⟨.ref B,upd H B (.lst (b.map V.int)),LP I F j ⟨by rw[aW];exact C,i,e,bP w,d⟩,rfl,H,B,_,rfl,f,rfl,λo=>?_⟩
 exact A _ M _ _ (h b k E) (Ext.new f) (l.new f) (kh f (Bb b))
def Ls:LR->RM->ak->Prop:=λrs M Q=>match rs with
 | [.int i,.int j]=>Q (.int (if j > i then j else i)) M
 |_=>False
theorem Rv(d:X.calm=true):cU X (.builtin "max") (eS X.K Ls):=by
 rintro a s k H n us c I g ⟨rs,M,Q,h,f,b,e⟩
 match rs,b with
 | [.int i,.int j],b=>
  obtain⟨v,r,rfl,rfl,m,l,rfl,rfl,rfl⟩:=h;exact UR d a s k H _ us c I g ⟨i,j,rfl,e.now b f rfl⟩
def Lr:LR->RM->ak->Prop:=λrs M Q=>match rs with
 | [.int i,.int j]=>Q (.int (if j<i then j else i)) M
 |_=>False
theorem Ru(d:X.calm=true):cU X (.builtin "min") (eS X.K Lr):=by
 rintro a s k H n us c I g ⟨rs,M,Q,h,f,b,e⟩
 match rs,b with
 | [.int i,.int j],b=>
  obtain⟨v,r,rfl,rfl,m,l,rfl,rfl,rfl⟩:=h;exact UQ d a s k H _ us c I g ⟨i,j,rfl,e.now b f rfl⟩
end
open PySem.W
section
variable {prog:Program}{w:World}{A:Around}{E:aK}{s:Shared}
noncomputable def nt (vs:au)(p:Array Nat):au:=p.toList.map λi=>vs.getD i Value.none
def DO(prog:Program)(w:World)(A:Around)(s:Shared)(a:Addr)(vs:au){O:KeyOrd}(f:Nat->O.α):Prop:=∀g:Heap,(∀b o,b≠a->s.heap.get? b=some o->g.get? b=some o)->
 ∃κ,(∀(Q:SortKind->Shared->Prop) (E':aK),Q κ { s with heap:=g }->wpAny (model prog w) A (keyKind' vs.toArray) Q E' { s with heap:=g })/\
  ∀i j C,i<vs.length->j<vs.length->C (ir f i j) { s with heap:=g }->kas_ask prog w A κ vs i j C { s with heap:=g }
theorem YK{vs:au}{O:KeyOrd}{f:Nat->O.α}(h:vs.length<2):∃p,Ar vs.length p/\SU f p vs.length/\nt vs p=vs:=by
 obtain rfl|⟨v,rfl⟩:vs= []∨∃v,vs= [v]:=by
  cases vs with
  |nil=>exact .inl rfl
  |cons v r=>cases r with
   |nil=>exact .inr ⟨v,rfl⟩
   |cons _ _=>rw[bW,bW]at h;lia
 . exact⟨#[],⟨rfl,by simp⟩,λi j _ z=>aU z (ue _),rfl⟩
 . exact⟨#[0],⟨rfl,by simp[List.range_succ]⟩,λi j b c=>by rw[show i=j by simp at c;lia];exact KeyOrd.kle_refl _,rfl⟩
theorem TJ{a:Addr}{vs:au}{n:Nat}{P:Fin->Shared->Prop}{O:KeyOrd}{f:Nat->O.α}(ho:s.heap.get? a=some (seqObj "list" vs.toArray n))(h64:vs.length<64)(hk:2<=vs.length->DO prog w A s a vs f)
 (h:∀p,Ar vs.length p->SU f p vs.length->P (.done (.ret .none)) { s with heap:=sortedHeap s.heap a vs (nt vs p).toArray }):wpAny (model prog w) A (Builtin.«list.sort» ⟨[.ref a],[]⟩) P E s:=by
 have la:a<s.heap.objs.size:=bB ho;have big:(64:Nat)<=sizeLine:=by decide
 obtain⟨e1,ho1⟩:∃e1,(s.heap.update a (Obj.mapSeq λ_=>(#[]:Array Value))).get? a=some (seqObj "list" #[] e1):=⟨_,get?_update_seq ho λ_=>#[]⟩
 rw[list_sort_plain];refine ai (listItems_at ho rfl (ai (listUpdate_at ho rfl (ai (seqEpoch_at ho1 rfl (ai (wpAny_newTuple (ai (wpAny_newList (jz ?_) (j3 _))) (by show vs.length<=_;lia))))) (by rw[eX];lia) (j3 _))))
 let g:=((s.heap.update a (Obj.mapSeq λ_=>(#[]:Array Value))).push (seqObj "tuple" vs.toArray 0)).push (seqObj "list" #[] 0)
 have hg:g.get? a=some (seqObj "list" #[] e1):=bx _ (bx _ ho1);have kg:∀b o,b≠a->s.heap.get? b=some o->g.get? b=some o:=λb o hb e=>bx _ (bx _ (by rw[Heap.get?_update_ne _ _ _ _ hb];exact e))
 show wpAny (model prog w) A _ P E { s with heap:=g }
 dsimp only;have fin:∀(st:SortSt) p,Ar vs.length p->SU f p vs.length->(arrOf st).map (·.2)=(nt vs p).toArray->failedOf st=none->wpAny (model prog w) A (do
  let touched:=(<-seqEpoch a) != e1
  Builtin.List.listUpdate (.ref a) λ_=>(arrOf st).map (·.2)
  if let some e:=failedOf st then rule "list.sort.comparison-raised";throw e
  if touched then rule "list.sort.modified";raiseError "ValueError" "list modified during sort"
  ret .none) P E { s with heap:=g }:=λst p ar su e ef=>by
  have z:(nt vs p).length=vs.length:=by unfold nt;rw[aW,Array.length_toList,ar.sz]
  rw[e,ef];refine ai (seqEpoch_at hg rfl (ai (listUpdate_at hg rfl ?_ (j3 _) (by rw[eX,z];lia))))
  simp only[bne_self_eq_false,kK,if_false];exact aC (h p ar su)
 by_cases h2:vs.toArray.size<2
 . obtain⟨p,ar,su,e⟩:=YK (f:=f) (by simpa using h2)
   rw[ag h2,ag h2];refine ai (aC ?_);rw[StateT.run_pure];refine ai (aC (fin _ p ar su ?_ rfl));rw[e];show(vs.toArray.zip vs.toArray).map (·.2)=_
   apply Array.toList_inj.mp;simp[List.map_snd_zip]
 . have l2:2<=vs.length:=by simpa using h2
   obtain⟨κ,k1,k2⟩:=hk l2 g kg;rw[ab h2,ab h2];refine ai (k1 _ _ (ai (gQ (kat_run (Q:=λst' s'=>s'= { s with heap:=g }/\∃p,Ar vs.length p/\SU f p vs.length/\arrOf st'=p.map (kas_item (vs.toArray.zip vs.toArray))/\failedOf st'=none)
    (G:=λp s'=>s'= { s with heap:=g }/\Ar vs.length p/\SU f p vs.length) rfl l2 h64 (λp st' s' _ a2 a3 a4=>⟨a4.1,p,a4.2.1,a4.2.2,a2,a3⟩) (Ly k2 (WX ∅ λp ar su=>⟨rfl,ar,su⟩))) ?_ λ_ _ x=>x)))
   rintro ⟨⟨⟩,st'⟩ s' ⟨rfl,p,ar,su,e2,e3⟩;exact fin st' p ar su (kat_snds rfl e2) e3
def zS(prog:Program)(w:World)(A:Around)(E:aK)(s:Shared)(l:Addr)(vs:au):Prop:=∀R:au->Shared->Prop,(∀a c,(∀b o,s.heap.get? b=some o->a.get? b=some o)->R vs { s with heap:=a,toks:=c })->wpAny (model prog w) A (collect (.ref l)) R E s
theorem Im{l:Addr}{vs:au}(a:s.heap.IsList l vs.toArray)(hz:vs.length<=sizeLine):zS prog w A E s l vs:=λR h=>collect_list a (h _ s.toks λb o e=>(by
 show Heap.get? (Heap.update _ _ _) b=_;rw[Heap.get?_update_ne _ _ _ _ (cE (bB e))];exact bx _ e)) hz
theorem Te{l:Addr}{vs:au}{Q:aK}{O:KeyOrd}{f:Nat->O.α}(hl:zS prog w A.in1 E s l vs)(h64:vs.length<64)
 (hk:2<=vs.length->∀a g tk,s.heap.get? a=none->(∀b o,s.heap.get? b=some o->g.get? b=some o)->DO prog w A.in1.in1 { s with heap:=g,toks:=tk } a vs f)
 (h:∀B h' tk e p,(∀b o,s.heap.get? b=some o->h'.get? b=some o)->s.heap.get? B=none->h'.get? B=some (seqObj "list" (nt vs p).toArray e)->Ar vs.length p->SU f p vs.length->Q (.ref B) { s with heap:=h',toks:=tk }):
 wpAny (model prog w) A (call (.builtin "sorted") [.ref l]) Q E s:=by
 have big:(64:Nat)<=sizeLine:=by decide
 refine Calls.call_function_entry kind_sorted plain_sorted entry_sorted (args_sorted1 (.ref l)) ?_;unfold Builtin.«sorted»;refine ai (m:=checkCount "sorted" 1 1 _) (aC (ai (hl _ λg0 tk kp0=>ai (wpAny_newList ?_ ∅))))
 have kp:∀b o,s.heap.get? b=some o->(g0.push (seqObj "list" vs.toArray 0)).get? b=some o:=λb o e=>bx _ (kp0 b o e)
 have hB:s.heap.get? g0.objs.size=none:=by
  cases q:s.heap.get? g0.objs.size with
  |none=>rfl
  |some u=>exact aU (bB (kp0 _ u q)) (j5 _)
 have hoL:(g0.push (seqObj "list" vs.toArray 0)).get? g0.objs.size=some (seqObj "list" vs.toArray 0):=c0 _ rfl;show wpAny _ _ _ _ _ { s with heap:=g0.push (seqObj "list" vs.toArray 0),toks:=tk }
 refine ai (jz (iK PyProof.Rows.slot_list_sort ⟨_,hoL,rfl⟩ PyProof.Rows.entry_list_sort (TJ (s:={ s with heap:=g0.push (seqObj "list" vs.toArray 0),toks:=tk }) (f:=f) hoL h64 (λh2=>hk h2 _ _ _ hB kp) λp ar su=>⟨_,rfl,?_⟩) (PyProof.Rows.args_list_sort (.ref g0.objs.size))))
 obtain⟨e,he⟩:=sortedHeap_at (out:=(nt vs p).toArray) hoL;refine aC ⟨_,rfl,h g0.objs.size _ tk e p (λb o q=>?_) hB he ar su⟩
 have q1:=kp0 b o q;rw[sortedHeap_old (cE (bB q1)) (by rw[size_push'];exact Nat.lt_succ_of_lt (bB q1))]
 exact kp b o q
end
section
variable {X:Cx}{pins:aF}{σ:L2.St}{H:Hp}{s:Shared}
noncomputable def dR (M:RM):RV->RV
 | .ref a=>(match M a with|some (.lst xs)=>.ls xs|_=>.ref a)
 |x=>x
theorem yi(I:Inv X pins σ H s)(d:View X.K H M){a:RV}{x:V}{v:Value}(o:bK 16 (dR M a)=true)(ra:Rep X.K H a x)(b:RelV x v):Den s.heap (dR M a) v:=by
 cases a with
 |ref p=>
  cases q:M p with
  |none=>rw[show dR M (.ref p)= .ref p by simp only[dR,q]]at o;cases o
  |some ob=>
   cases ob with
   |lst xs=>
    have e:dR M (.ref p)= .ls xs:=by simp only[dR,q]
    rw[e]at o ⊢;cases ra;cases b;obtain⟨g,e0,vs,rfl,c⟩:=d p _ q;obtain⟨ae,rv,f,h⟩:=I.list (c7.of e0);simp only[Den];exact⟨p,ae,rfl,f.isList,yB I 15 o c rv⟩
   |_=>rw[show dR M (.ref p)= .ref p by simp only[dR,q]]at o;cases o
 |_=>exact u9 I 16 ra o b
def OG:cJ:=λx y M Q=>bK 16 (dR M x)=true/\bK 16 (dR M y)=true/\Q (.bl (cK (dR M x) (dR M y))) M
def Pp:cJ:=λx y M Q=>bK 16 (dR M x)=true/\bK 16 (dR M y)=true/\Q (.bl (!cK (dR M x) (dR M y))) M
theorem RG(j:X.A.units+64<cLine):cz X (compareOp .Eq) OG:=by
 rintro pins s σ H x y v u i I g h ⟨a,b,M,Q,ra,rb,c,⟨o1,d,f⟩,e⟩;exact(eq3 16 o1 d (yi I c o1 ra g) (yi I c d rb h) ∅).2.1 _ _ _ _ ⟨.bl _,H,I,rfl,e.now f c rfl⟩
theorem RB(j:X.A.units+64<cLine):cz X (compareOp .NotEq) Pp:=by
 rintro pins s σ H x y v u i I g h ⟨a,b,M,Q,ra,rb,c,⟨o1,d,f⟩,e⟩;exact(eq3 16 o1 d (yi I c o1 ra g) (yi I c d rb h) ∅).2.2 _ _ _ _ ⟨.bl _,H,I,rfl,e.now f c rfl⟩
end
section
variable {X:Cx}
noncomputable def uF (Q:ak):LR->RM->Prop:=λrs M=>match rs with
 | [.int i,.int j]=>(-1000000<=i/\i<=1000000/\-1000000<=j/\j<=1000000)/\(j-i).toNat<=1000/\Q (.ls (yo i (j-i).toNat)) M
 |_=>False
def Km(ta tb:aq):aq:=λσ M Q=>tJ ta (tJ tb mv) σ M (uF Q)
theorem HN(a:Int):∀(vs:au) (k:Nat),(∀(j:Nat) v,vs[j]? =some v->∃t,v= .int (a+((k+j:Nat):Int)) t)->Vals ((List.range' k vs.length).map λ(j:Nat)=>V.int (a+(j:Int))) vs
 | [],_,_=>.nil
 |v::vs,k,h=>by
  obtain⟨t,e⟩:=h 0 v rfl;rw[bW,List.range'_succ,bX];refine .cons ⟨t,e⟩ (HN a vs (k+1) λj u c=>?_)
  obtain⟨d,b⟩:=h (j+1) u (by simpa using c)
  refine⟨d,?_⟩;rw[b,show k+(j+1)=k+1+j by lia]
theorem Hu{K:ah}(a:Int):∀(l:List Nat),aa K H (l.map λ(j:Nat)=>RV.int (a+(j:Int))) (l.map λ(j:Nat)=>V.int (a+(j:Int)))
 | []=>aa.nil
 |j::r=>aa.cons rfl (Hu a r)
theorem boot_list:bootBuiltins "list" =some (.type "list"):=by decide+kernel
theorem XY{a b:Expr}{p1 y c pos:Pos}(F:X.mg "list" =none)(J:X.mg "range" =none)(hc:X.calm=true)(ha:aj X a t1)(hb:aj X b t2)(D:Gl X "list")(E:Gl X "range")
 (L:starEach [a,b] X.env= [(false,eval a X.env),(false,eval b X.env)]:=by rfl) (m:starEach [b] X.env= [(false,eval b X.env)]:=by rfl)
 (A:starEach [a,b] X.env=(false,eval a X.env)::starEach [b] X.env:=by rfl) (C:starEach [b] X.env=(false,eval b X.env)::starEach [] X.env:=by rfl)
 (g:starEach [Expr.Call (.Name "range" y) [a,b] [] c] X.env=(false,eval (Expr.Call (.Name "range" y) [a,b] [] c) X.env)::starEach [] X.env:=by rfl):
 aj X (.Call (.Name "list" p1) [.Call (.Name "range" y) [a,b] [] c] [] pos) (Km t1 t2):=by
 rintro n s W H Q0 I ⟨σ,M,Q,hs,hv,ht,hk⟩;have f:eJ X [a,b] (tJ t1 (tJ t2 mv)):=yS ha (yS hb Dc C) A;refine Call_ (ng I D F boot_list (wB ?_ g rfl));rw[g];show wpAny _ _ (spliced ((false,eval (Expr.Call (.Name "range" y) [a,b] [] c) X.env)::backTo pos (starEach [] X.env))) _ _ s;refine Calls.spliced_cons (Call_ (ng I E J boot_range (wB (ay (f c n s W H (λvs H1=>∃i j M1,vs= [V.int i,V.int j]/\uF Q [.int i,.int j] M1/\Ext H H1/\View X.K H1 M1) I ⟨σ,M,_,hs,hv,ht,λrs M1 vs H1 q e1 U r1=>?_⟩) λus u R=>?_) (by rw[L,m]) (by rw[m];rfl))))
 . unfold uF at q
   split at q
   . obtain⟨v,r,rfl,rfl,v',r',rfl,rfl,rfl⟩:=r1
     exact⟨_,_,M1,rfl,q,e1,U⟩
   . exact q.elim
 . obtain⟨vs,H1,Y,rv,i,j,M1,rfl,q,e1,U⟩:=R
   obtain⟨u1,us1,rfl,R,rv⟩:=Vals.cons_inv rv;obtain⟨u2,us2,rfl,q2,rv⟩:=Vals.cons_inv rv;cases rv;obtain⟨w,rfl⟩:=R;obtain⟨x,rfl⟩:=q2;obtain⟨⟨b1,b2,b3,b4⟩,hn,q⟩:=q;refine call_range_2 ?_;have z:=Y.kept (h':=u.heap.push { cls:=.type "range",data:=.fields #[.int i w,.int j x,.int 1 u.toks] }) (t':=u.toks+1) (λb o e=>bx _ e)
   refine Calls.spliced_nil ?_;have N:Builtin.Range.rangeSize i j 1=((j-i).toNat:Int):=by rw[rangeSize_one];split<;>lia
   refine call_list_range (z.ok.hd hc) (IsRange.new u.heap i j 1 w x u.toks) (small_one ∅ ∅ ∅ ∅) N ∅ λh' tk d Z kp h l=>?_
   have fI:=z.av.fresh (aD _);have O:Vals ((List.range (j-i).toNat).map λ(k:Nat)=>V.int (i+(k:Int))) d.toList:=by
    have:=HN i d.toList 0 λk v e=>by
     obtain⟨t,e'⟩:=l.2 k v (by rw[<-Array.getElem?_toList];exact e)
     exact⟨t,by rw[e'];simp⟩
    rw[Array.length_toList,l.1]at this;rw[List.range_eq_range'];exact this
   refine frozen ⟨.ref _,_,z.laid kp (aD _) (o:=.lst ((List.range (j-i).toNat).map λ(k:Nat)=>V.int (i+(k:Int)))) ⟨by rw[aW,wz];exact bQ hn ⋯,d.toList,Z,O,by rw[Array.toArray_toList];exact h⟩,rfl,H1,_,_,rfl,fI,rfl,λo=>?_⟩
   exact hk _ M1 _ _ q (e1.trans (Ext.new fI)) (U.new fI) (kh fI (Hu i _))
end
structure uu(P:Program)(w:World)(K:ah)(mg:br)(base:Heap)(C:Addr)(k:Nat)(m:Str)(ps:az)(sp:bU):Prop where
 ex:∃(g:Addr) (fd:FuncData),Meth K C m g/\Binds K fd ps []/\dZ P w K mg base fg k g fd ps (fP K sp)
structure zV(P:Program)(w:World)(K:ah)(mg:br)(base:Heap)(C:Addr)(k:Nat)(ps:az)(sp:bU):Prop where
 ex:∃(g:Addr) (fd:FuncData),Mk K C g/\Binds K fd ps []/\dZ P w K mg base fg k g fd ps (fP K sp)
section
variable {X:Cx}{x m:Str}{p pos apos:Pos}{o e:Expr}{es:bc}{t:bJ}{ta:aq}{k:Nat}{ps:az}{sp:bU}{C:Addr}
theorem XU(F:uu X.prog X.w X.K X.mg X.base C k m ps sp)(c:cQ X.K C)(n:aH k X.A)(j:aj X o ta)(h:eJ X (e::es) t)
 (b:starEach (e::es) X.env=(false,eval e X.env)::starEach es X.env:=by rfl) (a:(backTo pos (starEach es X.env)).any (·.1)=false:=by rfl)
 (r:eval (.Call (.Attribute o m apos) (e::es) [] pos) X.env=(do
  let d<-eval o X.env
  standAt apos.atName
  let(f,first) <-holding [d] (getMethod d m pl)
  callWith pos f first (backTo pos (starEach (e::es) X.env)) (backToKw pos (keywordEach [] X.env))):=by rfl):
 aj X (.Call (.Attribute o m apos) (e::es) [] pos) (vi C m sp ta t):=by
 obtain⟨g,s,l,i,F⟩:=F.ex;exact qvp j c l F n i h b a r
theorem Wf(F:uu X.prog X.w X.K X.mg X.base C k m ps sp)(c:cQ X.K C)(i:aH k X.A)(d:aj X o ta)
 (j:eval (.Call (.Attribute o m apos) [] [] pos) X.env=(do
  let a<-eval o X.env
  standAt apos.atName
  let(f,first) <-holding [a] (getMethod a m pl)
  callWith pos f first (backTo pos (starEach [] X.env)) (backToKw pos (keywordEach [] X.env))):=by rfl):
 aj X (.Call (.Attribute o m apos) [] [] pos) (vi C m sp ta mv):=by
 obtain⟨g,l,h,b,F⟩:=F.ex;exact XW d c h F i b j
theorem XX(F:zV X.prog X.w X.K X.mg X.base C k ps sp)(l:aH (k+1) X.A)(j:X.mg x=some (.ref C))(d:eJ X (e::es) t)(i:Gl X x:=by rfl)(a:(x==("__debug__":Str))=false:=by decide)
 (h:starEach (e::es) X.env=(false,eval e X.env)::starEach es X.env:=by rfl) (b:(backTo pos (starEach es X.env)).any (·.1)=false:=by rfl):aj X (.Call (.Name x p) (e::es) [] pos) (tG C sp t):=by
 obtain⟨g,n,c,f,F⟩:=F.ex;exact qvq (h0:=0) c F l j f d i a h b
end
section
variable {X:Cx}
noncomputable def Lu:LR->RM->ak->Prop:=λrs M Q=>match rs with
 | [.ref a,.ty T']=>T'= "list"/\(match M a with|some (.lst _)=>Q (.bl true) M|_=>False)
 |_=>False
theorem T8:cU X (.builtin "isinstance") (eS X.K Lu):=by
 rintro pins s σ H xs us Q0 I rl ⟨rs,M,Q,rr,hv,hq,hk⟩;unfold Lu at hq;split at hq
 . rename_i a T'
   obtain⟨rfl,hq⟩:=hq;obtain⟨v,w,rfl,r1,r2⟩:=rr.two;obtain⟨u,u',rfl,w1,w2⟩:=vals2 rl;simp only[Rep]at r1 r2;subst r1;subst r2;obtain rfl:u'=Value.type "list":=w2;cases(show u=Value.ref a from w1)
   split at hq
   . rename_i ys em
     obtain⟨_,e,vs,rfl,hr⟩:=hv a _ em;obtain⟨ae,_,pt,_⟩:=I.list (c7.of e);obtain⟨o,h1,h2,_⟩:=pt.isList;exact rT PySem.W.kitx_list I.dE ⟨o,h1,h2⟩ (show PySem.W.kitOne X.K (.type "list") (.type "list")=some true by kernel_rfl) (λz=>nomatch z) λtk=>⟨.bl true,H,I.tok tk,rfl,hk.now hq hv rfl⟩
   . exact hq.elim
 . exact hq.elim
end
abbrev TK:=List (Option Key)
noncomputable def nu:RV->Option (Option Key)
 | .aw=>some none
 | .int i=>some (some (.inl i))
 | .str x=>some (some (.inr x))
 |_=>none
noncomputable def hZ:LR->Option TK
 | []=>some []
 |r::rs=>match nu r,hZ rs with
  |some k,some ks=>some (k::ks)
  |_,_=>none
noncomputable def fe:RV->Option TK
 | .tup rs=>hZ rs
 |_=>none
noncomputable def kn (kvs:List (TK×Str))(k:TK):RV:=match kvs.find? λp=>decide (p.1=k)with
 |some p=>.str p.2
 |none=>.aw
noncomputable def vY:List (TK×Str)->List (TK×Addr×Value)->Prop
 | [],[]=>True
 |(k,y)::r,(k',_,v)::r'=>k=k'/\(∃t,v= .str y t)/\vY r r'
 |_,_=>False
theorem HP:∀{b:List (TK×Str)} {xs:List (TK×Addr×Value)},vY b xs->
 (∃y t,kn b k= .str y/\((PySem.atKey xs k).map (·.2)).getD .none= .str y t)∨(kn b k= .aw/\((PySem.atKey xs k).map (·.2)).getD .none= .none)
 | [],[],_=>.inr ⟨rfl,rfl⟩
 |(k1,y)::r,(k',a,v)::r',⟨e,⟨t,ev⟩,h⟩=>by
  subst e;subst ev
  by_cases q:k1=k
  . subst q
    exact .inl ⟨y,t,by simp[kn],by simp[PySem.atKey]⟩
  . have e1:kn ((k1,y)::r) k=kn r k:=by simp[kn,q]
    have c:PySem.atKey ((k1,a,Value.str y t)::r') k=PySem.atKey r' k:=by simp[PySem.atKey,q]
    rw[e1,c];exact HP h
structure qR(P:Program)(w:World)(K:ah)(mg:br)(x:Str)(kvs:List (TK×Str)):Prop where
 ex:∃a xs,mg x=some (.ref a)/\(a==sysModules)=false/\(∀h:Heap,K.In h->h.DictOfH (tupleKind (optKind P w)) a xs)/\vY kvs xs
theorem UW{P:Program}{K:ah}{x:Str}{a:Addr}{sl:Array (cI)}{xs:List (TK×Addr×Value)}
 (j:mg x=some (.ref a)) (l:K.lookup a=some ⟨.type "dict",none,.dict es ep,sl⟩) (h:(a==sysModules)=false) (c:Obj.ExactDict ⟨.type "dict",none,.dict es ep,sl⟩)
 (i:es.toList=xs.map (entryOfKey (tupleKind (optKind P w)))) (hi:∀y∈xs,∃o b n,K.lookup y.2.1=some o/\o.cls= .type "tuple"/\o.data= .seq b n/\ItemsAre (optKind P w) y.1 b.toList)
 (k:(xs.map (·.1)).Nodup) (m:vY kvs xs):qR P w K mg x kvs:=
 ⟨a,xs,j,h,λh X=>⟨_,es,ep,X _ _ l,c,rfl,i,λy r=>by
  obtain⟨o,b,n,d,e,f,g⟩:=hi y r;exact⟨o,b,n,X _ _ d,e,f,g⟩,k⟩,m⟩
theorem Bp{P:Program}{K:ah}:∀{rs:LR} {ks:TK} {vs:LV} {ae:au},hZ rs=some ks->aa K H rs vs->Vals vs ae->ItemsAre (optKind P w) ks ae
 | [],ks,vs,ae,e,r,v=>by
  cases e;simp only[aa]at r;subst r;cases v;exact .nil
 |r::rs,ks,vs,ae,e,hr,v=>by
  obtain⟨x,f,rfl,a,d⟩:=(by simpa only[aa]using hr:∃v c,vs=v::c/\Rep K H r v/\aa K H rs c)
  cases v with
  |cons v1 v2=>
   rename_i u b;simp only[hZ]at e;cases e1:nu r with
   |none=>rw[e1]at e;cases e
   |some k=>
    cases e2:hZ rs with
    |none=>rw[e1,e2]at e;cases e
    |some ks'=>
     rw[e1,e2]at e;cases e;refine .cons ?_ (Bp e2 d v2);cases r with
     |aw=>
      cases e1;have:x= .aw:=by simpa only[Rep]using a
      subst this;cases(show u=Value.none from v1)
      rfl
     |int i=>
      cases e1;have:x= .int i:=by simpa only[Rep]using a
      subst this;exact jm (P:=P) (w:=w) (k:=.inl i) v1
     |str y=>
      cases e1;have:x= .str y:=by simpa only[Rep]using a
      subst this;exact jm (P:=P) (w:=w) (k:=.inr y) v1
     |_=>cases e1
section
variable {X:Cx}
def yy(kvs:List (TK×Str))(Q:ak):ak:=λk M1=>match fe k with
 |some ks=>Q (kn kvs ks) M1
 |none=>False
def yp(kvs:List (TK×Str))(te:aq):aq:=λσ M Q=>te σ M (yy kvs Q)
theorem Wa{x:Str}{e:Expr}{p c d:Pos}(F:X.A.units+1<cLine)(T:qR X.prog X.w X.K X.mg x kvs)(W:aj X e te)(m:M1 X (.Name x p) "get" c e d:=by exact⟨rfl,rfl,rfl,rfl⟩)
 (Y:Gl X x:=by rfl) (U:(x==("__debug__":Str))=false:=by decide):aj X (.Call (.Attribute (.Name x p) "get" c) [e] [] d) (yp kvs te):=by
 obtain⟨a,J,hm,D,C,Z⟩:=T.ex;rintro h s u H Q0 I ⟨σ,M,Q,l,hv,ht,E⟩;have A:=C _ I.dE;refine wpAny_Call_method m.base m.mU m.line PySem.F.plainAttrs_dict PySem.F.slot_dict_get PySem.F.type_dict_get (m6 I Y hm ⟨A.typeIs,λb q=>?_,?_⟩ U)
 . cases q
   obtain⟨ob,_,_,i,j,_⟩:=A;exact⟨ob,i,j.2.1⟩
 rw[m.trees];refine Calls.callWith_builtin rfl (Calls.evalArgs_plain (Calls.spliced_cons (ay (W h s u H (λv H1=>∃r M1,Rep X.K H1 r v/\Ext H H1/\View X.K H1 M1/\yy kvs Q r M1) I ⟨σ,M,_,l,hv,ht,λr M1 v H1 q e w r1=>⟨r,M1,r1,e,w,q⟩⟩)
  λiv s2 ⟨y,H2,I2,ry,r,M2,rr,e2,w2,q2⟩=>Calls.spliced_nil ?_)))
 unfold yy at q2;cases ek:fe r with
 |none=>rw[ek]at q2;exact q2.elim
 |some ks=>
  rw[ek]at q2;simp only at q2;cases r with
  |tup rs=>
   obtain⟨b,vs,rfl,O,N⟩:=(by simpa only[Rep]using rr:∃a vs,y= .ref a/\H2 a=some (.tup vs)/\aa X.K H2 rs vs)
   cases(show iv=Value.ref b from ry)
   obtain⟨ae,R,⟨o,i,j,n,L⟩,_⟩:=I2.tuple (bS.of O);have g:IsTupleKey (optKind X.prog X.w) s2.heap ks b:=⟨o,ae.toArray,n,i,j,L,by simpa using Bp ek N R⟩
   have dd:=C _ I2.dE;rcases HP (k:=ks) Z with⟨z,t,e1,f⟩|⟨e1,f⟩
   . refine call_meetsIn PySem.F.slot_dict_get dd.typeIs PySem.F.entry_dict_get (PySem.F.args_dict_get_2 _ _) (meetsH_dict_get (tupleKind (optKind X.prog X.w)) a b D) ⟨tupleKind_room_in1 F,ks,J,g,dd,.str z,H2,I2.tok _,by rw[f];exact⟨t,rfl⟩,?_⟩
     exact E _ M2 _ H2 q2 e2 w2 (by rw[e1];simp only[Rep])
   . refine call_meetsIn PySem.F.slot_dict_get dd.typeIs PySem.F.entry_dict_get (PySem.F.args_dict_get_2 _ _) (meetsH_dict_get (tupleKind (optKind X.prog X.w)) a b D) ⟨tupleKind_room_in1 F,ks,J,g,dd,.aw,H2,I2.tok _,by rw[f];rfl,?_⟩
     exact E _ M2 _ H2 q2 e2 w2 (by rw[e1];simp only[Rep])
  |_=>cases ek
end
section
variable {κ:Type}[DecidableEq κ]{K:ah}{H:Hp}{k:κ}{v:RV}{u:V}
noncomputable def lk(kvs:List (κ×α))(k:κ):Option α:=(kvs.find? λp=>decide (p.1=k)).map (·.2)
theorem fM{x:α}:lk ((j,x)::r) k=if j=k then some x else lk r k:=by
 unfold lk;rw[mM]
 by_cases h:j=k
 . rw[ag h,cu (show(j,x).1=k from h)];rfl
 . rw[ab h,fy (show ¬(j,x).1=k from h)]
noncomputable def pt(kvs:List (κ×α))(k:κ)(v:α):List (κ×α):=
 if(kvs.any λkv=>decide (kv.1=k))=true then kvs.map (λkv=>if kv.1=k then(kv.1,v)else kv)else kvs++ [(k,v)]
theorem jL:∀{a:List (κ×RV)} {ws:List (κ×V)},aE K H a ws->(∀r,lk a k=some r->∃v,gf ws k=some v/\Rep K H r v)/\(lk a k=none->gf ws k=none)
 | [],ws,h=>by
  have h:ws= []:=h;subst h;exact⟨λr e=>(by cases e),λ_=>rfl⟩
 |(j,x)::t,ws,h=>by
  obtain⟨v,u,rfl,d,f⟩:=h;have c:=jL f;rw[fM]
  by_cases b:j=k
  . rw[ag b]
    refine⟨λr e=>⟨v,uS (p:=(j,v)) b,?_⟩,λe=>(by cases e)⟩
    cases e;exact d
  . rw[ab b]
    exact⟨λr e=>by rw[qD (p:=(j,v)) b];exact c.1 r e,λe=>by rw[qD (p:=(j,v)) b];exact c.2 e⟩
theorem Hy:∀{kvs:List (κ×RV)} {ws:List (κ×V)},aE K H kvs ws->(kvs.any λkv=>decide (kv.1=k))=ws.any λkv=>decide (kv.1=k)
 | [],ws,h=>by have h':ws= []:=h;subst h';rfl
 |(j,x)::r,ws,h=>by
  obtain⟨w,t,rfl,h1,h2⟩:=h;rw[kN,kN,Hy h2]
theorem Be(hv:Rep K H v u):∀{kvs:List (κ×RV)} {ws:List (κ×V)},aE K H kvs ws->aE K H (kvs.map λkv=>if kv.1=k then(kv.1,v)else kv) (ws.map λkv=>if kv.1=k then(kv.1,u)else kv)
 | [],ws,h=>by have h':ws= []:=h;subst h';rfl
 |(j,x)::r,ws,h=>by
  obtain⟨w,t,rfl,h1,h2⟩:=h;rw[bX,bX]
  by_cases e:j=k
  . rw[ag (show(j,x).1=k from e),ag (show(j,w).1=k from e)];exact⟨u,_,rfl,hv,Be hv h2⟩
  . rw[ab (show ¬(j,x).1=k from e),ab (show ¬(j,w).1=k from e)];exact⟨w,_,rfl,h1,Be hv h2⟩
theorem Je(a:Rep K H v u)(h:aE K H kvs ws):aE K H (pt kvs k v) (putK ws k u):=by
 unfold pt putK;rw[Hy h];split
 . exact Be a h
 . exact IC h ⟨u,[],rfl,a,rfl⟩
end
theorem Vh{K:ah}{x:V}(e:nu r=some k)(h:Rep K H r x):x=oV k:=by
 cases r<;>first|(cases e;exact h)|cases e
theorem IJ{K:ah}:∀{rs:LR} {vs:LV} {ks:TK},hZ rs=some ks->aa K H rs vs->vs=ks.map oV
 | [],vs,ks,e,h=>by cases e;exact h
 |r::rs,vs,ks,e,h=>by
  obtain⟨v,t,rfl,d,f⟩:=h;unfold hZ at e;split at e
  . rename_i a b e1 c
    cases e;rw[Vh e1 d,IJ c f];rfl
  . cases e
theorem yf{K:ah}{x:V}(e:fe r=some k)(h:Rep K H r x):∃b,x= .ref b/\H b=some (.tup (k.map oV)):=by
 cases r with
 |tup rs=>
  obtain⟨a,vs,rfl,c,d⟩:=h;exact⟨a,rfl,by rw[c,IJ e d]⟩
 |_=>cases e
noncomputable def rJ (o:RO)(y:RV):Option (Option RV):=match o with
 | .dk kvs=>(gh y).map (lk kvs)
 | .dt kvs=>(fe y).map (lk kvs)
 | .fk kvs=>(gh y).map (lk kvs)
 | .ft kvs=>(fe y).map (lk kvs)
 |_=>none
noncomputable def rZ (M:RM)(x y:RV):Option (Option RV):=match x with
 | .ref a=>(M a).bind (rJ . y)
 |_=>none
def qp(M:RM)(x:RV):Prop:=match x with
 | .ref a=>match M a with
  |some (.dk _)=>True
  |some (.dt _)=>True
  |some (.fk _)=>True
  |some (.ft _)=>True
  |_=>False
 |_=>False
def uz(M:RM)(x y v:RV)(N:RM->Prop):Prop:=match x with
 | .ref a=>match M a with
  |some (.dk kvs)=>match gh y with
   |some k=>kvs.length<sizeLine/\N (put M a (.dk (pt kvs k v)))
   |none=>False
  |some (.dt kvs)=>match fe y with
   |some k=>kvs.length<sizeLine/\N (put M a (.dt (pt kvs k v)))
   |none=>False
  |_=>False
 |_=>False
section
variable {X:Cx}{M:RM}{H:Hp}{x y:RV}{vx vy:V}
theorem BR{K:ah}(hv:View K H M)(e:rZ M x y=some r)(rx:Rep K H x vx)(ry:Rep K H y vy):
 ∃a r0,vx= .ref a/\bL H a vy r0/\(∀z,r=some z->∃v,r0=some v/\Rep K H z v)/\(r=none->r0=none):=by
 unfold rZ at e;split at e
 . rename_i a
   simp only[Rep]at rx;cases q:M a with
   |none=>rw[q]at e;cases e
   |some o=>
    rw[q]at e
    replace e:rJ o y=some r:=e
    obtain⟨ho,eo,ro⟩:=hv a o q;unfold rJ at e;split at e
    . rename_i kvs
      obtain⟨ws,rfl,hg⟩:=ro;cases ek:gh y with
      |none=>rw[ek]at e;cases e
      |some k=>
       rw[ek]at e;have e:lk kvs k=r:=eV e;have:=sQ ek ry;subst this;exact⟨a,_,rx,bL.k eo,λz hz=>(jL (k:=k) hg).1 z (e.trans hz),λhz=>(jL (k:=k) hg).2 (e.trans hz)⟩
    . rename_i kvs
      obtain⟨ws,rfl,hg⟩:=ro;cases ek:fe y with
      |none=>rw[ek]at e;cases e
      |some k=>
       rw[ek]at e;have e:lk kvs k=r:=eV e;obtain⟨b,rfl,hb⟩:=yf ek ry;exact⟨a,_,rx,bL.t eo hb,λz hz=>(jL (k:=k) hg).1 z (e.trans hz),λhz=>(jL (k:=k) hg).2 (e.trans hz)⟩
    . rename_i kvs
      obtain⟨ob,ws,rfl,hg⟩:=ro;cases ek:gh y with
      |none=>rw[ek]at e;cases e
      |some k=>
       rw[ek]at e;have e:lk kvs k=r:=eV e;have:=sQ ek ry;subst this;exact⟨a,_,rx,.inl ⟨ws,k,.inr ⟨ob,eo⟩,rfl,rfl⟩,λz hz=>(jL (k:=k) hg).1 z (e.trans hz),λhz=>(jL (k:=k) hg).2 (e.trans hz)⟩
    . rename_i kvs
      obtain⟨ob,ws,rfl,hg⟩:=ro;cases ek:fe y with
      |none=>rw[ek]at e;cases e
      |some k=>
       rw[ek]at e;have e:lk kvs k=r:=eV e;obtain⟨b,rfl,hb⟩:=yf ek ry;exact⟨a,_,rx,.inr ⟨ws,k,b,.inr ⟨ob,eo⟩,rfl,hb,rfl⟩,λz hz=>(jL (k:=k) hg).1 z (e.trans hz),λhz=>(jL (k:=k) hg).2 (e.trans hz)⟩
    . cases e
 . cases e
theorem Ju{K:ah}(h:View K H M)(d:qp M x)(g:Rep K H x vx):∃a,vx= .ref a/\wD H a:=by
 unfold qp at d;split at d
 . rename_i a
   simp only[Rep]at g;split at d
   . rename_i c e;obtain⟨_,b,f,rfl,i⟩:=h a _ e;exact⟨a,g,.inl ⟨f,.inl b⟩⟩
   . rename_i c e;obtain⟨_,b,f,rfl,i⟩:=h a _ e;exact⟨a,g,.inr ⟨f,.inl b⟩⟩
   . rename_i c e;obtain⟨j,b,ob,f,rfl,i⟩:=h a _ e;exact⟨a,g,.inl ⟨f,.inr ⟨ob,b⟩⟩⟩
   . rename_i c e;obtain⟨j,b,ob,f,rfl,i⟩:=h a _ e;exact⟨a,g,.inr ⟨f,.inr ⟨ob,b⟩⟩⟩
   . exact d.elim
 . exact d.elim
theorem XA{K:ah}{v:RV}(g:View K H M)(d:uz M x y v N)(l:Rep K H x vx)(o:Rep K H y vy)(rv:Rep K H v vv):
 ∃a h n,vx= .ref a/\fG H a vy vv h/\N n/\Ext H h/\View K h n:=by
 unfold uz at d;split at d
 . rename_i a
   simp only[Rep]at l;split at d
   . rename_i j c
     obtain⟨_,e,m,rfl,f⟩:=g a _ c;split at d
     . rename_i k i
       have:=sQ i o;subst this;have ex:Ext H (upd H a (.dK (putK m k vv))):=Ext.write e rfl;exact⟨a,_,_,l,fG.k e (by rw[<-iY f];exact d.1),d.2,ex,g.write c ⟨_,rfl,Je (Rep.ext ex _ _ rv) (f.ext ex)⟩⟩
     . exact d.elim
   . rename_i j c
     obtain⟨_,e,m,rfl,f⟩:=g a _ c;split at d
     . rename_i k i
       obtain⟨b,rfl,r⟩:=yf i o;have ex:Ext H (upd H a (.dT (putK m k vv))):=Ext.write e rfl;exact⟨a,_,_,l,fG.t e r (by rw[<-iY f];exact d.1),d.2,ex,g.write c ⟨_,rfl,Je (Rep.ext ex _ _ rv) (f.ext ex)⟩⟩
     . exact d.elim
   . exact d.elim
 . exact d.elim
end
section
variable {X:Cx}{o i value e f:Expr}{pos pos' apos cpos:Pos}{td ty tv tx:aq}
def vP(Q:ak)(x y:RV)(M:RM):Prop:=match rZ M x y with
 |some (some v)=>Q v M
 |_=>False
def La(td ty:aq):aq:=λσ M Q=>td σ M λx M1=>ty σ M1 λy M2=>vP Q x y M2
theorem Wl{x y:RV}(h:vP Q x y M):∃v,rZ M x y=some (some v)/\Q v M:=by
 unfold vP at h;split at h
 . rename_i v e;exact⟨v,e,h⟩
 . exact h.elim
theorem Z2(t:X.A.units+1<cLine)(r:aj X o td)(hi:aj X i ty)(hs:zw i):aj X (.Subscript o i pos) (La td ty):=PE.imp (Xd t r hi hs) λσ0 H C h=>by
 obtain⟨k,M,Q,hs,u,s,n⟩:=h;refine⟨k,M,_,hs,u,s,λrx M1 x H1 q e1 A r1=>⟨k,M1,_,hs.ext e1,A,q,λry M2 y l b d j z=>?_⟩⟩
 obtain⟨v,ev,b⟩:=Wl b;obtain⟨a,r0,rfl,g,m,_⟩:=BR j ev (Rep.ext d _ _ r1) z;obtain⟨w,rfl,c⟩:=m v rfl;exact⟨a,w,rfl,g,n _ M2 _ l b (e1.trans d) j c⟩
def zG(neg:Bool)(Q:ak)(x y:RV)(M:RM):Prop:=match rZ M x y with
 |some r=>Q (.bl (if neg then !r.isSome else r.isSome)) M
 |none=>False
def t7(neg:Bool)(ty td:aq):aq:=λσ M Q=>ty σ M λy M1=>td σ M1 λx M2=>zG neg Q x y M2
theorem x6(h:up X.K (t7 neg ty td) σ0 H Q0):up X.K ty σ0 H λy H1=>up X.K td σ0 H1 λx b=>∃a r,x= .ref a/\bL b a y r/\Q0 (.bl (if neg then !r.isSome else r.isSome)) b:=by
 obtain⟨k,M,Q,hs,u,t,s⟩:=h;refine⟨k,M,_,hs,u,t,λry M1 y H1 q e1 A r1=>⟨k,M1,_,hs.ext e1,A,q,λrx M2 x b c d j w=>?_⟩⟩
 unfold zG at c;split at c
 . rename_i r l
   obtain⟨a,r0,rfl,g,m,n⟩:=BR j l w (Rep.ext d _ _ r1);refine⟨a,r0,rfl,g,s _ M2 _ b c (e1.trans d) j ?_⟩;have:r0.isSome=r.isSome:=by
    cases r with
    |none=>rw[n rfl];rfl
    |some z=>obtain⟨v,rfl,_⟩:=m z rfl;rfl
   rw[this];simp only[Rep]
 . exact c.elim
theorem QM(c:X.A.units+1<cLine)(hi:aj X i ty)(b:aj X o td)(a:behindInMarks .In o=false):aj X (.Compare i [.In] [o] pos) (t7 false ty td):=PE.imp (J2 (J3 c hi b) a) λσ0 H d h=>x6 h
theorem Wm(c:X.A.units+1<cLine)(hi:aj X i ty)(b:aj X o td)(a:behindInMarks .NotIn o=false):aj X (.Compare i [.NotIn] [o] pos) (t7 true ty td):=PE.imp (J2 (HG c hi b) a) λσ0 H d h=>x6 h
theorem qux(g:X.A.units+1<cLine)(hi:aj X i ty)(c:aj X o td)(a:behindInMarks .In o=false):d8 X (.Compare i [.In] [o] pos) (ma (t7 false ty td)):=PT.imp (B5 (J3 g hi c) a) λσ0 H l h=>by
 obtain⟨k,M,Q,hs,j,d,b⟩:=h;exact x6 (neg:=false) ⟨k,M,_,hs,j,d,qG b⟩
theorem UE(g:X.A.units+1<cLine)(hi:aj X i ty)(c:aj X o td)(a:behindInMarks .NotIn o=false):d8 X (.Compare i [.NotIn] [o] pos) (ma (t7 true ty td)):=PT.imp (B5 (HG g hi c) a) λσ0 H l h=>by
 obtain⟨k,M,Q,hs,j,d,b⟩:=h;exact x6 (neg:=true) ⟨k,M,_,hs,j,d,qG b⟩
def qV(Q:ak)(x y z:RV)(M:RM):Prop:=match rZ M x y with
 |some r=>Q (r.getD z) M
 |none=>False
def Ka(td ty:aq):aq:=λσ M Q=>td σ M λx M1=>qp M1 x/\ty σ M1 λy M2=>qV Q x y .aw M2
def J9(td ty tx:aq):aq:=λσ M Q=>td σ M λx M1=>qp M1 x/\ty σ M1 λy M2=>tx σ M2 λz M3=>qV Q x y z M3
theorem HU{K:ah}{x y z:RV}{a:Addr}(h:qV Q x y z M)(l:View K H M)(m:Rep K H x (.ref a))(n:Rep K H y vy)(s:Rep K H z vz):
 ∃r r0,Q r M/\bL H a vy r0/\Rep K H r (r0.getD vz):=by
 unfold qV at h;split at h
 . rename_i r d
   obtain⟨t,r0,c,g,j,k⟩:=BR l d m n;cases c;refine⟨_,r0,h,g,?_⟩;cases r with
   |none=>rw[k rfl];exact s
   |some q=>obtain⟨v,rfl,b⟩:=j q rfl;exact b
 . exact h.elim
theorem Yh(v:X.A.units+1<cLine)(t:aj X o td)(n:aj X e ty)(m:M1 X o "get" apos e cpos):aj X (.Call (.Attribute o "get" apos) [e] [] cpos) (Ka td ty):=PE.imp (Va v t n m) λσ0 H E h=>by
 obtain⟨l,M,Q,hs,w,u,s⟩:=h;refine⟨l,M,_,hs,w,u,λrx M1 x H1 q e1 j r1=>?_⟩
 obtain⟨a,rfl,d⟩:=Ju j q.1 r1;refine⟨a,rfl,d,l,M1,_,hs.ext e1,j,q.2,λry M2 y b z c k C=>?_⟩
 obtain⟨r,r0,A,g,D⟩:=HU z k (Rep.ext c _ _ r1) C (show Rep X.K b .aw .aw by simp only[Rep])
 exact⟨r0,g,s _ M2 _ b A (e1.trans c) k D⟩
theorem Yg(C:X.A.units+1<cLine)(w:aj X o td)(t:aj X e ty)(u:aj X f tx)(m:M2 X o "get" apos e f cpos):aj X (.Call (.Attribute o "get" apos) [e,f] [] cpos) (J9 td ty tx):=PE.imp (U9 C w t u m) λσ0 H U h=>by
 obtain⟨j,M,Q,hs,D,A,v⟩:=h;refine⟨j,M,_,hs,D,A,λrx M1 x H1 q e1 k r1=>?_⟩
 obtain⟨a,rfl,d⟩:=Ju k q.1 r1;refine⟨a,rfl,d,j,M1,_,hs.ext e1,k,q.2,λry M2 y R E b O J=>⟨j,M2,_,hs.ext (e1.trans b),O,E,λrz s z n F c l L=>?_⟩⟩
 obtain⟨r,r0,I,g,N⟩:=HU F l (Rep.ext (b.trans c) _ _ r1) (Rep.ext c _ _ J) L;exact⟨r0,g,v _ s _ n I ((e1.trans b).trans c) l N⟩
def J7(td ty tv:aq):dz:=λD a M=>tv a M λv M1=>td a M1 λx M2=>ty a M2 λy b=>uz b x y v (D.nx a)
theorem Yc(z:X.A.units+1<cLine)(t:aj X o td)(hi:aj X i ty)(k:aj X value tv)(hs:swapsWith value (some (.Subscript o i pos')) pos.line X.env=pure false):eL X (.Assign [.Subscript o i pos'] value pos) (J7 td ty tv):=PS.imp (W5 z t hi k hs) λD0 l H h=>by
 obtain⟨c,M,D,hs,k,u,s⟩:=h;refine⟨c,M,_,hs,k,u,λrv M1 v H1 q e1 I r1=>⟨c,M1,_,hs.ext e1,I,q,λrx M2 x N A d J E=>⟨c,M2,_,hs.ext (e1.trans d),J,A,λry Q y O C j L F=>?_⟩⟩⟩
 obtain⟨a,m,r,rfl,g,n,ex,w⟩:=XA L C (Rep.ext j _ _ E) F (Rep.ext (d.trans j) _ _ r1);have b:=((e1.trans d).trans j).trans ex;exact⟨a,m,rfl,g,s.nx c r l m n b w (hs.ext b)⟩
def Ko:aq:=λ_ M Q=>∀p,M p=none->Q (.ref p) (put M p (.dt []))
theorem X1:aj X (.Dict [] [] pos) Ko:=PE.imp U7 λσ0 H g h=>by
 obtain⟨j,M,Q,hs,b,d,c⟩:=h;exactλp a=>c _ _ _ _ (d p (b.free a)) (Ext.new a) (b.cS a ⟨[],rfl,rfl⟩) rfl
end
section
variable {prog:Program}{w:World}{K:Type}[DecidableEq K]{knd:HeapKind prog w K}{A:Around}{E:aK}{s:Shared}{d a:Addr}{k:K}{xs:List (K×Addr×Value)}
theorem UI{xs:List (K×Addr×Value)}(b:(xs.map (·.1)).Nodup):∀{j:Nat} {p:Addr×Value},xs[j]? =some (k,p)->xs.eraseIdx j=xs.filter λx=>decide (x.1≠k):=by
 induction xs with
 |nil=>intro j p h;simp at h
 |cons x r ih=>
  intro j p h;rw[bX,iL]at b;cases j with
  |zero=>
   simp at h;subst h;rw[List.eraseIdx_cons_zero,ju];simp only[ne_eq,not_true_eq_false,decide_false,kK,if_false];exact(mF.mpr λy e=>by
    have:y.1≠k:=λz=>b.1 (aA.mpr ⟨y,e,z⟩)
    simpa using this).symm
  |succ j=>
   rw[List.eraseIdx_cons_succ,ju];have c:r[j]? =some (k,p):=by simpa using h
   have:x.1≠k:=λz=>b.1 (z ▸ aA.mpr ⟨_,jw c,rfl⟩)
   rw[ag (cu this),ih b.2 c]
theorem SV{Q:Option DictEntry->Shared->Prop}(hu:knd.room A)(hkey:knd.is s.heap k a)(hm:s.heap.DictOfH knd d xs)(ht:(PySem.atKey xs k).isSome=true)
 (hQ:∀e h',h'.DictOfH knd d (xs.filter λx=>decide (x.1≠k))->Heap.SameBut d s.heap h'->Q (some e) { s with heap:=h',toks:=s.toks+knd.draws k }) (hsz:xs.length<=sizeLine):wpAny (model prog w) A (Builtin.Dict.takeOut d (.ref a)) Q E s:=by
 obtain⟨o,es,ep,ho,hc,hd,he,his,hn⟩:=hm;unfold Builtin.Dict.takeOut
 try with_reducible refine jz ?_
 refine ai (knd.pyHash hu hkey ?_);refine ai (wpAny_dictFind_heap (s:={ s with toks:=s.toks+knd.draws k }) hu hkey ho hd he his hn (λhno=>?_) λj p hj=>?_)
 . rw[atKey_none_of_get hno]at ht;cases ht
 . refine ai (ud (s:={ s with toks:=s.toks+knd.draws k }) ho hd ?_)
   rw[entry_at he j,hj];refine ai (wpAny_updateDictKeys (hz:=by have e:=size_of_entries he;lia) (s:={ s with toks:=s.toks+knd.draws k }) ho hd (aC (hQ _ _ ⟨_,_,ep+1,Heap.get?_update_self _ ho (Obj.isFreed_of_dict (Obj.data_mapDictKeys hd _)),hc.mapDictKeys _,Obj.data_mapDictKeys hd _,?_,λx hx=>?_,?_⟩ (Heap.SameBut.update ..))))
   . rw[<-UI hn hj]
     have:(xs.eraseIdx j).map (entryOfKey knd)=es.toList.eraseIdx j:=by rw[he,List.eraseIdx_eq_take_drop_succ,List.eraseIdx_eq_take_drop_succ,eC,List.map_take,List.map_drop]
     rw[this];obtain⟨l⟩:=es;simp
   . exact knd.keeps (his x ((cb.mp hx).1)) ho hd (Heap.SameBut.update ..)
   . exact hn.sublist (List.filter_sublist.map _)
end
theorem WT(r:KT H kvs xs)(k:List bG):KT H (jR kvs k) (xs.filter λx=>decide (x.1≠k)):=by
 unfold jR
 induction r with
 |nil=>exact .nil
 | @cons p q ps qs h t ih=>
  rw[ju,ju,h.1];split
  . exact .cons h ih
  . exact ih
section
variable {X:Cx}{pins:aF}{σ:L2.St}{H:Hp}{s:Shared}{a b:Addr}{kvs:List (List bG×V)}{k:List bG}{A:Around}{E:aK}
theorem Zl(v:A.units+1<cLine)(I:Inv X pins σ H s)(e:H a=some (.dT kvs))(i:H b=some (.tup (k.map oV)))(l:(gf kvs k).isSome=true)(h:∀g,Inv X pins σ (upd H a (.dT (jR kvs k))) g->Q () g):
 wpAny (model X.prog X.w) A (delItem (.ref a) (.ref b)) Q E s:=by
 obtain⟨z,u,x,c,dd⟩:=CV I.av e;have w:x.length<=sizeLine:=by rw[<-Paired.length c];exact z
 refine wpAny_delItem_slot dd.typeIs ⋯ PySem.F.slot_dict_delitem (iK PySem.F.slot_dict_delitem dd.typeIs PySem.F.entry_dict_delitem ?_ (PySem.F.args_dict_delitem_2 _ _))
 unfold Builtin.«dict.__delitem__»;refine ai ?_;unfold Builtin.Dict.dictSlotArgs;refine ai (wpAny_notOrdered_dict dd.typeIs ?_);show wpAny _ _ (pure (Value.ref a,Value.ref b)) _ _ s;refine aC ?_;show wpAny _ _ (Builtin.Dict.takeOut a (.ref b) >>= _) _ _ s;refine ai (SV (tupleKind_room_in1 v) (nh I.av i) dd (by rw[<-rV,<-(c.val k).bh];exact l) (λen y d hs=>?_) w)
 refine ai (wpAny_letGo (aC ⟨.none,rfl,h _ ?_⟩));obtain⟨q,m,j,f,n,o,r,_,t⟩:=d;refine yC I (by rw[e];exact True.intro) hs ⟨q,f⟩ ⟨bQ (jY _ _) z,u,_,(WT c k).keeps λc C ec=>?_,q,m,j,f,n,o,r,t⟩
 rw[aZ (Lj ec e (λz=>nomatch z))]
 exact ec
end
noncomputable def dr[DecidableEq κ](kvs:List (κ×β))(k:κ):List (κ×β):=kvs.filter λp=>decide (p.1≠k)
theorem B1[DecidableEq κ]{K:ah}:∀{b:List (κ×RV)} {ws:List (κ×V)},aE K H b ws->aE K H (dr b k) (jR ws k)
 | [],_,h=>by cases h;exact rfl
 |(j,x)::r,_,h=>by
  obtain⟨v,t,rfl,c,d⟩:=h;have a:=B1 (k:=k) d;unfold dr jR at a ⊢;rw[ju,ju];split
  . exact⟨v,_,rfl,c,a⟩
  . exact a
def r8(M:RM)(x y:RV)(N:RM->Prop):Prop:=match x with
 | .ref a=>match M a with
  |some (.dk kvs)=>match gh y with
   |some k=>(lk kvs k).isSome=true/\N (put M a (.dk (dr kvs k)))
   |none=>False
  |some (.dt kvs)=>match fe y with
   |some k=>(lk kvs k).isSome=true/\N (put M a (.dt (dr kvs k)))
   |none=>False
  |_=>False
 |_=>False
section
variable {X:Cx}{o i:Expr}{td ty:aq}{pos tpos:Pos}
def J8(td ty:aq):dz:=λD a M=>td a M λx M1=>ty a M1 λy M2=>r8 M2 x y (D.nx a)
theorem Yd(hu:X.A.units+1<cLine)(ho:aj X o td)(hi:aj X i ty):eL X (.Delete [.Subscript o i tpos] pos) (J8 td ty):=by
 rintro pins s σ0 H D0 I ⟨σ,M,D,hs,hv,ht,hd⟩;refine wpAny_Delete (wpAny_deleteEach_cons (wpAny_delete_Subscript (ay (ho pins s σ0 H (λx H1=>∃rx M1,(ty σ M1 λy M2=>r8 M2 rx y (D.nx σ))/\Ext H H1/\View X.K H1 M1/\Rep X.K H1 rx x) I ⟨σ,M,_,hs,hv,ht,λrx M1 x H1 q e1 v1 r1=>⟨rx,M1,q,e1,v1,r1⟩⟩) λu s1 ⟨x,H1,I1,ru,rx,M1,q1,e1,v1,r1⟩=>
  ay (hi pins s1 σ0 H1 (λy H2=>∃ry M2,r8 M2 rx ry (D.nx σ)/\Ext H1 H2/\View X.K H2 M2/\Rep X.K H2 ry y) I1 ⟨σ,M1,_,hs.ext e1,v1,q1,λry M2 y H2 q e2 v2 r2=>⟨ry,M2,q,e2,v2,r2⟩⟩) λiv s2 ⟨y,H2,I2,riv,ry,M2,q2,e2,v2,r2⟩=>?_)))
 have r1:=Rep.ext e2 _ _ r1;have e12:=e1.trans e2;unfold r8 at q2;split at q2
 . rename_i a _ _
   cases r1;obtain rfl:u=Value.ref a:=ru;split at q2
   . rename_i kvs em
     obtain⟨ho',eo,ws,rfl,hg⟩:=v2 a _ em;split at q2
     . rename_i k ek
       have:=sQ ek r2;subst this;have ex:Ext H2 (upd H2 a (.dK (jR ws k))):=Ext.write eo rfl;obtain⟨z,hz⟩:=zK.mp q2.1;obtain⟨z',hz',_⟩:=(jL (k:=k) hg).1 z hz;exact UM I2 eo riv (by rw[hz'];rfl) λs3 I3=>wpAny_deleteEach_nil ⟨σ0,_,I3,hd.nx σ _ _ _ q2.2 (e12.trans ex) (v2.write em ⟨_,rfl,B1 (hg.ext ex)⟩) (hs.ext (e12.trans ex))⟩
     . exact q2.elim
   . rename_i kvs em
     obtain⟨ho',eo,ws,rfl,hg⟩:=v2 a _ em;split at q2
     . rename_i k ek
       obtain⟨b,rfl,hb⟩:=yf ek r2;obtain rfl:iv=Value.ref b:=riv;have ex:Ext H2 (upd H2 a (.dT (jR ws k))):=Ext.write eo rfl;obtain⟨z,hz⟩:=zK.mp q2.1;obtain⟨z',hz',_⟩:=(jL (k:=k) hg).1 z hz;exact Zl hu I2 eo hb (by rw[hz'];rfl) λs3 I3=>wpAny_deleteEach_nil ⟨σ0,_,I3,hd.nx σ _ _ _ q2.2 (e12.trans ex) (v2.write em ⟨_,rfl,B1 (hg.ext ex)⟩) (hs.ext (e12.trans ex))⟩
     . exact q2.elim
   . exact q2.elim
 . exact q2.elim
end
section
variable {X:Cx}{pins:aF}{σ:L2.St}{H:Hp}{s:Shared}{a:Addr}{A:Around}{E:aK}
theorem Zi(I:Inv X pins σ H s)(e:H a=some (.dT kvs))(h:∀t d,Inv X pins σ H d->Q (.int kvs.length t) d):wpAny (model X.prog X.w) A (call (.builtin "len") [.ref a]) Q E s:=by
 obtain⟨z,g,r,c,dd⟩:=CV I.av e;have ty:=dd.typeIs;obtain⟨o,f,l,k,n,b,i,_,_⟩:=dd;have j:f.size=kvs.length:=by rw[size_of_entries i,Paired.length c]
 refine Calls.call_function_entry kind_len plain_len entry_len (args_len1 _) ?_;unfold Builtin.«len»;refine ai (m:=oneArg "len" _) (aC ?_);refine ai (m:=callSpecial? (.ref a) (Str.ofString "__len__")) (wpAny_callSpecial?_slot (name:=Str.ofString "__len__") ty F.slot_dict_len (iK F.slot_dict_len ty F.entry_dict_len ?_ (F.args_dict_len_1 _)));show wpAny _ _ (dictSize a >>= _) _ _ s;unfold dictSize;refine ai (ai (ud k b (aC ?_)));show wpAny _ _ (Builtin.Dict.pendingCount a >>= _) _ _ s;refine ai (wpAny_pendingCount_other g ?_);refine wpAny_ret_mkInt ?_;rw[j];show wpAny _ _ _ _ _ { s with toks:=s.toks+1 }
 refine ai (jz (aC ?_));refine ai (wpAny_letGo ?_);rw[sizeLine_eq]at z;show wpAny _ _ (if((kvs.length:Nat):Int)<0 then _ else _) _ _ _
 rw[ab ∅]
 show wpAny _ _ (if((kvs.length:Nat):Int) ≥ 2 ^ 63 then _ else _) _ _ _
 rw[ab ∅]
 exact ai (wpAny_mkInt (aC ⟨_,rfl,h _ _ (I.tok _)⟩))
theorem qwM:cU X (.builtin "len") (eS X.K λrs M Q=>∃a b,rs= [.ref a]/\M a=some (.dt b)/\Q (.int b.length) M):=by
 rintro pins s σ H o us m I j ⟨rs,M,Q,k,c,⟨a,b,rfl,h,i⟩,g⟩;obtain⟨v,rfl,r1⟩:=k.one;cases r1;obtain⟨_,e,l,rfl,f⟩:=c a _ h;obtain⟨u,rfl,ru⟩:=vals1 j;cases ru;exact Zi I e λt n d=>⟨.int l.length,H,d,⟨t,rfl⟩,g.now i c (by simp only[Rep];rw[iY f])⟩
end
section
variable {X:Cx}
def Pl(i j:Nat)(b:bJ):dz:=λD a M=>b a M λrs M1=>match rs with
 | [v,w]=>D.nx ((a.set i (some v)).set j (some w)) M1
 |_=>False
theorem Rk{i j:Nat}{x y:Str}{a b:Expr}{e f pt:Pos}{kt d:Nat}(n:X.calm=true)(l:X.N.Nodup)(hi:X.N[i]? =some x)(r:X.N[j]? =some y)(c:i≠j)
 (hx:X.env.scope.names.lookup x=some .local) (z:X.env.scope.names.lookup y=some .local) (m:eJ X [a,b] ta)
 (u:swappedStores [.Tuple [.Name x e,.Name y f] kt pt] (.Tuple [a,b] d pt2) X.env=pure (some [x,y])):
 eL X (.Assign [.Tuple [.Name x e,.Name y f] kt pt] (.Tuple [a,b] d pt2) pos) (Pl i j ta):=PS.imp (YU n l hi r c hx z m u) λD0 I H h=>by
 obtain⟨F,M,D,hs,t,s,o⟩:=h;refine⟨F,M,_,hs,t,s,λrs M1 vs H1 q e1 C r1=>?_⟩
 split at q
 . rename_i v w
   obtain⟨A,E,rfl,g,k⟩:=r1.two;exact⟨A,E,rfl,o.nx _ M1 _ H1 q e1 C (((hs.ext e1).set g i).set k j)⟩
 . exact q.elim
noncomputable def uE (C:Addr)(f:Str)(b:aq)(σ:bw)(N:RM->Prop):ak:=λx M=>match x with
 | .ref a=>match M a with
  |some (.ins C' fs)=>C'=C/\match fs.lookup f with
   |some (.int i)=>b σ M λy M2=>match y with
    | .int j=>match M2 a with
     |some (.ins C2 fs2)=>C2=C/\fs2.length<1000/\N (put M2 a (.ins C (kl f (.int (i+j)) fs2)))
     |_=>False
    |_=>False
   |_=>False
  |_=>False
 |_=>False
def PN(C:Addr)(f:Str)(b c:aq):dz:=λD a M=>b a M (uE C f c a (D.nx a))
theorem saf(U:cQ X.K C)(hn:aR X.K C f)(R:aj X o ta)(m:aj X value tv):eL X (.AugAssign (.Attribute o f tpos) .Add value pos) (PN C f ta tv):=PS.imp (Tz R m ZD) λD0 s H h=>by
 obtain⟨r,M,D,hs,m,ht,W⟩:=h;refine⟨r,M,_,hs,m,ht,λrx M1 x H1 q e1 w r1=>?_⟩
 cases rx with
 |ref a=>
  cases r1;unfold uE at q;simp only at q;split at q
  . rename_i A fs L
    obtain⟨rfl,q⟩:=q;split at q
    . rename_i i J
      obtain⟨ho,N,F,gs,rfl,Y⟩:=w a _ L;obtain⟨u,O,ru⟩:=xE Y J;refine⟨a,A,F,gs,u,rfl,N,U,hn,O,r,M1,_,hs.ext e1,w,q,λry M2 y t l I z v=>?_⟩
      cases ry with
      |int j=>
       simp only[Rep]at v ru;subst v ru;simp only at l;split at l
       . rename_i E Q d
         obtain⟨rfl,Z,n⟩:=l;obtain⟨ho2,e,b,g,rfl,k⟩:=z a _ d;have ex:Ext t (upd t a (.ins E b (fm f (.int (i+j)) g))):=Ext.write e rfl;have c:=(e1.trans I).trans ex;exact⟨i,j,rfl,rfl,b,g,e,by rw[<-iY k];exact Z,W.nx r _ s _ n c (z.write d ⟨b,_,rfl,Bc (by simp only[Rep]) (k.ext ex)⟩) (hs.ext c)⟩
       . exact l.elim
      |_=>exact l.elim
    . exact q.elim
  . exact q.elim
 |_=>exact q.elim
end
def bY(h:Heap)(d:Addr)(es:Array DictEntry)(ep:Nat):Prop:=∃o,h.get? d=some o/\o.ExactDict/\o.data= .dict es ep
section
variable {prog:Program}{w:World}{A:Around}{E:aK}{s:Shared}{d it:Addr}{es:Array DictEntry}{ep i:Nat}
theorem bY.ty(x:bY s.heap d es ep):s.TypeIs (.ref d) "dict":=by
 obtain⟨o,a,b,c⟩:=x;exact⟨o,a,b.1⟩
theorem VB(g:(d==sysModules)=false)(c:bY s.heap d es ep)
 (f:Q (.ref s.heap.objs.size) { s with heap:=s.heap.push { cls:=.type "dict_keyiterator",data:=.fields #[.ref d,.int 0 0,.int es.size 0,.int ep 0] } }):wpAny (model prog w) A (pyIter (.ref d)) Q E s:=by
 have b:=c.ty;obtain⟨o,e,h,a⟩:=id c;refine wpAny_pyIter_slot b F.slot_dict_iter (iK F.slot_dict_iter b F.entry_dict_iter ?_ (F.args_dict_iter_1 _));unfold Builtin.«dict.__iter__» Builtin.Dict.dictSlotNone;refine ai (ai (wpAny_notOrdered_dict b ?_));refine(aC ?_:wpAny _ _ (pure (Value.ref d)) _ _ s);have e0:Builtin.Dict.showsAll d=pure ():=by unfold Builtin.Dict.showsAll;rw[ab (by rw[g];exact iI)]
 refine(?_:wpAny _ _ (Builtin.Dict.showsAll d >>= _) _ _ s);rw[e0];refine ai (aC (ai (ud e a (ai (wpAny_dictEpoch e a (ai (jX (aC ⟨_,rfl,"dict_keyiterator",_,⟨_,c0 _ rfl,rfl⟩,F.slot_dict_keyiterator_next.lookup,?_⟩))))))));simpa[rawInt]using f
def dH(k:Bool)(h:Heap)(it d:Addr)(i n ep:Nat):Prop:=match k with
 |true=>h.IsKeyIter it d i n ep
 |false=>h.IsValIter it d i n ep
noncomputable def Lz (k:Bool)(e:DictEntry):Value:=match k with
 |true=>e.key
 |false=>e.val
theorem dH.at{n:Nat}(x:dH k h it d i n ep):∃o,h.get? it=some o/\(∀v,o.data≠.cell v)/\(∀a:Heap,a.get? it=some o->dH k a it d i n ep)/\∃c vs,o.cls= .type c/\o.data= .fields vs/\["enumerate","zip","dict_itemiterator","dict_reverseitemiterator","odict_iterator","itertools.zip_longest","itertools.pairwise"].contains c=false:=by
 cases k<;>obtain⟨o,e,c,z⟩:=x<;>exact⟨o,e,(λv q=>by rw[z]at q;cases q),λh' b=>⟨o,b,c,z⟩,_,_,c,z,⋯⟩
theorem dH.step{n:Nat}(x:dH k h it d i n ep):dH k (h.update it (Obj.mapFields λa=>a.setIfInBounds 1 (rawInt ((i:Int)+1)))) it d (i+1) n ep:=by
 cases k<;>obtain⟨o,e,c,b⟩:=x<;>exact⟨_,Heap.get?_update_self _ e (Obj.isFreed_of_fields (Obj.data_mapFields b _)),(Obj.cls_mapFields ..).trans c,by rw[Obj.data_mapFields b];simp[rawInt]⟩
theorem dH.ty{n:Nat}(x:dH k s.heap it d i n ep):s.TypeIs (.ref it) (if k=true then "dict_keyiterator" else "dict_valueiterator"):=by
 cases k<;>obtain⟨o,b,a,c⟩:=x<;>exact⟨o,b,a⟩
theorem IE(b:dH k s.heap it d i es.size ep)(n:bY s.heap d es ep)(hi:i<es.size)
 (l:∀g,dH k g it d (i+1) es.size ep->Heap.SameBut it s.heap g->Q (some (Lz k es[i])) { s with heap:=g }):wpAny (model prog w) A (pyNext (.ref it)) Q E s:=by
 obtain⟨t,e,m,c⟩:=id n;have st:=b.step;cases k<;>(
  obtain⟨o,j,r,h⟩:=id b;unfold pyNext
  first
   |refine ai (wpAny_attempt (wpAny_callSpecial?_slot (name:=Str.ofString "__next__") b.typeIs F.slot_dict_keyiterator_next (iK F.slot_dict_keyiterator_next b.typeIs F.entry_dict_keyiterator_next ?_ (F.args_dict_keyiterator_next_1 _))))
   |refine ai (wpAny_attempt (wpAny_callSpecial?_slot (name:=Str.ofString "__next__") b.typeIs F.slot_dict_valueiterator_next (iK F.slot_dict_valueiterator_next b.typeIs F.entry_dict_valueiterator_next ?_ (F.args_dict_valueiterator_next_1 _))))
  refine ai (aC (ai (ai ?_)))
  first|refine ai (wpAny_typeNameOfWhole_keyiter b.typeIs (aC (ai (wpAny_fieldsOf j h ?_))))|refine ai (wpAny_typeNameOfWhole_valiter b.typeIs (aC (ai (wpAny_fieldsOf j h ?_))))
  simp -iota only[show Builtin.Dict_items.ownsTuple "dict_keyiterator" =false by decide,show Builtin.Dict_items.ownsTuple "dict_valueiterator" =false by decide,kK,if_false]
  refine(?_:wpAny _ _ (if(Value.ref d==Value.none)=true then _ else _) _ _ s)
  rw[ab (show ¬(Value.ref d==Value.none)=true fromλz=>iI z)]
  refine ai (aC (ai (ud e c ?_)));rw[ab (by simp)];refine ai (aC (ai (wpAny_dictEpoch e c ?_)))
  rw[ab (by simp)];refine aC ?_
  simp only[show ¬((i:Int)<0) by lia,if_false,Int.toNat_natCast,Array.getElem?_eq_getElem hi]
  first|refine ai (ai (wpAny_typeNameOfWhole_keyiter b.typeIs (aC (ai (wpAny_isOneOf_keyiter b.typeIs ?_)))))|refine ai (ai (wpAny_typeNameOfWhole_valiter b.typeIs (aC (ai (wpAny_isOneOf_valiter b.typeIs ?_)))))
  refine(?_:wpAny _ _ (setField (.ref it) 1 (rawInt ((i:Int)+1)) >>= _) _ _ s);refine ai (wpAny_setField j h (by simp) ?_)
  have fin:=l _ st (Heap.SameBut.update ..);have f:=dH.ty (s:={ s with heap:=s.heap.update it (Obj.mapFields λa=>a.setIfInBounds 1 (rawInt ((i:Int)+1))) }) st
  first|refine ai (jz (ai (wpAny_isOneOf_keyiter f ?_)))|refine ai (jz (ai (wpAny_isOneOf_valiter f (ai (wpAny_isOneOf_valiter f ?_)))))
  first|refine(?_:wpAny _ _ (pure es[i].key) _ _ _)|refine(?_:wpAny _ _ (pure es[i].val) _ _ _)
  exact aC (aC ⟨_,rfl,aC fin⟩))
theorem Jg(r:A.handled=none)(c:dH k s.heap it d i es.size ep)(t:bY s.heap d es ep)(hi:es.size<=i)(l:∀j,Heap.ExtBut it s.heap j->Q none { s with heap:=j }):
 wpAny (model prog w) A (pyNext (.ref it)) Q E s:=by
 obtain⟨v,f,n,e⟩:=id t;cases k<;>(
  obtain⟨o,h,u,g⟩:=id c;unfold pyNext
  first
   |refine ai (wpAny_attempt (wpAny_callSpecial?_slot (name:=Str.ofString "__next__") c.typeIs F.slot_dict_keyiterator_next (iK F.slot_dict_keyiterator_next c.typeIs F.entry_dict_keyiterator_next ?_ (F.args_dict_keyiterator_next_1 _))))
   |refine ai (wpAny_attempt (wpAny_callSpecial?_slot (name:=Str.ofString "__next__") c.typeIs F.slot_dict_valueiterator_next (iK F.slot_dict_valueiterator_next c.typeIs F.entry_dict_valueiterator_next ?_ (F.args_dict_valueiterator_next_1 _))))
  refine ai (aC (ai (ai ?_)))
  first|refine ai (wpAny_typeNameOfWhole_keyiter c.typeIs (aC (ai (wpAny_fieldsOf h g ?_))))|refine ai (wpAny_typeNameOfWhole_valiter c.typeIs (aC (ai (wpAny_fieldsOf h g ?_))))
  simp -iota only[show Builtin.Dict_items.ownsTuple "dict_keyiterator" =false by decide,show Builtin.Dict_items.ownsTuple "dict_valueiterator" =false by decide,kK,if_false]
  refine(?_:wpAny _ _ (if(Value.ref d==Value.none)=true then _ else _) _ _ s)
  rw[ab (show ¬(Value.ref d==Value.none)=true fromλz=>iI z)]
  refine ai (aC (ai (ud f e ?_)));rw[ab (by simp)];refine ai (aC (ai (wpAny_dictEpoch f e ?_)))
  rw[ab (by simp)];refine aC ?_
  simp only[show ¬((i:Int)<0) by lia,if_false,Int.toNat_natCast,Array.getElem?_eq_none hi]
  first|refine ai (ai (wpAny_typeNameOfWhole_keyiter c.typeIs (aC ?_)))|refine ai (ai (wpAny_typeNameOfWhole_valiter c.typeIs (aC ?_)))
  refine(?_:wpAny _ _ (setField (.ref it) 0 .none >>= _) _ _ s);refine ai (wpAny_setField h g (by simp) ?_)
  refine(?_:wpAny _ _ (newExc (.type "StopIteration") [] >>= _) _ _ _);simp -iota only[newExc,newTuple];refine ai (ai (jX ?_ (by size_fits)))
  refine ai (m:=firstArgMember _ _) (wpAny_of_eq (a:=Value.none) (by first|rfl|(simp only[firstArgMember];rfl)) (jX ?_ (by size_fits)))
  simp -iota only[raiseNew];refine ai (wpAny_handled ?_);rw[show A.in1.handled=none from r];refine ai (aC (wpAny_throw ?_));refine ai (wpAny_isInstance (T:="StopIteration") (b:=true) ⟨_,c0 _ rfl,rfl⟩ isSubtype_stop ?_)
  exact aC (l _ (((Heap.SameBut.update ..).extBut.push _).push _)))
theorem GZ{v:Addr}(e:s.heap.IsValuesView v d)(j:bY s.heap d es ep)
 (g:Q (.ref s.heap.objs.size) { s with heap:=s.heap.push { cls:=.type "dict_valueiterator",data:=.fields #[.ref d,.int 0 0,.int es.size 0,.int ep 0] } }):wpAny (model prog w) A (pyIter (.ref v)) Q E s:=by
 obtain⟨m,c,h,b⟩:=id e;obtain⟨o,f,l,a⟩:=id j;have k:Builtin.Dict_items.ownsTuple "dict_valueiterator" =false:=by decide
 refine wpAny_pyIter_slot e.typeIs F.slot_dict_values_iter (iK F.slot_dict_values_iter e.typeIs F.entry_dict_values_iter ?_ (F.args_dict_values_iter_1 _));unfold Builtin.«dict_values.__iter__» Builtin.Dict_items.dictOf Builtin.Dict_items.newIterator;refine ai (aC (ai (ai (wpAny_field c b (x:=.ref d) rfl (aC (ai (ai (ud f a (ai (wpAny_dictEpoch f a ?_))))))))));simp only[k,kK,if_false];refine jX (aC ⟨_,rfl,"dict_valueiterator",_,⟨_,c0 _ rfl,rfl⟩,F.slot_dict_valueiterator_next.lookup,?_⟩);simpa[rawInt]using g
theorem GL(a:(d==sysModules)=false):MeetsIn prog w (Builtin.«dict.values» ⟨[.ref d],[]⟩) (λ_ R s=>(∃es ep,bY s.heap d es ep)/\R (.ok (.ret (.ref s.heap.objs.size))) { s with heap:=s.heap.push { cls:=.type "dict_values",data:=.fields #[.ref d] } }):=
 .of_wp λA R s ⟨⟨es,ep,hm⟩,h⟩=>by
  have e0:Builtin.Dict.showsAll d=pure ():=by unfold Builtin.Dict.showsAll;rw[ab (by rw[a];exact iI)]
  refine ai ?_;unfold Builtin.Dict.noArgs;refine ai (wpAny_notOrdered_dict hm.ty ?_);refine(aC ?_:wpAny _ _ (pure d) _ _ s);refine(?_:wpAny _ _ (Builtin.Dict.showsAll d >>= _) _ _ s);rw[e0];exact ai (aC (ai (jX (aC ⟨_,rfl,h⟩))))
end
noncomputable def kG:HO->Nat
 | .dK kvs=>kvs.length
 | .dT kvs=>kvs.length
 |_=>0
def tL(u:HO)(i:Nat)(H:Hp)(x:V):Prop:=match u with
 | .dK kvs=>∃a,kvs[i]? =some a/\x=kV a.1
 | .dT kvs=>∃a b,kvs[i]? =some a/\x= .ref b/\H b=some (.tup (a.1.map oV))
 |_=>False
def valAt(u:HO)(i:Nat)(x:V):Prop:=match u with
 | .dK kvs=>∃a,kvs[i]? =some a/\x=a.2
 | .dT kvs=>∃a,kvs[i]? =some a/\x=a.2
 |_=>False
theorem x9:∀{l:List α} {m:List β} {i:Nat} {b:β},Paired F l m->m[i]? =some b->∃a,l[i]? =some a/\F a b
 |_,_,_,_,.nil,e=>by simp at e
 |_,_,0,_,.cons r _,e=>by simp at e;subst e;exact⟨_,rfl,r⟩
 |_,_,i+1,b,.cons _ t,e=>by
  obtain⟨a,c,d⟩:=x9 (i:=i) t (by simpa using e)
  exact⟨a,by simpa using c,d⟩
theorem HK(h:kq k u=true):RelV (kV k) u:=by
 rcases ji h with⟨i,t,rfl,rfl⟩|⟨x,t,rfl,rfl⟩
 . exact⟨t,rfl⟩
 . exact⟨t,rfl⟩
section
variable {X:Cx}{pins:aF}{σ:L2.St}{H:Hp}{s:Shared}{a:Addr}{o:Obj}{u:HO}
theorem sM(I:Inv X pins σ H s)(h:H a=some (.aX o u))(J:i5 u=true):∃b j,o.data= .dict b j/\bY s.heap a b j/\(a==sysModules)=false/\b.size=kG u/\kG u<=sizeLine/\
 ∀i (hi:i<b.size),(∃x,tL u i H x/\RelV x b[i].key)/\∃x,valAt u i x/\RelV x b[i].val:=by
 obtain⟨g,E⟩:=I.av a _ h;cases u<;>first|(cases J;done)|skip
 . rename_i f
   obtain⟨z,y,vs,r,O,b,j,e,c,dd,ks,C,N⟩:=E;rw[g]at e;cases e;have w:b.size=f.length:=by have:=C.length;have L:=Paired.length r;simp at this;lia
   refine⟨b,j,dd,⟨o,g,c,dd⟩,y,w,z,λi hi=>?_⟩
   have D:i<vs.length:=by have:=C.length;simp at this;lia
   obtain⟨p1,Q⟩:=C.get? (e:=b[i]) (i:=i) (k:=vs[i].1) (v:=vs[i].2) (by simp[hi]) (by simp[D])
   obtain⟨d,m,F,A⟩:=x9 (i:=i) r (by simp[D]:vs[i]? =some vs[i])
   refine⟨⟨kV d.1,⟨d,m,rfl⟩,?_⟩,d.2,⟨d,m,rfl⟩,by rw[Q];exact A⟩
   rw[F];exact HK p1
 . rename_i f
   obtain⟨z,y,l,r,O,b,j,e,c,dd,n,N⟩:=E;rw[g]at e;cases e;have w:b.size=f.length:=by have L:=Paired.length r;have:=congrArg List.length n;simp at this;lia
   refine⟨b,j,dd,⟨o,g,c,dd⟩,y,w,z,λi hi=>?_⟩
   have hx:i<l.length:=by have:=congrArg List.length n;simp at this;lia
   have t:b[i]=entryOfKey (tupleKind (optKind X.prog X.w)) l[i]:=by
    have:=entry_at (knd:=tupleKind (optKind X.prog X.w)) n i;simpa[hi,hx]using this
   obtain⟨d,m,F,A,M⟩:=x9 (i:=i) r (by simp[hx]:l[i]? =some l[i])
   rw[t];exact⟨⟨.ref l[i].2.1,⟨d,l[i].2.1,m,rfl,A⟩,rfl⟩,d.2,⟨d,m,rfl⟩,M⟩
end
noncomputable def zT (o:Obj)(a:Addr)(k:Bool):It:=
 ⟨λi H=>∃u,H a=some (.aX o u)/\i5 u=true/\i<kG u,λi H x b=>b=H/\∃u,H a=some (.aX o u)/\(if k=true then tL u i H x else valAt u i x),λi H=>∃u,H a=some (.aX o u)/\i5 u=true/\kG u<=i⟩
section
variable {P:Program}{w:World}{K:ah}{tg:Expr}{o:Obj}{a it:Addr}{es:Array DictEntry}{ep:Nat}
theorem Kb(hd:o.data= .dict es ep):Turn P w K tg (zT o a k) [it] it (λi h=>dH k h it a i es.size ep) where
 mem:=.head _
 obj:=λi h st b hb=>by
  cases eG.mp hb;obtain⟨o,e,n,_⟩:=st.at;exact⟨o,e,n⟩
 keep:=λi h h' st q=>by obtain⟨o,e,_,c,_⟩:=st.at;exact c _ (q it (.head _) o e)
 item:=by
  intro X hP hw hK hc i pins s σ H E I hf st ⟨u,hg,du,hi⟩;subst hP hw hK;obtain⟨es',ep',d',rd,hS,hl,_,hall⟩:=sM I hg du;rw[hd]at d';cases d';have hi':i<es.size:=by rw[hl];exact hi
  obtain⟨f0,f1,f2,f3,f4,f5⟩:=hf it (.head _);refine IE st rd hi' λh' st' sb=>?_
  have I1:Inv X pins σ H { s with heap:=h' }:=I.turned (t':=s.toks) (λb o hb e=>(sb.2 b hb).trans e) f0 f1 f3 f4 f5
  obtain⟨oi,e,_,_,_,_,c,d,z⟩:=st'.at;obtain⟨x,k2,k1⟩:∃x,RelV x (Lz k es[i])/\(if k=true then tL u i H x else valAt u i x):=by
   obtain⟨⟨x,k1,k2⟩,y,k3,k4⟩:=hall i hi';cases k
   . exact⟨y,k4,k3⟩
   . exact⟨x,k2,k1⟩
  exact⟨_,rfl,vA (s:={ s with heap:=h' }) e c d z ⟨x,H,I1,k2,⟨rfl,u,hg,k1⟩,st',λb hb=>(hf b hb).1⟩⟩
 done:=by
  intro X hP hw hK hc i pins s σ H E I hf st ⟨u,hg,du,hi⟩;subst hP hw hK;obtain⟨es',ep',d',rd,hS,hl,_⟩:=sM I hg du;rw[hd]at d';cases d';obtain⟨f0,f1,f2,f3,f4,f5⟩:=hf it (.head _);exact Jg (I.ok.hd hc) st rd (by rw[hl];exact hi) λh' eb=>⟨rfl,I.turned (t':=s.toks) (λb o hb e=>eb b o hb e) f0 f1 f3 f4 f5⟩
 self:=λ_ _ _ _ _ st h=>by cases k;exact wpAny_pyIter_valiter st h;exact wpAny_pyIter_keyiter st h
end
noncomputable def kR:Key->RV
 | .inl i=>.int i
 | .inr x=>.str x
noncomputable def oR:bG->RV
 |none=>.aw
 |some k=>kR k
noncomputable def mq (k:Bool)(kvs:bR):LR:=if k=true then kvs.map (λkv=>kR kv.1)else kvs.map (·.2)
noncomputable def mn (k:Bool)(kvs:List (TK×RV)):LR:=if k=true then kvs.map (λkv=>.tup (kv.1.map oR))else kvs.map (·.2)
theorem B9{K:ah}(k):Rep K H (kR k) (kV k):=by cases k<;>simp only[kR,kV,Rep]
theorem XZ{K:ah}(k):Rep K H (oR k) (oV k):=by
 cases k with
 |none=>simp only[oR,oV,Rep]
 |some k=>exact B9 k
theorem Jd{K:ah}:∀ks:TK,aa K H (ks.map oR) (ks.map oV)
 | []=>aa.nil
 |k::ks=>aa.cons (XZ k) (Jd ks)
theorem u4{K:ah}:∀{c:List (κ×RV)} {ws:List (κ×V)} {i:Nat} {w:κ×V},aE K H c ws->ws[i]? =some w->∃r,c[i]? =some (w.1,r)/\Rep K H r w.2
 | [],ws,i,w,h,e=>by have h:ws= []:=h;subst h;simp at e
 |(k,x)::r,ws,i,w,h,e=>by
  obtain⟨v,t,rfl,d,f⟩:=h;cases i with
  |zero=>simp at e;subst e;exact⟨x,by simp,d⟩
  |succ i=>
   obtain⟨q,a,b⟩:=u4 (i:=i) f (by simpa using e)
   exact⟨q,by simpa using a,b⟩
theorem gC:(mq k kvs).length=kvs.length:=by cases k<;>simp[mq]
theorem gF:(mn k kvs).length=kvs.length:=by cases k<;>simp[mn]
section
variable {H0 Hs:Hp}{K:ah}{H1:Hp}{a:Addr}{o:Obj}{k:Bool}
theorem yG{xs:LR}{un:RM->RM}(h:H1 a=some (.aX o u))(c:i5 u=true)(d:xs.length=kG u)(f:∀{i H v x},Ext H1 H->xs[i]? =some x->(if k=true then tL u i H v else valAt u i v)->Rep K H x v)
 (m:∀H M,Ext H1 H->View K H M->ok M->∃b,eM H0 H b/\bu H b/\Ext Hs b/\View K b (un M)):jr H0 Hs K (zT o a k) xs ok un H1 where
 turn:=λi H M e l g x hx=>⟨⟨_,e.aY _ _ _ h,c,d ▸ (mH.mp hx).1⟩,λv b y=>by
  obtain⟨z,n,j,y⟩:=y;cases z;cases(e.aY _ _ _ h).symm.trans j;exact⟨.refl _,λ_ w=>w,f e hx y⟩⟩
 stop:=λi H M e l g hi=>⟨_,e.aY _ _ _ h,c,d ▸ hi⟩
 dj:=m
theorem Kg(r:aE K H1 kvs ws){i:Nat}{v:V}{x:RV}(e:Ext H1 H)(hx:(mq k kvs)[i]? =some x)(y:if k=true then tL (.dK ws) i H v else valAt (.dK ws) i v):Rep K H x v:=by
 cases k<;>obtain⟨c,e1,rfl⟩:=y<;>obtain⟨q,b,d⟩:=u4 r e1
 . obtain rfl:x=q:=by simpa[mq,b]using hx.symm
   exact Rep.ext e _ _ d
 . obtain rfl:x=kR c.1:=by simpa[mq,b]using hx.symm
   exact B9 _
theorem Kf(r:aE K H1 kvs ws){i:Nat}{v:V}{x:RV}(e:Ext H1 H)(hx:(mn k kvs)[i]? =some x)(y:if k=true then tL (.dT ws) i H v else valAt (.dT ws) i v):Rep K H x v:=by
 cases k
 . obtain⟨d,e1,rfl⟩:=y
   obtain⟨q,c,g⟩:=u4 r e1;obtain rfl:x=q:=by simpa[mn,c]using hx.symm
   exact Rep.ext e _ _ g
 . obtain⟨d,b,e1,rfl,f⟩:=y
   obtain⟨q,c,_⟩:=u4 r e1;obtain rfl:x= .tup (d.1.map oR):=by simpa[mn,c]using hx.symm
   exact⟨b,_,rfl,f,Jd _⟩
end
noncomputable def kH (k:Bool)(Q:LR->(RM->Prop)->(RM->RM)->RM->Prop):ak:=λv M1=>match v with
 | .ref a=>match M1 a with
  |some (.dk kvs)=>Q (mq k kvs) (λM=>M a=some (.fk kvs)) (λM=>put M a (.dk kvs)) (put M1 a (.fk kvs))
  |some (.dt kvs)=>Q (mn k kvs) (λM=>M a=some (.ft kvs)) (λM=>put M a (.dt kvs)) (put M1 a (.ft kvs))
  |some (.fk kvs)=>Q (mq k kvs) (λM=>M a=some (.fk kvs)) id M1
  |some (.ft kvs)=>Q (mn k kvs) (λM=>M a=some (.ft kvs)) id M1
  |_=>False
 |_=>False
def zd(k:Bool)(te:aq):ig:=λσ M Q=>te σ M (kH k Q)
section
variable {X:Cx}{tg:Expr}
theorem PK{ob:Obj}:bC X.K H (.fk kvs) (.aX ob (.dK ws))↔bC X.K H (.dk kvs) (.dK ws):=⟨by rintro ⟨_,_,z,r⟩;cases z;exact⟨_,rfl,r⟩,by rintro ⟨_,z,r⟩;cases z;exact⟨_,_,rfl,r⟩⟩
theorem rpT{ob:Obj}:bC X.K H (.ft kvs) (.aX ob (.dT ws))↔bC X.K H (.dt kvs) (.dT ws):=⟨by rintro ⟨_,_,z,r⟩;cases z;exact⟨_,rfl,r⟩,by rintro ⟨_,z,r⟩;cases z;exact⟨_,_,rfl,r⟩⟩
theorem Cg{H H1:Hp}{s:Shared}{M1:RM}{a:Addr}{ro fro:RO}(I:Inv X pins σ0 H1 s)(e1:Ext H H1)(v1:View X.K H1 M1)(em:M1 a=some ro)(eh:H1 a=some u)(du:i5 u=true)(rp:∀{H ob},bC X.K H fro (.aX ob u)↔bC X.K H ro u)(r:bC X.K H1 ro u):
 ∃ob,Inv X pins σ0 (upd H1 a (.aX ob u)) s/\Ext H1 (upd H1 a (.aX ob u))/\View X.K (upd H1 a (.aX ob u)) (put M1 a fro)/\
  ∀H2 M,Ext (upd H1 a (.aX ob u)) H2->View X.K H2 M->M a=some fro->∃H',eM X.H₀ H2 H'/\bu H2 H'/\Ext H H'/\View X.K H' (put M a ro):=by
 obtain⟨ob,g,I2,n0⟩:=BN I eh du;have ex:Ext H1 (upd H1 a (.aX ob u)):=Ext.write eh (by cases u<;>first|cases du;done|rfl)
 refine⟨ob,I2,ex,v1.write em (rp.mpr (r.ext ex)),λH2 M e hv hm=>?_⟩
 have hH:=e.aY _ _ _ (ej (H:=H1) (a:=a) (o:=.aX ob u));have xw:bu H2 (upd H2 a u):=bu.dj hH du;refine⟨_,.inr ⟨a,ob,u,hH,du,n0,rfl⟩,xw,⟨λb xs z=>?_,λb o' u' z=>?_⟩,hv.write hm (bC.aV xw (r.ext (ex.trans e)))⟩
 . have z1:=(e1.trans (ex.trans e)).bO _ _ z
   exact(aZ (by rintro rfl;rw[hH]at z1;cases z1)).trans z1
 . have z0:=e1.aY _ _ _ z
   exact(aZ (by rintro rfl;rw[eh]at z0;cases z0;cases du)).trans ((ex.trans e).aY _ _ _ z0)
theorem hold{H H1:Hp}{s:Shared}{rv:RV}{v:V}{M1:RM}(I:Inv X pins σ0 H1 s)(e1:Ext H H1)(d:View X.K H1 M1)(r1:Rep X.K H1 rv v)(q:kH k Q rv M1):
 ∃a o u e m l un M2,v= .ref a/\Inv X pins σ0 e s/\e a=some (.aX o u)/\i5 u=true/\jr X.H₀ H X.K (zT o a k) m l un e/\Q m l un M2/\Ext H e/\View X.K e M2:=by
 cases rv<;>first|exact q.elim|skip
 unfold kH at q;dsimp only at q;split at q
 . rename_i h f
   obtain⟨_,b,c,rfl,r⟩:=d _ _ f;obtain⟨ob,g,ex,j,i⟩:=Cg I e1 d f b rfl PK ⟨c,rfl,r⟩;exact⟨_,ob,.dK c,_,_,_,_,_,r1,g,ej,rfl,yG ej rfl (gC.trans (iY r)) (Kg (r.ext ex)) i,q,e1.trans ex,j⟩
 . rename_i h f
   obtain⟨_,b,c,rfl,r⟩:=d _ _ f;obtain⟨ob,g,ex,j,i⟩:=Cg I e1 d f b rfl rpT ⟨c,rfl,r⟩;exact⟨_,ob,.dT c,_,_,_,_,_,r1,g,ej,rfl,yG ej rfl (gF.trans (iY r)) (Kf (r.ext ex)) i,q,e1.trans ex,j⟩
 . obtain⟨_,b,ob,c,rfl,r⟩:=d _ _ ‹_›
   exact⟨_,ob,.dK c,H1,_,_,_,_,r1,I,b,rfl,yG b rfl (gC.trans (iY r)) (Kg r) (mZ e1),q,e1,d⟩
 . obtain⟨_,b,ob,c,rfl,r⟩:=d _ _ ‹_›
   exact⟨_,ob,.dT c,H1,_,_,_,_,r1,I,b,rfl,yG b rfl (gF.trans (iY r)) (Kf r) (mZ e1),q,e1,d⟩
 . exact q.elim
theorem qwk{l:Expr}(hl:aj X l te):jd X tg l (zd true te):=by
 rintro pins s σ0 H R I ⟨σ,M,Q,hs,hv,ht,hk⟩;refine ay (hl pins s σ0 H (λx H1=>∃rv M1,Rep X.K H1 rv x/\kH true Q rv M1/\Ext H H1/\View X.K H1 M1) I ⟨σ,M,_,hs,hv,ht,λrv M1 v H1 q e1 v1 r1=>⟨rv,M1,r1,q,e1,v1⟩⟩) λuv s1 zz=>?_;obtain⟨v,H1,I1,rl,rv,M1,r1,q,e1,v1⟩:=zz
 obtain⟨a,o,u,H2,xs,ok,un,M2,rfl,I2,hH,du,it,q,e2,v2⟩:=hold I1 e1 v1 r1 q;cases(show uv=Value.ref a from rl)
 obtain⟨es,ep,hd,rd,hS,_⟩:=sM I2 hH du;refine VB hS rd ?_;refine⟨s1.heap.objs.size,[s1.heap.objs.size],_,_,H2,rfl,I2.kept (t':=s1.toks) λb o e=>bx _ e,Kb (k:=true) hd,⟨_,c0 _ rfl,rfl,rfl⟩,λb hb=>?_,hk xs ok un M2 _ H2 q e2 v2 it⟩
 have e:b=s1.heap.objs.size:=by simpa using hb
 subst e;exact I2.gv (aD _) (I2.av.fresh (aD _))
theorem JV{s:Shared}{a:Addr}(I:Inv X pins σ0 H s)(h:H a=some (.aX o u))(c:i5 u=true):s.TypeIs (.ref a) "dict"/\∀b,Value.ref a= .ref b->∃ob,s.heap.get? b=some ob/\ob.dict=none:=by
 obtain⟨i,g,k,rd,_⟩:=sM I h c;refine⟨rd.ty,λb e=>?_⟩
 cases e;obtain⟨o1,d,f,j⟩:=rd;exact⟨o1,d,f.2.1⟩
theorem qwi{l:Expr}{ap p:Pos}(hl:aj X l te)(hbase:attributeBase l "values" X.env (eval l X.env)=eval l X.env)(hline:(ap.endLine==p.line)=true):jd X tg (.Call (.Attribute l "values" ap) [] [] p) (zd false te):=by
 rintro pins s σ0 H R I ⟨σ,M,Q,hs,hv,ht,hk⟩;refine wpAny_Call_method (T:="dict") (id:="dict.values") hbase rfl hline F.plainAttrs_dict F.slot_dict_values F.type_dict_values (ay (hl pins s σ0 H (λx H1=>∃rv M1,Rep X.K H1 rv x/\kH false Q rv M1/\Ext H H1/\View X.K H1 M1) I ⟨σ,M,_,hs,hv,ht,λrv M1 v H1 q e1 v1 r1=>⟨rv,M1,r1,q,e1,v1⟩⟩) λuv s1 zz=>?_);obtain⟨v,H1,I1,rl,rv,M1,r1,q,e1,v1⟩:=zz
 obtain⟨a,o,u,H2,xs,ok,un,M2,rfl,I2,hH,du,it,q,e2,v2⟩:=hold I1 e1 v1 r1 q;cases(show uv=Value.ref a from rl)
 obtain⟨es,ep,hd,rd,hS,_⟩:=sM I2 hH du;obtain⟨t1,t2⟩:=JV I2 hH du;refine⟨t1,t2,method_meetsIn F.slot_dict_values F.entry_dict_values rfl (PySem.evalArgs_none ⟨rfl,t1,F.args_dict_values_1 _,_,GL hS,⟨es,ep,rd⟩,?_⟩)⟩;have I3:Inv X pins σ0 H2 { s1 with heap:=s1.heap.push { cls:=.type "dict_values",data:=.fields #[.ref a] } }:=I2.kept (t':=s1.toks) λb o e=>bx _ e
 have rd3:bY (s1.heap.push { cls:=.type "dict_values",data:=.fields #[.ref a] }) a es ep:=by obtain⟨o1,h1,h2⟩:=rd;exact⟨o1,bx _ h1,h2⟩
 refine GZ (s:={ s1 with heap:=s1.heap.push { cls:=.type "dict_values",data:=.fields #[.ref a] } }) ⟨_,c0 _ rfl,rfl,rfl⟩ rd3 ?_
 refine⟨_,[_],_,_,H2,rfl,I3.kept (t':=s1.toks) λb o e=>bx _ e,Kb (k:=false) hd,⟨_,c0 _ rfl,rfl,rfl⟩,λb hb=>?_,hk xs ok un M2 _ H2 q e2 v2 it⟩
 have e:=eG.mp hb;subst e;exact I3.gv (aD _) (I3.av.fresh (aD _))
end
noncomputable def Itm (o:Obj)(a:Addr):It:=
 ⟨λi H=>∃b:List (Key×V),H a=some (.aX o (.dK b))/\i<b.length,λi H x c=>∃(b:List (Key×V)) (kv:Key×V) (p:Addr),H a=some (.aX o (.dK b))/\b[i]? =some kv/\x= .ref p/\H p=none/\c=upd H p (.tup [kV kv.1,kv.2]),λi H=>∃b:List (Key×V),H a=some (.aX o (.dK b))/\b.length<=i⟩
section
variable {X:Cx}
theorem BC{s:Shared}{a:Addr}(I:Inv X pins σ H s)(h:H a=some (.aX o (.dK ws))):∃vs b d,o.data= .dict b d/\KV ws vs/\s.heap.DictAt (cZ X.prog X.w) a vs d/\(a==sysModules)=false/\vs.length=b.size:=by
 obtain⟨g,z,y,vs,r,j,b,d,e,c,dd,ks,f,i⟩:=I.av a _ h;rw[g]at e;cases e;exact⟨vs,b,d,dd,r,⟨o,b,g,c,dd,ks,f,i⟩,y,by have:=f.length;simp at this;lia⟩
theorem SN:entryFor table "dict_itemiterator.__iter__" =some Builtin.«dict_keyiterator.__iter__»:=entryFor_alias (id':="dict_keyiterator.__iter__") (by kernel_rfl) rfl (by decide+kernel) (by kernel_rfl)
theorem Ts{P:Program}{K:ah}{o:Obj}{a it:Addr}(hd:o.data= .dict es ep):Turn P w K (.Tuple ts tk tp) (Itm o a) [it] it (λi h=>∃ok ov,IsItemIter h it a i es.size ep ok ov) where
 mem:=by simp
 obj:=λi h st b hb=>by
  have e:b=it:=by simpa using hb
  subst e;obtain⟨_,_,st⟩:=st;exact⟨_,st,λv z=>by cases z⟩
 keep:=λi h h' st k=>by obtain⟨x,y,st⟩:=st;exact⟨x,y,k it (by simp) _ st⟩
 item:=by
  intro X hP hw hK hc i pins s σ H E I hf ⟨x0,y0,st⟩ ⟨ws,hg,hi⟩;subst hP hw hK;obtain⟨vs,es',ep',d',r,da,hS,hl⟩:=BC I hg;rw[hd]at d';cases d';have hv:i<vs.length:=by have:=Paired.length r;lia
  obtain⟨kv,k1,k2,k3⟩:=x9 (i:=i) r (by simp[hv]:vs[i]? =some vs[i])
  obtain⟨f0,f1,f2,f3,f4,f5⟩:=hf it (by simp)
  refine wpAny_pyNext_items_item (knd:=cZ X.prog X.w) (k:=vs[i].1) (v:=vs[i].2) (by rw[hl];exact st) da (by simp[hv]) λkey h' hk st' tp' sz kp=>⟨_,rfl,?_⟩
  refine wpAny_letOwnedTupleGo_items (s:={ s with heap:=h' }) st' λh2 st2 sb=>?_
  have fI:=I.av.fresh (aD s.heap.objs.size);have hpi:s.heap.objs.size≠it:=Nat.ne_of_gt (bB st);have t2:h2.get? s.heap.objs.size=some { cls:=.type "tuple",data:=.seq #[key,vs[i].2] }:=sb.extBut _ _ hpi tp';have rk:Vals [kV kv.1,kv.2] [key,vs[i].2]:=.cons (by rw[k2];exact HK hk) (.cons k3 .nil)
  have I1:Inv X pins σ (upd H s.heap.objs.size (.tup [kV kv.1,kv.2])) { s with heap:=s.heap.push { cls:=.type "tuple",data:=.seq #[key,vs[i].2] },toks:=s.toks }:=
   I.laid (λb o e=>bx _ e) (aD _) ⟨by show 2<=sizeLine;decide,[key,vs[i].2],rk,IsTup.new s.heap _⟩
  have I2:Inv X pins σ (upd H s.heap.objs.size (.tup [kV kv.1,kv.2])) { s with heap:=h2 }:=Inv.turned (s:={ s with heap:=s.heap.push { cls:=.type "tuple",data:=.seq #[key,vs[i].2] },toks:=s.toks }) (h':=h2) (t':=s.toks) (it:=it) I1 (λb o hb e=>?_) (by rw[aZ hpi.symm];exact f0) f1 f3 f4 f5
  . exact⟨.ref s.heap.objs.size,_,I2,rfl,⟨ws,kv,_,hg,k1,rfl,fI,rfl⟩,⟨_,_,by rw[<-hl];exact st2⟩,λb hb=>by
     have e:b=it:=by simpa using hb
     subst e;rw[aZ hpi.symm];exact f0⟩
  . rcases Heap.get?_push_cases e with⟨rfl,rfl⟩|e'
    . exact t2
    . exact sb.extBut b o hb (kp b o hb e')
 done:=by
  intro X hP hw hK hc i pins s σ H E I hf ⟨x0,y0,st⟩ ⟨ws,hg,hi⟩;subst hP hw hK;obtain⟨vs,es',ep',d',r,da,hS,hl⟩:=BC I hg;rw[hd]at d';cases d';have hv:vs.length<=i:=by have:=Paired.length r;lia
  obtain⟨f0,f1,f2,f3,f4,f5⟩:=hf it (by simp)
  exact wpAny_pyNext_items_end (knd:=cZ X.prog X.w) (I.ok.hd hc) (by rw[hl];exact st) da (by simp[hv]) λh' eb=>⟨rfl,I.turned (t':=s.toks) (λb o hb e=>eb b o hb e) f0 f1 f3 f4 f5⟩
 self:=λA i s Q E st h=>by
  obtain⟨x,y,st⟩:=st;have hT:s.TypeIs (.ref it) "dict_itemiterator":=⟨_,st,rfl⟩;refine wpAny_pyIter_slot hT F.slot_dict_itemiterator_iter (iK F.slot_dict_itemiterator_iter hT SN ?_ (F.args_dict_itemiterator_iter_1 _));refine(?_:wpAny _ _ (ret (.ref it)) _ _ s);exact aC ⟨_,rfl,"dict_itemiterator",_,hT,F.slot_dict_itemiterator_next.lookup,h⟩
noncomputable def jO (kvs:bR):LR:=kvs.map λkv=>.tup [kR kv.1,kv.2]
theorem KD{K:ah}{H1:Hp}{a:Addr}{un:RM->RM}(h:H1 a=some (.aX o (.dK ws)))(r:aE K H1 kvs ws)
 (s:∀H M,Ext H1 H->View K H M->M a=some (.fk kvs)->∃b,eM H0 H b/\bu H b/\Ext Hs b/\View K b (un M)):jr H0 Hs K (Itm o a) (jO kvs) (λM=>M a=some (.fk kvs)) un H1 where
 turn:=λi H M e l k x hx=>by
  have f:=e.aY _ _ _ h;have c:(jO kvs).length=ws.length:=by rw[<-iY r];simp[jO]
  have hi:i<ws.length:=by rw[<-c];exact(mH.mp hx).1
  refine⟨⟨_,f,hi⟩,λv b y=>?_⟩
  obtain⟨t,m,p,g,e1,rfl,d,rfl⟩:=y;rw[f]at g;cases g;obtain⟨q,j,n⟩:=u4 r e1;have:x= .tup [kR m.1,q]:=by simpa[jO,j]using hx.symm
  rw[this];exact⟨Ext.new d,λ_ w=>w.new d,sN d (aa.cons (B9 _) (aa.cons (Rep.ext e _ _ n) aa.nil))⟩
 stop:=λi H M e l k hi=>by
  have c:(jO kvs).length=ws.length:=by rw[<-iY r];simp[jO]
  exact⟨_,e.aY _ _ _ h,by rw[c]at hi;exact hi⟩
 dj:=s
noncomputable def tS (Q:LR->(RM->Prop)->(RM->RM)->RM->Prop):ak:=λv M1=>match v with
 | .ref a=>match M1 a with
  |some (.dk kvs)=>Q (jO kvs) (λM=>M a=some (.fk kvs)) (λM=>put M a (.dk kvs)) (put M1 a (.fk kvs))
  |some (.fk kvs)=>Q (jO kvs) (λM=>M a=some (.fk kvs)) id M1
  |_=>False
 |_=>False
def OF(te:aq):ig:=λσ M Q=>te σ M (tS Q)
theorem qwn{H H1:Hp}{s:Shared}{rv:RV}{v:V}{M1:RM}(I:Inv X pins σ0 H1 s)(e1:Ext H H1)(e:View X.K H1 M1)(r1:Rep X.K H1 rv v)(q:tS Q rv M1):
 ∃a o b c h g un M2,v= .ref a/\Inv X pins σ0 c s/\c a=some (.aX o (.dK b))/\jr X.H₀ H X.K (Itm o a) h g un c/\Q h g un M2/\Ext H c/\View X.K c M2:=by
 cases rv<;>first|exact q.elim|skip
 unfold tS at q;dsimp only at q;split at q
 . rename_i j f
   obtain⟨_,d,b,rfl,r⟩:=e _ _ f;obtain⟨ob,i,ex,l,k⟩:=Cg I e1 e f d rfl PK ⟨b,rfl,r⟩;exact⟨_,ob,b,_,_,_,_,_,r1,i,ej,KD ej (r.ext ex) k,q,e1.trans ex,l⟩
 . obtain⟨_,d,ob,b,rfl,r⟩:=e _ _ ‹_›
   exact⟨_,ob,b,H1,_,_,_,_,r1,I,d,KD d r (mZ e1),q,e1,e⟩
 . exact q.elim
theorem ZE{l:Expr}{ap p:Pos}(hl:aj X l te)(hbase:attributeBase l "items" X.env (eval l X.env)=eval l X.env)(hline:(ap.endLine==p.line)=true):jd X (.Tuple ts tk tp) (.Call (.Attribute l "items" ap) [] [] p) (OF te):=by
 rintro pins s σ0 H R I ⟨σ,M,Q,hs,hv,ht,hk⟩;refine wpAny_Call_method (T:="dict") (id:="dict.items") hbase rfl hline F.plainAttrs_dict F.slot_dict_items F.type_dict_items (ay (hl pins s σ0 H (λx H1=>∃rv M1,Rep X.K H1 rv x/\tS Q rv M1/\Ext H H1/\View X.K H1 M1) I ⟨σ,M,_,hs,hv,ht,λrv M1 v H1 q e1 v1 r1=>⟨rv,M1,r1,q,e1,v1⟩⟩) λuv s1 zz=>?_);obtain⟨v,H1,I1,rl,rv,M1,r1,q,e1,v1⟩:=zz
 obtain⟨a,o,ws,H2,xs,ok,un,M2,rfl,I2,hH,it,q,e2,v2⟩:=qwn I1 e1 v1 r1 q;cases(show uv=Value.ref a from rl)
 obtain⟨vs,es,ep,hd,r,da,hS,hl⟩:=BC I2 hH;obtain⟨t1,t2⟩:=JV I2 hH rfl;refine⟨t1,t2,method_meetsIn F.slot_dict_items F.entry_dict_items rfl (PySem.evalArgs_none ⟨rfl,t1,F.args_dict_items_1 _,_,meets_dict_items (cZ X.prog X.w) a hS,⟨vs,da.dictOf⟩,?_⟩)⟩;have I3:Inv X pins σ0 H2 { s1 with heap:=s1.heap.push { cls:=.type "dict_items",data:=.fields #[.ref a] } }:=I2.kept (t':=s1.toks) λb o e=>bx _ e
 refine wpAny_pyIter_items (s:={ s1 with heap:=s1.heap.push { cls:=.type "dict_items",data:=.fields #[.ref a] } }) ⟨_,c0 _ rfl,rfl,rfl⟩ (da.push _) ?_
 have hlt:a<s1.heap.objs.size:=da.lt_size;refine⟨_,[_],_,_,H2,rfl,I3.kept (t':=s1.toks) λb o e=>bx _ e,Ts hd,⟨_,_,by rw[<-hl];exact c0 _ rfl⟩,λb hb=>?_,hk xs ok un M2 _ H2 q e2 v2 it⟩
 have e:=eG.mp hb;subst e;exact I3.gv (aD _) (I3.av.fresh (aD _))
end
section
variable {prog:Program}{w:World}{A:Around}{d r:Addr}{es:Array DictEntry}{ep:Nat}
theorem bY.keep{h h':Heap}(x:bY h d es ep)(k:∀o,h.get? d=some o->h'.get? d=some o):bY h' d es ep:=by obtain⟨o,a,b⟩:=x;exact⟨o,k o a,b⟩
theorem bY.lt(x:bY h d es ep):d<h.objs.size:=by obtain⟨o,a,b⟩:=x;exact bB a
theorem Ua(hh:A.handled=none)(I:Addr)(hne:d≠I):Walks prog w A I [I,d] [I] es.size (λi v=>∃hi:i<es.size,v=es[i].val) (λi h=>h.IsValIter I d i es.size ep/\bY h d es ep) where
 sub:=λb hb=>by simp at hb;simp[hb]
 frame:=λ_ _ _ st hk=>⟨st.1.at λo e=>hk I (by simp) o e,st.2.keep λo e=>hk d (by simp) o e⟩
 item:=λi s Q E hi st hQ=>IE (k:=false) st.1 st.2 hi λh' hit' hs'=>hQ _ h' s.toks ⟨hi,rfl⟩ ⟨hit',st.2.keep λo e=>hs'.extBut d o hne e⟩ λb o hb e=>hs'.extBut b o (λh=>hb (by simp[h])) e
 done:=λs Q E st hQ=>Jg (k:=false) hh st.1 st.2 (aD _) λh' he'=>hQ h' s.toks λb o hb e=>he' b o (λh=>hb (by simp[h])) e
 self:=λ_ _ _ _ st hQ=>wpAny_pyIter_valiter st.1 hQ
theorem Vu:PySem.W.KdlSrc prog w "dict_values" r d es.size (λi v=>∃hi:i<es.size,v=es[i].val) (λh=>h.IsValuesView r d/\bY h d es ep) where
 type:=λ_ a=>a.1.typeIs
 there:=λ_ a=>⟨let⟨_,ho,_⟩:=a.1;bB ho,a.2.lt⟩
 keep:=λ_ _ a c=>⟨let⟨o,ho,x⟩:=a.1;⟨o,c r (.inl rfl) o ho,x⟩,a.2.keep λo e=>c d (.inr rfl) o e⟩
 notList:=by decide
 notTuple:=by decide
 hint:=λ_ _ _ _ a b=>PySem.W.kdl_hint_values a.1.typeIs b
 iter:=λ_ _ f a=>⟨_,_,(λ_ _ b=>GZ a.1 a.2 b),Ua f _ (cE a.2.lt),⟨⟨_,c0 _ rfl,rfl,rfl⟩,a.2.keep λo e=>bx _ e⟩⟩
end
noncomputable def vJ:RO->Option (LR)
 | .dk kvs=>some (kvs.map (·.2))
 | .fk kvs=>some (kvs.map (·.2))
 | .dt kvs=>some (kvs.map (·.2))
 | .ft kvs=>some (kvs.map (·.2))
 |_=>none
def uG(b:Bool)(Q:ak):ak:=λv M=>match v with
 | .ref a=>match(M a).bind vJ with
  |some xs=>nE b xs M Q
  |none=>False
 |_=>False
def PB(md:Bool)(te:aq):aq:=λσ M Q=>te σ M (uG md Q)
section
variable {X:Cx}
theorem uP{K:ah}:∀{a:List (κ×RV)} {ws:List (κ×V)},aE K H a ws->aa K H (a.map (·.2)) (ws.map (·.2))
 | [],ws,h=>by have h:ws= []:=h;subst h;exact aa.nil
 |(k,x)::r,ws,h=>by obtain⟨v,t,rfl,b,c⟩:=h;exact aa.cons b (uP c)
theorem Zh{s:Shared}{a:Addr}(I:Inv X pins σ0 H s)(L:View X.K H M)(F:M a=some o)(h:vJ o=some xs):
 ∃vs c k,bY s.heap a c k/\(a==sysModules)=false/\c.size=vs.length/\vs.length<=sizeLine/\aa X.K H xs vs/\∀i (hi:i<c.size),∃x,vs[i]? =some x/\RelV x c[i].val:=by
 obtain⟨U,m,r⟩:=L a o F;have d:∀u n ob vs,Inv X pins σ0 n s->n a=some (.aX ob u)->i5 u=true->(∀i x,valAt u i x->vs[i]? =some x)->kG u=vs.length->aa X.K H xs vs->∃vs c k,bY s.heap a c k/\(a==sysModules)=false/\c.size=vs.length/\vs.length<=sizeLine/\aa X.K H xs vs/\∀i (hi:i<c.size),∃x,vs[i]? =some x/\RelV x c[i].val:=λu n ob vs j D A t v J=>by
  obtain⟨c,k,h,rd,E,e1,C,l⟩:=sM j D A;exact⟨vs,c,k,rd,E,by rw[e1,v],by rw[<-v];exact C,J,λi hi=>by obtain⟨_,x,N,O⟩:=l i hi;exact⟨x,t i x N,O⟩⟩
 have w:∀(b:List (Key×V)) i x,valAt (.dK b) i x->(b.map (·.2))[i]? =some x:=λws i x ⟨Q,e,z⟩=>by rw[fR,e,z];rfl
 have y:∀(b:List (TK×V)) i x,valAt (.dT b) i x->(b.map (·.2))[i]? =some x:=λws i x ⟨Q,e,z⟩=>by rw[fR,e,z];rfl
 cases o<;>first|(cases h;done)|skip
 . obtain⟨b,rfl,f⟩:=r
   cases h;obtain⟨ob,g,j,R⟩:=BN I m rfl;exact d _ _ ob (b.map (·.2)) j ej rfl (w b) (by simp[kG]) (uP f)
 . obtain⟨b,rfl,f⟩:=r
   cases h;obtain⟨ob,g,j,R⟩:=BN I m rfl;exact d _ _ ob (b.map (·.2)) j ej rfl (y b) (by simp[kG]) (uP f)
 . obtain⟨ob,b,rfl,f⟩:=r
   cases h;exact d _ _ ob (b.map (·.2)) I m rfl (w b) (by simp[kG]) (uP f)
 . obtain⟨ob,b,rfl,f⟩:=r
   cases h;exact d _ _ ob (b.map (·.2)) I m rfl (y b) (by simp[kG]) (uP f)
theorem Hf:∀{vs:LV} {us:au},us.length=vs.length->(∀(i:Nat) u,us[i]? =some u->∃x,vs[i]? =some x/\RelV x u)->Vals vs us
 | [],[],_,_=>.nil
 | [],_::_,h,_=>by cases h
 |_::_,[],h,_=>by cases h
 |v::vs,u::us,h,f=>by
  obtain⟨x,e,r⟩:=f 0 u rfl;cases e;exact .cons r (Hf (by simpa using h) λi u e=>f (i+1) u (by simpa using e))
theorem rlv{l:Expr}{p1 ap n pos:Pos}(z:X.mg "list" =none)(hc:X.calm=true)(hl:aj X l te)(y:Gl X "list")(c:attributeBase l "values" X.env (eval l X.env)=eval l X.env)(d:(ap.endLine==n.line)=true):
 aj X (.Call (.Name "list" p1) [.Call (.Attribute l "values" ap) [] [] n] [] pos) (PB md te):=by
 rintro b s t H Q0 I ⟨σ,M,Q,hs,hv,ht,L⟩;have j:starEach [Expr.Call (.Attribute l "values" ap) [] [] n] X.env=(false,eval (Expr.Call (.Attribute l "values" ap) [] [] n) X.env)::starEach [] X.env:=rfl;refine Call_ (ng I y z boot_list (wB ?_ j rfl));rw[j];show wpAny _ _ (spliced ((false,eval (Expr.Call (.Attribute l "values" ap) [] [] n) X.env)::backTo pos (starEach [] X.env))) _ _ s;refine Calls.spliced_cons (wpAny_Call_method (T:="dict") (id:="dict.values") c rfl d F.plainAttrs_dict F.slot_dict_values F.type_dict_values (ay (hl b s t H (λx H1=>∃rv M1,Rep X.K H1 rv x/\uG md Q rv M1/\Ext H H1/\View X.K H1 M1) I ⟨σ,M,_,hs,hv,ht,λrv M1 v H1 q e1 f r1=>⟨rv,M1,r1,q,e1,f⟩⟩) λuv r zz=>?_));obtain⟨v,H1,C,rl,rv,M1,r1,q,e1,f⟩:=zz
 cases rv<;>first|(exact q.elim)|skip
 rename_i a;cases r1;cases(show uv=Value.ref a from rl)
 unfold uG at q;simp only at q;split at q
 . rename_i xs ex
   obtain⟨o,hm,hd⟩:=Option.bind_eq_some_iff.mp ex;obtain⟨vs,U,R,rd,Z,E,J,N,h⟩:=Zh C f hm hd;refine⟨rd.ty,λb e=>by cases e;obtain⟨o1,W,Y,h3⟩:=rd;exact⟨o1,W,Y.2.1⟩,method_meetsIn F.slot_dict_values F.entry_dict_values rfl (PySem.evalArgs_none ⟨rfl,rd.ty,F.args_dict_values_1 _,_,GL Z,⟨U,R,rd⟩,Calls.spliced_nil ?_⟩)⟩
   have w:Inv X b t H1 { r with heap:=r.heap.push { cls:=.type "dict_values",data:=.fields #[.ref a] } }:=C.kept (t':=r.toks) λb o e=>bx _ e
   refine PySem.W.kdl_call (s:={ r with heap:=r.heap.push { cls:=.type "dict_values",data:=.fields #[.ref a] } }) Vu (w.ok.hd hc) ⟨⟨_,c0 _ rfl,rfl,rfl⟩,rd.keep λo e=>bx _ e⟩ (by rw[E];exact J) λh' tk g O kp k m=>?_
   have A:Vals vs g.toList:=Hf (by simp[m.1,E]) λi u e=>by
    obtain⟨hi,rfl⟩:=m.2 i u (by rw[<-Array.getElem?_toList];exact e)
    exact h i hi
   have fI:=w.av.fresh (aD _);have D:=w.laid (t':=tk) (o:=.lst vs) (h':=h') kp (aD _) ⟨J,g.toList,O,A,by simpa using k⟩
   cases md with
   |true=>exact⟨.ref _,_,D,rfl,L (.ref _) _ _ _ (q _ (f.free fI)) (e1.trans (Ext.new fI)) (f.cS fI ⟨vs,rfl,aa.ext (Ext.new fI) _ _ N⟩) rfl⟩
   |false=>exact frozen ⟨.ref _,_,D,rfl,H1,_,vs,rfl,fI,rfl,λo=>L _ M1 _ _ q (e1.trans (Ext.new fI)) (f.new fI) (kh fI N)⟩
 . exact q.elim
end
noncomputable def jS:Key->Key->Bool
 | .inl i,.inl j=>decide (i<j)
 | .inl _,.inr _=>true
 | .inr _,.inl _=>false
 | .inr x,.inr y=>decide (x.cps.toList<y.cps.toList)
noncomputable def kC:bG->bG->Bool
 |none,none=>false
 |none,some _=>true
 |some _,none=>false
 |some k,some l=>jS k l
noncomputable def eR:TK->TK->Bool
 | [],[]=>false
 | [],_::_=>true
 |_::_,[]=>false
 |x::xs,y::ys=>if x=y then eR xs ys else kC x y
theorem XB{x y:Str}(h:x.cps.toList=y.cps.toList):x=y:=by
 cases x;cases y;simp_all
theorem V8(a):jS a a=false:=by
 cases a with
 |inl i=>simp[jS]
 |inr x=>simpa[jS]using List.lt_irrefl x.cps.toList
theorem Xq{a b c:Key}(d:jS a b=true)(e:jS b c=true):jS a c=true:=by
 cases a<;>cases b<;>cases c<;>simp only[jS,ib,reduceCtorEq]at d e ⊢
 . lia
 . exact List.lt_trans d e
theorem V7{a b:Key}(c:jS a b=false)(d:jS b a=false):a=b:=by
 cases a<;>cases b<;>simp only[jS,decide_eq_false_iff_not,reduceCtorEq]at c d
 . congr 1;lia
 . congr 1;exact XB (List.le_antisymm (List.not_lt.mp d) (List.not_lt.mp c))
theorem V6(a):kC a a=false:=by cases a<;>simp[kC,V8]
theorem Xp{a b c:bG}(d:kC a b=true)(e:kC b c=true):kC a c=true:=by
 cases a<;>cases b<;>cases c<;>simp only[kC,reduceCtorEq]at d e ⊢
 exact Xq d e
theorem V5{a b:bG}(c:kC a b=false)(d:kC b a=false):a=b:=by
 cases a<;>cases b<;>simp only[kC,reduceCtorEq]at c d ⊢
 exact congrArg some (V7 c d)
theorem Ir:∀a:TK,eR a a=false
 | []=>rfl
 |x::xs=>by unfold eR;rw[ag rfl];exact Ir xs
theorem BU:∀{a b c:TK},eR a b=true->eR b c=true->eR a c=true
 | [],b,[],h1,h2=>by cases b<;>simp[eR]at h1 h2
 | [],b,z::zs,_,_=>rfl
 |x::xs,[],c,h1,_=>by simp[eR]at h1
 |x::xs,y::ys,[],_,h2=>by simp[eR]at h2
 |x::xs,y::ys,z::zs,h1,h2=>by
  unfold eR at h1 h2 ⊢
  by_cases e1:x=y
  . subst e1
    rw[ag rfl]at h1
    by_cases d:x=z
    . subst d;rw[ag rfl]at h2 ⊢;exact BU h1 h2
    . rw[ab d]at h2 ⊢;exact h2
  . rw[ab e1]at h1
    by_cases d:y=z
    . subst d;rw[ab e1];exact h1
    . rw[ab d]at h2
      have t:=Xp h1 h2;rw[ab (by rintro rfl;rw[V6]at t;cases t)]
      exact t
theorem yj:∀{a b:TK},eR a b=false->eR b a=false->a=b
 | [],[],_,_=>rfl
 | [],_::_,h,_=>by simp[eR]at h
 |_::_,[],_,h=>by simp[eR]at h
 |x::xs,y::ys,h1,h2=>by
  unfold eR at h1 h2
  by_cases e:x=y
  . subst e
    rw[ag rfl]at h1 h2;rw[yj h1 h2]
  . rw[ab e]at h1
    rw[ab (cx e)]at h2;exact aU (V5 h1 h2) e
@[reducible] def ia:KeyOrd where
 α:=TK
 blt:=eR
 irrefl:=Ir
 trans:=λ_ _ _=>BU
 negTrans:=λa b c h=>by
  cases h1:eR a b with
  |true=>exact .inl rfl
  |false=>
   cases h2:eR b a with
   |true=>exact .inr (BU h2 h)
   |false=>rw[yj h1 h2]at h;exact .inr h
 total:=λ_ _=>yj
noncomputable def iV (a b:TK):Bool:=!eR b a
noncomputable def l9 (a:List TK):List TK:=a.mergeSort iV
theorem Zp{a b c:TK}(d:iV a b=true)(e:iV b c=true):iV a c=true:=by
 unfold iV at*;rw[i9]at*;exact KeyOrd.kle_trans (O:=ia) d e
theorem UB(a b):(iV a b||iV b a)=true:=by
 unfold iV;cases h:eR b a with
 |false=>rfl
 |true=>rw[show eR a b=false from KeyOrd.klt_asymm (O:=ia) h];rfl
theorem Tu(a:List TK):(l9 a).Perm a:=List.mergeSort_perm ..
theorem Vv(c:List TK):(l9 c).Pairwise λa b=>iV a b=true:=List.pairwise_mergeSort (le:=iV) (λ_ _ _=>Zp) UB c
theorem Vw{l c:List TK}(f:l.Perm c)(hs:l.Pairwise λa b=>iV a b=true):l=l9 c:=
 (f.trans (Tu c).symm).eq_of_pairwise (λa b _ _ d e=>by
  unfold iV at d e;rw[i9]at d e;exact yj e d) hs (Vv c)
noncomputable def iU:bG->bG->Bool
 |some (.inl _),some (.inl _)=>true
 |some (.inr _),some (.inr _)=>true
 |_,_=>false
noncomputable def wc:TK->TK->Bool
 |x::xs,y::ys=>if x=y then wc xs ys else iU x y
 |_,_=>true
noncomputable def Ap:TK->Bool
 |some (.inl _)::_=>true
 |_=>false
noncomputable def Aq:TK->Bool
 |some (.inr _)::_=>true
 |_=>false
noncomputable def qL (c:List TK):Bool:=(c.all Ap||c.all Aq)&&c.all λa=>c.all λb=>wc a b
noncomputable def rowsOf:LR->Option (List TK)
 | []=>some []
 |x::xs=>match fe x,rowsOf xs with
  |some k,some ks=>some (k::ks)
  |_,_=>none
noncomputable def cV (r:TK):RV:=.tup (r.map oR)
theorem IK:∀{rs:LR} {k:TK},hZ rs=some k->rs=k.map oR
 | [],k,h=>by cases h;rfl
 |r::rs,k,h=>by
  unfold hZ at h;split at h
  . rename_i a b e1 c
    cases h;rw[bX,<-IK c];congr 1;cases r<;>simp only[nu,reduceCtorEq]at e1<;>cases e1<;>rfl
  . cases h
theorem UZ{x:RV}(h:fe x=some k):x=cV k:=by
 cases x<;>first|(cases h;done)|skip
 unfold cV;rw[<-IK h]
theorem GY:∀{xs:LR} {rows:List TK},rowsOf xs=some rows->xs=rows.map cV
 | [],rows,h=>by cases h;rfl
 |x::xs,rows,h=>by
  unfold rowsOf at h;split at h
  . rename_i a b e1 c
    cases h;rw[bX,<-GY c,<-UZ e1]
  . cases h
section
variable {P:Program}{w:World}
noncomputable def bV (P:Program)(w:World)(h:Heap):List TK->au->Prop
 | [],[]=>True
 |r::rs,v::vs=>(∃a ae,v= .ref a/\IsTup h a ae/\ItemsAre (optKind P w) r ae.toList)/\bV P w h rs vs
 |_,_=>False
theorem bV.keep{h g:Heap}(k:∀b o,h.get? b=some o->g.get? b=some o):∀{c:List TK} {vs:au},bV P w h c vs->bV P w g c vs
 | [],[],_=>trivial
 |_::_,_::_,⟨⟨a,ae,e,⟨o,h1,h2⟩,h3⟩,r⟩=>⟨⟨a,ae,e,⟨o,k a o h1,h2⟩,h3⟩,bV.keep k r⟩
 | [],_::_,h=>h.elim
 |_::_,[],h=>h.elim
theorem bV.len:∀{a:List TK} {vs:au},bV P w h a vs->a.length=vs.length
 | [],[],_=>rfl
 |_::_,_::_,⟨_,r⟩=>by rw[bW,bW,r.len]
 | [],_::_,h=>h.elim
 |_::_,[],h=>h.elim
theorem bV.at:∀{b:List TK} {vs:au} {i:Nat},bV P w h b vs->i<b.length->∃a ae,vs.getD i Value.none= .ref a/\IsTup h a ae/\ItemsAre (optKind P w) (b.getD i []) ae.toList
 |_::_,_::_,0,⟨⟨a,ae,e,h1,h2⟩,_⟩,_=>⟨a,ae,by simpa using e,h1,by simpa using h2⟩
 |_::_,_::_,i+1,⟨_,r⟩,hi=>by
  obtain⟨a,ae,e1,c,d⟩:=r.at (i:=i) (by simpa using hi)
  exact⟨a,ae,by simpa using e1,c,by simpa using d⟩
 | [],_,_,_,hi=>aU hi (ue _)
 |_::_,[],_,h,_=>h.elim
theorem BH{i:Int}{v:Value}(h:(optKind P w).is (some (.inl i)) v=true):∃t,v= .int i t:=Value.isInt_shape (show Value.isInt i v=true from h)
theorem B2{x:Str}{v:Value}(h:(optKind P w).is (some (.inr x)) v=true):∃t,v= .str x t:=Value.isStrOf_shape (show Value.isStrOf x v=true from h)
theorem RJ{fin b:Bool}{s:Shared}(g:b=true):∀{ks ls:TK} {xs ys:au} {i:Nat},ItemsAre (optKind P w) ks xs->ItemsAre (optKind P w) ls ys->wc ks ls=true->fin=decide (ks.length<ls.length)->Q (eR ks ls) s->KatLex P w A b fin Q (xs.zip ys) i s:=by
 intro ks
 induction ks with
 |nil=>intro ls xs ys i d f _ c q;cases d;cases f<;>rw[c]<;>exact q
 |cons k ks ih=>
  intro ls xs ys i d f a c q;cases d with
  |cons hk r1=>cases f with
  |nil=>rw[c];exact q
  |cons hl r2=>
  rename_i l ls _ _;refine(optKind P w).eqBool hk hl ?_;unfold wc at a;unfold eR at q
  by_cases e:k=l
  . rw[ag e]at a q
    rw[ag (by simpa using e)]
    exact ih r1 r2 a (by rw[c];simp) q
  . rw[ab e]at a q
    rw[ab (by simpa using e)]
    subst g;unfold iU at a;split at a
    . rename_i m n
      obtain⟨t,rfl⟩:=BH hk;obtain⟨u,rfl⟩:=BH hl;have q:Q (decide (m<n)) s:=q
      by_cases z:i=0
      . rw[show(true&&i==0)=true by rw[z];rfl];exact oneLt_int q
      . rw[show(true&&i==0)=false by simpa using z];exact kat_one _ _ (PySem.P.lt_int q)
    . rename_i m n
      obtain⟨t,rfl⟩:=B2 hk;obtain⟨u,rfl⟩:=B2 hl;have q:Q (decide (m.cps.toList<n.cps.toList)) s:=q
      by_cases z:i=0
      . rw[show(true&&i==0)=true by rw[z];rfl];exact oneLt_str q
      . rw[show(true&&i==0)=false by simpa using z];exact kat_one _ _ (PySem.P.lt_str q)
    . cases a
theorem heads{T:Value}{p:TK->Bool}(g:∀r,p r=true->∀ae,ItemsAre (optKind P w) r ae->∃f,ae[0]? =some f/\Looks (model P w) h (typeOf f) T):∀{b:List TK} {vs:au},bV P w h b vs->b.all p=true->
 ∃c,KatTups h vs c/\c.length=vs.length/\∀v∈c,Looks (model P w) h (typeOf v) T
 | [],[],_,_=>⟨[],trivial,rfl,λ_ z=>by cases z⟩
 |r::b,v::vs,⟨⟨a,ae,e,⟨o,h1,h2,n,h3⟩,h4⟩,rr⟩,ha=>by
  rw[fz,bj]at ha;obtain⟨f,i,j⟩:=g r ha.1 ae.toList h4;obtain⟨c,k,l,m⟩:=heads g rr ha.2;subst e;refine⟨f::c,KatTups.cons h1 h2 h3 (by simpa using i) k,by rw[bW,bW,l],λv d=>?_⟩
  rcases fC.mp d with rfl|d
  . exact j
  . exact m v d
 | [],_::_,h,_=>h.elim
 |_::_,[],h,_=>h.elim
theorem Ug(r:TK)(c:Ap r=true)(ae)(hi:ItemsAre (optKind P w) r ae):∃f,ae[0]? =some f/\Looks (model P w) h (typeOf f) (.type "int"):=by
 unfold Ap at c;split at c
 . cases hi with
   |cons a b=>obtain⟨t,rfl⟩:=BH a;exact⟨_,rfl,Looks.of_pure rfl⟩
 . cases c
theorem Ue(r:TK)(c:Aq r=true)(ae)(hi:ItemsAre (optKind P w) r ae):∃f,ae[0]? =some f/\Looks (model P w) h (typeOf f) (.type "str"):=by
 unfold Aq at c;split at c
 . cases hi with
   |cons a b=>obtain⟨t,rfl⟩:=B2 a;exact⟨_,rfl,Looks.of_pure rfl⟩
 . cases c
noncomputable def y8 (a:List TK)(i:Nat):ia.α:=a.getD i []
theorem UG{s:Shared}{h0:Heap}{a:Addr}{vs:au}(J:h0.get? a=none)(O:∀b o,h0.get? b=some o->s.heap.get? b=some o)(r:bV P w h0 rows vs)(h:qL rows=true)(Y:2<=vs.length):DO P w A s a vs (y8 rows):=by
 intro g M;have N:∀b o,h0.get? b=some o->g.get? b=some o:=λb o e=>M b o (λz=>by rw[z,J]at e;cases e) (O b o e)
 have f:=r.keep N;unfold qL at h;rw[bj,Bool.or_eq_true]at h;obtain⟨d,c⟩:=h;refine⟨tuples' true,λQ U q=>?_,λi j C hi Z q=>?_⟩
 . rcases d with d|d
   . obtain⟨I,m,L,n⟩:=heads (T:=.type "int") Ug f d
     exact kat_kind (s:={ s with heap:=g }) m ∅ n ⋯ q
   . obtain⟨I,m,L,n⟩:=heads (T:=.type "str") Ue f d
     exact kat_kind (s:={ s with heap:=g }) m ∅ n ⋯ q
 . have hl:=f.len
   obtain⟨x,ix,e1,⟨o1,v,W,n1,D⟩,t⟩:=f.at (i:=i) ∅
   obtain⟨y,iy,H,⟨o2,E,X,n2,F⟩,u⟩:=f.at (i:=j) ∅
   unfold kas_ask;rw[e1,H];have Q:rows.getD i []∈rows:=by rw[List.getD_eq_getElem?_getD,List.getElem?_eq_getElem ∅];exact List.getElem_mem _
   have R:rows.getD j []∈rows:=by rw[List.getD_eq_getElem?_getD,List.getElem?_eq_getElem ∅];exact List.getElem_mem _
   have len:∀{k:TK} {l:au},ItemsAre (optKind P w) k l->k.length=l.length:=λz=>by induction z<;>simp_all
   refine kat_lt (s:={ s with heap:=g }) v D E F (RJ rfl t u (fx.mp (fx.mp c _ Q) _ R) (by rw[len t,len u,Array.length_toList,Array.length_toList]) q)
end
section
variable {K:ah}{H:Hp}
theorem Ht{e:V}:∀{xs:LR} {ws:LV} {i:Nat},aa K H xs ws->i<xs.length->Rep K H (xs.getD i d) (ws.getD i e)
 |x::xs,ws,i,h,hi=>by
  obtain⟨v,r,rfl,a,b⟩:=(by simpa only[aa]using h:∃v r,ws=v::r/\Rep K H x v/\aa K H xs r)
  cases i with
  |zero=>simpa using a
  |succ i=>simpa using Ht (d:=d) (e:=e) (i:=i) b (by simpa using hi)
 | [],_,_,_,hi=>aU hi (ue _)
theorem HM{e:Value}:∀{b:LV} {vs:au} {i:Nat},Vals b vs->i<b.length->RelV (b.getD i d) (vs.getD i e)
 |_,_,0,.cons a _,_=>by simpa using a
 |_,_,i+1,.cons _ r,hi=>by simpa using HM (d:=d) (e:=e) (i:=i) r (by simpa using hi)
theorem Hr{e:V}(h:aa K H xs ws):∀{q:List Nat},(∀i∈q,i<xs.length)->aa K H (q.map λi=>xs.getD i d) (q.map λi=>ws.getD i e)
 | [],_=>aa.nil
 |i::q,hq=>aa.cons (Ht h (hq i (.head _))) (Hr h λj a=>hq j (.tail _ a))
theorem HL{e:Value}{vs:au}(h:Vals ws vs):∀{q:List Nat},(∀i∈q,i<ws.length)->Vals (q.map λi=>ws.getD i d) (q.map λi=>vs.getD i e)
 | [],_=>.nil
 |i::q,hq=>.cons (HM h (hq i (.head _))) (HL h λj a=>hq j (.tail _ a))
theorem Ut{xs:List α}{p:Array Nat}(a:Ar xs.length p):(p.toList.map λi=>xs.getD i d).Perm xs:=by
 have e:(List.range xs.length).map (λi=>xs.getD i d)=xs:=by
  apply List.ext_getElem
  . simp
  . intro i c b;simp[b]
 exact(a.pm.map _).trans (List.Perm.of_eq e)
theorem Tg{b:List TK}{p:Array Nat}(a:Ar b.length p)(s:SU (y8 b) p b.length):(p.toList.map λi=>b.getD i [])=l9 b:=by
 refine Vw (Ut a) (List.pairwise_iff_getElem.mpr λi j hi f d=>?_)
 have c:j<p.size:=by simpa using f
 have:=s i j (mJ d) (by rw[<-a.sz];exact c)
 unfold ky y8 at this;unfold iV;rw[i9];simp only[List.getElem_map,Array.getElem_toList];have e1:p.getD i 0=p[i]'∅:=by simp[Array.getD,show i<p.size by lia]
 have e:p.getD j 0=p[j]:=by simp[Array.getD,c]
 rw[e1,e]at this;exact this
theorem Iz{s:Shared}(I:Inv X pins σ H s):∀{xs:LR} {rows:List TK} {ws:LV} {vs:au},rowsOf xs=some rows->aa X.K H xs ws->Vals ws vs->bV X.prog X.w s.heap rows vs
 | [],rows,ws,vs,e,r,v=>by
  cases e;simp only[aa]at r;subst r;cases v;exact trivial
 |x::xs,rows,ws,vs,e,r,v=>by
  unfold rowsOf at e;split at e
  . rename_i k ks e1 c
    cases e;obtain⟨y,t,rfl,d,f⟩:=(by simpa only[aa]using r:∃v r,ws=v::r/\Rep X.K H x v/\aa X.K H xs r)
    cases v with
    |cons a b=>
    refine⟨?_,Iz I c f b⟩;cases x<;>first|(cases e1;done)|skip
    rename_i rs;obtain⟨p,us,rfl,g,h⟩:=d;obtain⟨ae,j,i,l⟩:=I.tuple (bS.of g);exact⟨p,ae.toArray,a,i,by simpa using Bp e1 h j⟩
  . cases e
end
def rm(xs:LR)(M:RM)(Q:ak):Prop:=match rowsOf xs with
 |some rows=>rows.length<64/\qL rows=true/\Q (.ls ((l9 rows).map cV)) M
 |none=>False
noncomputable def vb:LR->RM->ak->Prop:=λrs M Q=>match rs with
 | [.ref a]=>match M a with
  |some (.lst xs)=>rm xs M Q
  |_=>Kl rs M Q
 | [.ls xs]=>rm xs M Q
 |_=>False
section
variable {X:Cx}
theorem I0{s:Shared}{l:Addr}{vs:au}(I:Inv X pins σ H s)(hv:View X.K H M)(hl:zS X.prog X.w X.A.in1 X.xe s l vs)(hw:Vals ws vs)(hr:aa X.K H xs ws)(hq:rm xs M Q)(hk:iN X.K H Q Q0):
 wpAny (model X.prog X.w) X.A (call (.builtin "sorted") [.ref l]) (EP X pins σ Q0) X.xe s:=by
 unfold rm at hq;split at hq
 . rename_i rows er
   obtain⟨h64,av,hq⟩:=hq;have rr:=Iz I er hr hw;have ln:=rr.len;have ex:=GY er;have l1:xs.length=rows.length:=by rw[ex,aW]
   have l2:ws.length=vs.length:=hw.length;refine Te (f:=y8 rows) hl (by rw[<-ln];exact h64) (λh2 a g tk ha kp=>UG (s:={ s with heap:=g,toks:=tk }) ha kp rr av h2) λB h' tk e p kp hB hget ar su=>?_
   rw[<-ln]at ar su;have hn:=none_of I hB;have inr:∀i∈p.toList,i<rows.length:=λi hi=>jv.mp (ar.pm.mem_iff.mp hi)
   have zz:rows.length<=sizeLine:=bQ (mJ h64) ⋯
   have fin:(p.toList.map λi=>xs.getD i (cV []))=(l9 rows).map cV:=by
    rw[<-Tg ar su,bp,ex];refine jx λi hi=>?_
    have:=inr i hi;simp[this]
   refine frozen ⟨.ref B,upd H B (.lst (p.toList.map λi=>ws.getD i V.aw)),LP (t':=tk) I kp hB ⟨by rw[aW,Array.length_toList,ar.sz];exact zz,nt vs p,e,HL hw λi hi=>?_,hget⟩,rfl,H,B,_,rfl,hn,rfl,λo=>?_⟩
   . rw[l2,<-ln];exact inr i hi
   . rw[<-fin]at hq
     exact hk _ M _ _ hq (Ext.new hn) (hv.new hn) (kh hn (Hr hr λi hi=>by rw[l1];exact inr i hi))
 . exact hq.elim
theorem Zn(z:X.calm=true):cU X (.builtin "sorted") (eS X.K vb):=by
 rintro d s F H D us t I l ⟨rs,M,Q,m,e,b,j⟩;unfold vb at b;split at b
 . rename_i a
   split at b
   . rename_i E w
     obtain⟨v,r,rfl,rfl,rfl⟩:=m;obtain⟨u,rfl,ru⟩:=vals1 l;cases ru;obtain⟨_,x,C,rfl,i⟩:=e a _ w;obtain⟨ae,c,⟨o,n,f,g,y,h⟩,k⟩:=I.list (.inl (.inl x));exact I0 I e (Im ⟨o,f,g,n,h⟩ (by rw[<-c.length];exact k)) c i b j
   . exact VX z d s F H D us t I l ⟨_,M,Q,m,e,b,j⟩
 . rename_i E
   obtain⟨v,r,rfl,⟨a,C,rfl,A,i⟩,rfl⟩:=m;obtain⟨u,rfl,ru⟩:=vals1 l;cases ru;obtain⟨ae,c,⟨o,n,f,g,y,h⟩,k⟩:=I.list A.sq;exact I0 I e (Im ⟨o,f,g,n,h⟩ (by rw[<-c.length];exact k)) c i b j
 . exact b.elim
end
section
variable {X:Cx}
def OI:LR->RM->ak->Prop:=λrs M Q=>∃a:List Bool,rs= [.ls (a.map RV.bl)]/\Q (.bl (a.any id)) M
theorem range_any(bs:List Bool):(List.range bs.length).any (λi=>bs.getD i true)=bs.any id:=by
 induction bs with
 |nil=>rfl
 |cons b bs ih=>
  rw[bW,List.range_succ_eq_map,kN,List.any_map,kN];have:((λi=>(b::bs).getD i true) ∘ Nat.succ)=λi=>bs.getD i true:=by funext i;rfl
  rw[this,ih];rfl
theorem V3(N:X.calm=true):cU X (.builtin "any") (eS X.K OI):=by
 rintro d s r H xs us Q0 I W ⟨rs,M,Q,Y,U,⟨f,rfl,R⟩,O⟩;obtain⟨v,rfl,r1⟩:=Y.one;obtain⟨a,vs,rfl,F,J⟩:=r1;have:=B0 J;subst this;obtain⟨u,rfl,ru⟩:=W.one;cases ru;obtain⟨ae,rv,p,hz⟩:=I.list F.sq;have:=BW rv;subst this;have l:a<s.heap.objs.size:=by obtain⟨o,n,e,_⟩:=p;exact bB e
 refine call_any_walk (wpAny_pyIter_list p.isList ?_);have hd:X.A.in1.handled=none:=I.ok.hd N;refine⟨s.heap.objs.size,_,_,_,_,_,λi=>f.getD i true,rfl,Walks.list hd s.heap.objs.size a (cE l) (f.map Value.bool).toArray,⟨⟨_,c0 _ rfl,rfl,rfl⟩,p.isList.push _⟩,?_,?_⟩
 . intro i v Z x E' L h
   have c:(f.map Value.bool)[i]? =some v:=by simpa using L
   rw[fR]at c;cases e:f[i]? with
   |none=>rw[e]at c;cases c
   |some b=>
    rw[e]at c;have j:f.getD i true=b:=by rw[List.getD_eq_getElem?_getD,e];rfl
    cases c;have g:x (f.getD i true) Z:=h;rw[j]at g;exact jW g
 . intro h' m k
   have t:Inv X d r H { s with heap:=s.heap.push { cls:=.type "list_iterator",data:=.fields #[.ref a,.int 0 0] } }:=I.kept (t':=s.toks) λb o e=>bx _ e
   obtain⟨y,A,f2,C,D,E⟩:=I.gv (aD _) (I.av.fresh (aD _));have w:Inv X d r H { s with heap:=h',toks:=m }:=by
    have z:=t.turned (h':=h') (t':=m) (it:=s.heap.objs.size) (λb o j e=>k b o (by simpa using j) e) y A C D E
    exact z
   refine⟨.bl (f.any id),H,w,?_,O.now R U rfl⟩;show _=_;rw[<-range_any];simp
theorem ZL:bootBuiltins "any" =some (.builtin "any"):=by decide+kernel
variable {tg:Expr}{pos:Pos}
end
section
variable {prog:Program}{w:World}{A:Around}{s:Shared}{E:aK}
structure yV(v:Str)(params:Arguments)(scope:Scope):Prop where
 bd:∀name qual body pm cd ct u,bindArgs (kla_fn name qual params body scope [] pm cd ct) ⟨[u],[]⟩=pure [(v,u)]
 loc:scope.names.lookup v=some .local
 cell:∀y∈scope.names,y.2≠.cell
 co:scope.isCoroutine=false
 gen:scope.isGenerator=false
 kind:scope.kind= .function
 jE:(v==("__debug__":Str))=false
theorem dJ.kp{h h':Heap}{x a C:Addr}(O:dJ h x a C mA)(k:∀b o,h.get? b=some o->h'.get? b=some o):dJ h' x a C mA:=
 let⟨o,es,ep,ho,r⟩:=O.ns;⟨k _ _ O.obj,⟨o,es,ep,k _ _ ho,r⟩,O.ne⟩
theorem WS{K:Frag}{f c' x C dx:Addr}{name qual v fld:Str}{p1 p2:Pos}{Q:aK}
 (hroom:A.depth<recursionLimit) (iU:K.In s.heap) (lim:s.heap.NoLimit) (L:yV v params scope)
 (ho:s.heap.get? f=some (kla_obj name qual params (.Attribute (.Name v p1) fld p2) scope [] pm c' ctv)) (hcd:s.heap.CodeRec (.ref c') qual)
 (O:dJ s.heap x dx C mA) (c:cQ K C) (n:aR K C fld) (hu:mA fld=some u) (hh:handedIn u=true)
 (h:∀h' tk,(∀b o,s.heap.get? b=some o->h'.get? b=some o)->Q u { s with heap:=h',toks:=tk }):
 wpAny (model prog w) A (call (.ref f) [.ref x]) Q E s:=by
 refine wpAny_call (kla_callFunE hroom ho rfl L.co L.gen rfl hcd ?_);rw[L.bd];refine aC (wpAny_newFunctionEnv L.cell (λy hy=>by cases eG.mp hy;exact L.loc) (λh₁ hns hsb=>⟨lim.fresh _ hsb,kla_codeExpr ?_⟩) L.kind)
 have kp:∀b o,s.heap.get? b=some o->h₁.get? b=some o:=λb o e=>hsb.extBut b o (cE (bB e)) (bx _ e)
 refine JF rfl (wpAny_Name (wpAny_loadName_local (v:=Value.ref x) L.kind (show _=_ from L.loc) hns (by simp) ?_) L.jE)
 refine get_map (K:=K) (iU.keeps kp) (dJ.kp O kp) (c.get fld) c.hd n hu hh ?_;exact h _ _ kp
end
section
variable {X:Cx}{pins:aF}{σ:L2.St}{H:Hp}{s:Shared}{h':Heap}
theorem quX{l f c' C:Addr}{name M v w:Str}{p1 p2:Pos}{as:List Addr}{ks:List Int}(I:Inv X pins σ H s)
 (hl:s.heap.IsList l (as.map Value.ref).toArray) (Z:ks.length=as.length) (h64:as.length<64) (hi:∀(i:Nat) a k,as[i]? =some a->ks[i]? =some k->∃dx fs,H a=some (.ins C dx fs)/\fs.lookup w=some (.int k))
 (R:X.A.depth<recursionLimit) (L:yV v params scope) (ho:s.heap.get? f=some (kla_obj name M params (.Attribute (.Name v p1) w p2) scope [] pm c' ctv)) (hcd:s.heap.CodeRec (.ref c') M)
 (c:cQ X.K C) (n:aR X.K C w)
 (h:∀D h' tk y j,(∀m,s.heap.Ns X.env.locals m->h'.Ns X.env.locals m)->(∀b o,b≠X.env.locals->s.heap.get? b=some o->h'.get? b=some o)->s.heap.get? D=none->D≠X.env.locals->h'.get? D=some (seqObj "list" y j)->KskOut false ks (as.map Value.ref) y.toList->Q (.ref D) { s with heap:=h',toks:=tk }):
 wpAny (model X.prog X.w) X.A (call (.builtin "sorted") [.ref l] [(Str.ofString "key",.ref f)]) Q E s:=by
 obtain⟨m,F⟩:=I.fr;have nL:∀b,(∃m',s.heap.Ns X.env.locals m')->b=X.env.locals->∀o,s.heap.get? b=some o->∃N j,o.data= .dict N j:=λb ⟨m',o',N,j,q,d,_⟩ e o z=>by
  rw[e,q]at z;cases z;exact⟨N,j,d⟩
 have fL:f≠X.env.locals:=λe=>by obtain⟨_,_,d⟩:=nL f ⟨m,F.ns⟩ e _ ho;cases d
 have ho':=ho;obtain⟨c1,oc,vc,tc,ec,gc,dc,qc⟩:=hcd;cases ec;have cL:c'≠X.env.locals:=λe=>by obtain⟨_,_,d⟩:=nL c' ⟨m,F.ns⟩ e _ gc;rw[dc]at d;cases d
 have aL:∀b u,H b=some u->b≠X.env.locals:=λb u e z=>by rw[z,I.free]at e;cases e
 refine ksk_sorted (h₀:=X.base) (news:=rest X.base s.heap X.env.locals s.heap.objs.size) (kz:=ks) (f:=.ref f) F (λp A=>Vj p (cb.mp A).1) hl (by rw[aW];exact Z) (by rw[aW];exact h64) (ksk_s1 _ _) (λx=>ksk_l1 _ _) (λx=>ksk_t1 f x) ?turn ?fin
 case turn=>
  intro i v' k hv hk W tk own J U;rw[fR]at hv;cases ea:as[i]? with
  |none=>rw[ea]at hv;cases hv
  |some a=>
   rw[ea]at hv;cases hv;obtain⟨dx,fs,e1,e2⟩:=hi i a k ea hk;have Y:∀b o,b≠X.env.locals->s.heap.get? b=some o->W.get? b=some o:=λb o hb e=>GU (d:=s.heap.objs.size) I.bk J (λp A=>U p (zN _ A)) b o hb (cE (bB e)) e
   obtain⟨mA,O,r,_,_,hdx⟩:=yz I.av e1;obtain⟨u,hu,ru⟩:=bM.some_of (v:=V.int k) (o:=mA w) (by rw[<-e2];exact r w)
   obtain⟨t,rfl⟩:=(show ∃t,u=Value.int k t from ru)
   obtain⟨od,N,j,g1,g2⟩:=O.ns;have O1:dJ W a dx C mA:=⟨Y _ _ (aL a _ e1) O.obj,⟨od,N,j,Y _ _ (aL dx _ hdx) g1,g2⟩,O.ne⟩;refine WS (K:=X.K) (s:={ s with heap:=W,toks:=tk }) R (I.ok.mod.iU.keeps J.keep) (I.ok.mod.nolimit.keeps J.keep) L (Y _ _ fL ho') ⟨c',oc,vc,tc,rfl,Y _ _ cL gc,dc,qc⟩ O1 c n hu rfl λh2 tk2 k2=>?_
   exact KskEnd.intro ⟨(by obtain⟨o,N,j,g,r⟩:=J.ns;exact⟨o,N,j,k2 _ _ g,r⟩),λb o e=>k2 b o (J.keep b o e),J.above⟩ (λp A=>⟨k2 _ _ (U p A).1,(U p A).2⟩) λp A=>A
 case fin=>
  intro D W tk y j J U lt ko;have Y:∀b o,b≠X.env.locals->s.heap.get? b=some o->W.get? b=some o:=λb o hb e=>GU (d:=s.heap.objs.size) I.bk J (λp A=>U p (.tail _ A)) b o hb (cE (bB e)) e
  have hD:=U (D,seqObj "list" y j) (.head _);refine h D W tk y j (λm' hm'=>by rw[hm'.eq_nsMap,<-F.ns.eq_nsMap];exact J.ns) Y ?_ hD.2.1 hD.1 ko
  cases q:s.heap.get? D with
  |none=>rfl
  |some o=>exact aU (lt _ (IS hD.2.1 hD.2.2 q (cE (bB q)))) (j5 _)
end
theorem B6{P:Program}{a:Addr}{x:Option Addr}(e:gg a pos x h):aB P w H h a (.ext (gg a pos x)):=⟨e,⟨_,e⟩,λ_ _ e k=>k _ e⟩
section
variable {X:Cx}{pins:aF}{σ:L2.St}{H:Hp}{s:Shared}{P c c':Addr}{pos:Pos}{h':Heap}{u:HO}{oc:Obj}
theorem Inv.rM(I:Inv X pins σ H s)(h:H P=some (.ext (gg P pos none)))(k:∀b o,b≠P->s.heap.get? b=some o->h'.get? b=some o)(j:s.heap.objs.size<=c')(f:h'.get? c'=some oc)(m:gg P pos (some c') h'):
 Inv X pins σ (upd (upd H P (.ext (gg P pos (some c')))) c' (.aX oc (.own c'))) { s with heap:=h',toks:=t' }:=by
 have l:H c'=none:=I.av.fresh j;have cP:c'≠P:=cx (fh h l);have i:∀b,H b=none->b≠P:=λb n z=>by rw[z,h]at n;cases n
 have t:∀b o,s.heap.get? b=some o->b≠c':=λb o e=>cE (fA (bB e) j)
 have g:∀b u,H b=some u->b≠P->upd (upd H P (.ext (gg P pos (some c')))) c' (.aX oc (.own c')) b=some u:=λb u e z=>by rw[aZ (fh e l),aZ z];exact e
 have a:∀b u,H b=some u->u≠.ext (gg P pos none)->b≠P:=λb u e z y=>by subst y;rw[h]at e;exact z (eV e).symm
 refine I.un ⟨λb o e n _ _=>k b o (i b n) e,λb o e n _ _=>⟨o.slots,k b o (i b n) e⟩,λb o e n _=>(aZ (t b o e)).trans ((aZ (i b n)).trans n),λb o e _=>?_,λb w e=>g b _ e (a b _ e nofun),λb o u e=>g b _ e (a b _ e nofun),λb x e=>⟨#[],(g b _ e (a b _ e nofun)).trans (by simp)⟩⟩ λb u e=>?_
 . by_cases z:b=P
   . exact⟨_,z ▸ m⟩
   . exact⟨o,k b o z e⟩
 . by_cases z:b=c'
   . subst z;rw[ej]at e;cases e;exact⟨f,_,f⟩
   . rw[aZ z]at e
     by_cases y:b=P
     . subst y;rw[ej]at e;cases e;exact B6 m
     . rw[aZ y]at e
       refine(I.av b u e).fu (λd v r q=>k d v ?_ q) (λd q=>g d _ q (a d _ q nofun)) λd w q=>g d _ q (a d _ q nofun)
       obtain rfl|q:=r
       . exact y
       . exact a d _ q nofun
theorem Vr{q:Str}{body:Expr}{Q:aK}(I:Inv X pins σ H s)(hP:H P=some ho)(r:bC X.K H (.tb P pos q) ho)
 (hcode:X.env.code= .ref c) (C:CodeHd X.base c P) (hb:X.base.BuiltinsAt X.mg P) (hgP:mainGlobals≠P) (hdef:defaultsOf params X.env=([],[])) (hcl:closureFor scope X.env=pure []) (hq:X.env.qual++("<lambda>":Str)=q)
 (h:∀f c' ctv h' tk H',Inv X pins σ H' { s with heap:=h',toks:=tk }->Ext H H'->(∀b u,H b=some u->b≠P->H' b=some u)->(∃ho',H' P=some ho'/\bC X.K H' (.tb P pos q) ho')->
  h'.get? f=some (kla_obj "<lambda>" q params body scope [] ((X.mg "__name__").getD .none) c' ctv)->h'.CodeRec (.ref c') q->Q (.ref f) { s with heap:=h',toks:=tk }):
 wpAny M A (eval (.Lambda params body scope pos) X.env) Q E s:=by
 subst hq;have hg:s.heap.Ns mainGlobals X.mg:=by obtain⟨o,es,ep,e,z⟩:=I.ok.mod.glob;exact⟨o,es,ep,I.bk _ _ e,z⟩
 have hb':s.heap.BuiltinsAt X.mg P:=by obtain⟨bm,o,b1,b2,b3,b4,b5,b6⟩:=hb;exact⟨bm,o,b1,b2,b3,b4,I.bk _ _ b5,b6⟩
 refine kla_eval hdef ?_;rcases r with rfl|⟨c',oc,vs,t,rfl,hc',hd,hv⟩
 . have ht:gg P pos none s.heap:=(I.av P _ hP).1
   refine kla_makeFunction (mg:=X.mg) (clos:=[]) (ps:=#[]) hcl I.ok.glob hg hcode (C.keeps I.bk) ht (by first|trivial|decide|simp[TriplesOk]) rfl hgP hb' λc' ctv h1 tk hx hge hlt hrec htb=>?_
   obtain⟨c2,oc,vs,t,e2,hoc,hd,hv⟩:=hrec;cases e2;have I':=R.Inv.rM (t':=tk) (h':=h1.push (kla_obj "<lambda>" (X.env.qual++("<lambda>":Str)) params body scope [] ((X.mg "__name__").getD .none) c' ctv)) (c':=c') (oc:=oc) I hP (λb o hb e=>bx _ (hx b o hb e)) hge (bx _ hoc) (bx _ htb)
   have hn:H c'=none:=I.av.fresh hge;have cP:c'≠P:=cx (fh hP hn);have kp:∀b u,H b=some u->b≠P->upd (upd H P (.ext (gg P pos (some c')))) c' (.aX oc (.own c')) b=some u:=λb u e z=>by rw[aZ (fh e hn),aZ z];exact e
   have np:∀b u,H b=some u->u≠.ext (gg P pos none)->b≠P:=λb u e z y=>by subst y;rw[hP]at e;exact z (eV e).symm
   refine h _ c' ctv _ tk _ I' ⟨λb xs e=>kp b _ e (np b _ e nofun),λb o u e=>kp b _ e (np b _ e nofun)⟩ kp ⟨_,by rw[aZ (cx cP)];exact ej,.inr ⟨c',oc,vs,t,rfl,ej,hd,hv⟩⟩ (c0 _ rfl) ⟨c',oc,vs,t,rfl,bx _ hoc,hd,hv⟩
 . have ht:gg P pos (some c') s.heap:=(I.av P _ hP).1
   have hoc:s.heap.get? c'=some oc:=(I.av c' _ hc').1;refine kla_makeFunctionHit (mg:=X.mg) (clos:=[]) (ps:=#[rawInt pos.line,rawInt pos.col,.ref c']) (cv:=.ref c') hcl I.ok.glob hg hcode (C.keeps I.bk) ht (by first|trivial|decide|simp[TriplesOk]) (by simp[codeAmong,rawInt]) hb' λctv h1 tk hk hsz=>?_
   exact h _ c' ctv _ tk H (I.kept (t':=tk) λb o e=>bx _ (hk b o e)) (.refl H) (λb u e _=>e) ⟨_,hP,.inr ⟨c',oc,vs,t,rfl,hc',hd,hv⟩⟩ (c0 _ rfl) ⟨c',oc,vs,t,rfl,bx _ (hk _ _ hoc),hd,hv⟩
end
theorem Jf{K:Frag}:∀{as:List Addr} {vs:LV},aa K H (as.map RV.ref) vs->vs=as.map V.ref
 | [],_,h=>by simpa only[ui,aa]using h
 |a::as,vs,h=>by
  simp only[bX,aa,Rep]at h;obtain⟨v,r,rfl,rfl,b⟩:=h;rw[Jf b];rfl
theorem HQ:∀{as:List Addr} {us:au},Vals (as.map V.ref) us->us=as.map Value.ref
 | [],_,h=>by rw[ui]at h;cases h;rfl
 |a::as,_,h=>by
  rw[bX]at h;cases h with
  |cons r t=>rw[HQ t];cases(show _=Value.ref a from r);rfl
theorem ID{K:Frag}:∀{as:List Addr},aa K H (as.map RV.ref) (as.map V.ref)
 | []=>aa.nil
 |a::as=>aa.cons rfl ID
theorem Hz:∀{as:List Addr},Vals (as.map V.ref) (as.map Value.ref)
 | []=>.nil
 |a::as=>.cons rfl Hz
noncomputable def adr:Value->Addr
 | .ref a=>a
 |_=>0
theorem Yz{c:List (Int×Addr)}(h:KskOut false (c.map Prod.fst) ((c.map Prod.snd).map Value.ref) out):∃g:List (Int×Addr),g.Perm c/\g.Pairwise (λa b=>a.1<=b.1)/\out=(g.map Prod.snd).map Value.ref:=by
 obtain⟨d,f,rfl,j⟩:=h;have e:(c.map Prod.fst).zip ((c.map Prod.snd).map Value.ref)=c.map λz=>(z.1,Value.ref z.2):=by rw[bp,List.zip_map'];rfl
 rw[e]at f;have i:∀p∈d,p=(p.1,Value.ref (adr p.2)):=λp h=>by
  obtain⟨z,_,rfl⟩:=aA.mp (f.mem_iff.mp h);rfl
 have k:d=(d.map λp=>(p.1,adr p.2)).map λz=>(z.1,Value.ref z.2):=by
  rw[bp];exact(List.map_id d).symm.trans (jx λp h=>i p h)
 refine⟨d.map λp=>(p.1,adr p.2),?_,?_,?_⟩
 . have:=f.map λp=>(p.1,adr p.2)
   rwa [bp,show((λp:Int×Value=>(p.1,adr p.2)) ∘ λz:Int×Addr=>(z.1,Value.ref z.2))=id from rfl,List.map_id]at this
 . rw[nR];exact j
 . conv=>lhs;rw[k]
   rw[bp,bp,bp,bp];rfl
section
variable {X:Cx}{pins:aF}{σ:L2.St}{H:Hp}{s:Shared}{h':Heap}{D:Addr}{o:HO}
theorem Inv.uH(I:Inv X pins σ H s)(k:∀b o,b≠X.env.locals->s.heap.get? b=some o->h'.get? b=some o)(ns:∀m,s.heap.Ns X.env.locals m->h'.Ns X.env.locals m)(i:s.heap.get? D=none)(h:aB X.prog X.w (upd H D o) h' D o):Inv X pins σ (upd H D o) { s with heap:=h',toks:=t' }:=by
 have g:=none_of I i;have j:∀b u,H b=some u->b≠X.env.locals:=λb u e z=>by rw[z,I.free]at e;cases e
 have d:∀b u,H b=some u->upd H D o b=some u:=λb u e=>(aZ (fh e g)).trans e
 refine I.step (g':=s.gens) (d':=s.drawn) (ch:=[]) (λ_ z=>nomatch z) (λb o f _ _ e _=>k b o f e) (λb o f _ _ e _=>⟨o.slots,k b o f e⟩) (λb q _ e n=>(aZ λz=>by rw[z,i]at e;cases e).trans n) (λb o _ e=>?_) (λb _ e=>d b _ e) (λb _ _ e=>d b _ e) (λb t e=>⟨#[],(d b _ e).trans (by simp)⟩) ns (λb u e=>?_) I.bare
 . by_cases a:b=X.env.locals
   . obtain⟨m,g,_⟩:=I.loc
     obtain⟨r,_,_,q,_⟩:=ns m g;exact⟨r,a ▸ q⟩
   . exact⟨o,k b o a e⟩
 . by_cases a:b=D
   . subst a;rw[ej]at e;cases e;exact h
   . rw[aZ a]at e
     refine(I.av b u e).fu (λc v l q=>k c v ?_ q) (λc q=>d c _ q) λc w q=>d c _ q
     rcases l with z|z
     . rw[z];exact j b u e
     . exact j c _ z
end
noncomputable def Aw (C:Addr)(d:Str)(P:Addr)(lp:Pos)(q:Str)(Q:ak):ak:=λx M=>∃c:List (Int×Addr),
 (x= .ls ((c.map Prod.snd).map RV.ref)∨∃a,x= .ref a/\M a=some (.lst ((c.map Prod.snd).map RV.ref)))/\(∀z∈c,∃f,M z.2=some (.ins C f)/\f.lookup d=some (.int z.1))/\c.length<64/\M P=some (.tb P lp q)/\
 ∀e:List (Int×Addr),e.Perm c->e.Pairwise (λa b=>a.1<=b.1)->Q (.ls ((e.map Prod.snd).map RV.ref)) M
def PD(C:Addr)(fld:Str)(P:Addr)(lp:Pos)(q:Str)(te:aq):aq:=λσ M Q=>te σ M (Aw C fld P lp q Q)
section
variable {X:Cx}{e:Expr}{te:aq}{p p1 p2 kp lp pos:Pos}{v fld q:Str}{params:Arguments}{scope:Scope}{C P cc:Addr}
theorem XS(he:aj X e te)(hm:X.mg "sorted" =none)(hg:Gl X "sorted")(c:cQ X.K C)(n:aR X.K C fld)(L:yV v params scope)(j:X.A.depth<recursionLimit)
 (g:X.env.code= .ref cc) (CH:CodeHd X.base cc P) (hb:X.base.BuiltinsAt X.mg P) (hgP:mainGlobals≠P) (A:defaultsOf params X.env=([],[])) (hcl:closureFor scope X.env=pure []) (hq:X.env.qual++("<lambda>":Str)=q)
 (s1:starEach [e] X.env=(false,eval e X.env)::starEach [] X.env):aj X (.Call (.Name "sorted" p) [e] [⟨some "key",.Lambda params (.Attribute (.Name v p1) fld p2) scope lp,kp⟩] pos) (PD C fld P lp q te):=by
 rintro J s σ0 H Q0 I ⟨σ,M,Q,hs,hv,ht,hk⟩;have bt:bootBuiltins "sorted" =some (.builtin "sorted"):=by decide+kernel
 refine wpAny_Call_Name_kw (ng I hg hm bt ?_);have W:backTo pos (starEach [e] X.env)=(false,eval e X.env)::backTo pos (starEach [] X.env):=by rw[s1];rfl
 refine PyProof.Rows.callWith_kw ?_ W (by rw[W];rfl)
 rw[W];refine Calls.spliced_cons (ay (he J s σ0 H (λv H1=>∃x M1,Aw C fld P lp q Q x M1/\Ext H H1/\View X.K H1 M1/\Rep X.K H1 x v) I ⟨σ,M,_,hs,hv,ht,λrv M' v H' q e w r=>⟨rv,M',q,e,w,r⟩⟩) λu s1 ⟨v1,H1,I1,r1,x,M1,⟨kx,hx,hi,h64,hP,hQ⟩,ex1,w1,rep⟩=>Calls.spliced_nil ?_)
 show wpAny _ _ (evalAll [do let v<-eval (.Lambda params (.Attribute (.Name v p1) fld p2) scope lp) X.env;standAt pos;pure v]) _ _ _
 obtain⟨ho,eP,rP⟩:=w1 P _ hP;refine wpAny_evalAll_cons (ai (Vr I1 eP rP g CH hb hgP A hcl hq λf c' ctv h2 tk t N d m ⟨ho2,eP2,rP2⟩ hof hcd=>ai (wpAny_standAt (aC (wpAny_evalAll_nil ?_)))))
 have nP:∀b u,H1 b=some u->(∀φ,u≠.ext φ)->b≠P:=λb u e z y=>by
  subst y;rw[eP]at e;cases e;rcases rP with rfl|⟨_,_,_,_,rfl,_⟩<;>exact z _ rfl
 have w2:View X.K t M1:=λa o e=>by
  by_cases ha:a=P
  . subst ha;rw[hP]at e;cases e;exact⟨ho2,eP2,rP2⟩
  . obtain⟨h,e1,r'⟩:=w1 a o e
    exact⟨h,m a _ e1 ha,r'.ext d⟩
 have lst:∃l,u= .ref l/\h2.IsList l ((kx.map Prod.snd).map Value.ref).toArray:=by
  have fin:∀l vs,c7 X.K t l vs->aa X.K t ((kx.map Prod.snd).map RV.ref) vs->v1= .ref l->∃l,u= .ref l/\h2.IsList l ((kx.map Prod.snd).map Value.ref).toArray:=λl vs hs F ev=>by
   subst ev;cases r1;obtain⟨ae,U,⟨o,n,O,g2,g3,g4⟩,hz⟩:=N.list hs;rw[Jf F]at U;rw[HQ U]at g4;exact⟨l,rfl,o,O,g2,n,g4⟩
  rcases hx with rfl|⟨a,rfl,ea⟩
  . obtain⟨a,vs,ev,hf,F⟩:=rep
    exact fin a vs (hf.ext d).sq (aa.ext d _ _ F) ev
  . obtain⟨h,e1,vs,rfl,F⟩:=w1 a _ ea
    exact fin a vs (.inl (.inl (m a _ e1 (nP a _ e1 nofun)))) (aa.ext d _ _ F) rep
 obtain⟨l,rfl,hl⟩:=lst;show wpAny _ _ (call (.builtin "sorted") [.ref l] [(Str.ofString "key",.ref f)]) _ _ _;refine quX (as:=kx.map Prod.snd) (ks:=kx.map Prod.fst) N hl (by rw[aW,aW]) (by rw[aW];exact h64) (λi a k e1 Y=>?_) j L hof hcd c n λD h3 tk3 out ep ns kp3 hD nD E ko=>?_
 . rw[fR]at e1 Y
   cases ez:kx[i]? with
   |none=>rw[ez]at e1;cases e1
   |some z=>
    rw[ez]at e1 Y;cases e1;cases Y;obtain⟨fs,m1,m2⟩:=hi z (jw ez);obtain⟨h,O,dx,gs,rfl,g2⟩:=w1 _ _ m1;obtain⟨u',l1,l2⟩:=xE g2 m2;simp only[Rep]at l2;exact⟨dx,gs,m _ _ O (nP _ _ O nofun),l2 ▸ l1⟩
 . obtain⟨ys,hp,U,eo⟩:=Yz ko
   have R:=none_of N hD;have Z:out=((ys.map Prod.snd).map Value.ref).toArray:=by rw[<-eo]
   subst Z;refine frozen ⟨.ref D,upd t D (.lst ((ys.map Prod.snd).map V.ref)),Inv.uH (t':=tk3) N kp3 ns hD ⟨?_,_,ep,Hz,E⟩,rfl,t,D,_,rfl,R,rfl,λo=>?_⟩
   . rw[aW,aW,hp.length_eq];exact bQ (mJ h64) ⋯
   . exact hk _ M1 _ _ (hQ ys hp U) (ex1.trans (d.trans (Ext.new R))) (w2.new R) (kh R ID)
end
inductive T where
 |v (i:Nat)|i (n:Int)|s (x:Str)|b (x:Bool)|n
 |g (x:Str)|ty (x:String)
 |op (o:Operator) (a b:T)|cm (o:CmpOp) (a b:T)|ch (o p:CmpOp) (a b c:T)
 |an (a b:T)|or (a b:T)|no (a:T)|ie (t a b:T)
 |tu (a:T)|ll (a:T)|lm (a:T)|e0|ec (a r:T)
 |ix (a b:T)|sl (a l h:T)|p0|p1 (a:T)
 |fl (c:Nat) (f:Str) (a:T)
 |ca (f:Nat) (a:T)|me (f:Nat) (o a:T)|mk (c:Nat) (a:T)
 |bf (f:Str) (a:T)|bt (f:Str) (a:T)
 |ap (o a:T)
 |dg (d k:T)|dn (neg:Bool) (k d:T)|d1 (d k:T)|d2 (d k x:T)|dk|dt
 |ic (neg:Bool) (a:T) (x:Str)
 |tx (x:Str) (a:T)|tg (x:Str) (a:T)|tn (x:Str) (a:T)
 |cv (i:Nat) (a:T)
 |cp (md tup:Bool) (nm:az) (cap:List (Nat×Str)) (it t e:T)
 |sc (i:Nat) (md tup:Bool) (nm:az) (cap:List (Nat×Str)) (it t e:T)
 |lr (a b:T)
 |ik (a:T)|iv (a:T)|im (a:T)|lv (md:Bool) (a:T)
 |pr (i j:Nat) (a:T)|af (c:Nat) (f:Str) (o a:T)|dd (d k:T)
 |is (a:T)|r1 (a:T)|st (a:T)
 |set (i:Nat) (a:T)|un (is:List Nat) (a:T)|sf (c:Nat) (f:Str) (o a:T)|dp (d k a:T)|sp (l i a:T)
 |re (a:T)|r0|aG (t a b:T)|fo (tup:Bool) (is:List Nat) (it b:T)|ex (a:T)|ra
 |se (a b:T)|en
 |sk (c:Nat) (f:Str) (a:T)
 |jn (o a:T)
structure FD where
 kind:Nat
 cls:Nat
 name:Str
 ps:az
 N:az
 body:T
structure SI where
 gi:List (Str×Int)
 gt:List (Str×az)
 tb:az
 tt:List (Str×List (TK×Str))
 cl:az
 fs:List (Nat×Str)
 bl:az
 fd:List FD
 ln:az:=[""]
 lp:Pos:=⟨0,0,0,0⟩
 lq:Str:=""
structure G where
 S:SI
 tb:Str->bR
 C:Nat->Addr
 fn:Nat->bU
 mW:Nat->bU
 iQ:List (Addr×bU)
 lP:Addr
def iX:Operator->cJ
 | .Add=>zi| .Sub=>Pg| .Mult=>Pq| .Mod=>Pr| .FloorDiv=>OH| .Pow=>Pk
 |_=>λ_ _ _ _=>False
noncomputable def eO:CmpOp->cJ
 | .Lt=>Pz| .LtE=>Py| .Gt=>Pw| .GtE=>Pu| .Eq=>OG| .NotEq=>Pp| .Is=>Px| .IsNot=>Kn| .In=>vU false| .NotIn=>vU true
noncomputable def Eg:String->RV->Option Bool:=λx=>if x= "int" then KH else if x= "bool" then is_bool else if x= "str" then KG else if x= "tuple" then Ih else if x= "list" then Jr elseλ_=>none
noncomputable def C6:LR->RM->ak->Prop:=λrs M Q=>match rs with
 | [.ref a,.ty "list"]=>match M a with|some (.lst _)=>Q (.bl true) M|_=>False
 | [x,.ty t]=>match Eg t x with|some c=>Q (.bl c) M|none=>False
 |_=>False
noncomputable def CJ:LR->RM->ak->Prop:=λrs M Q=>match rs with
 | [.ref a]=>match M a with
  |some (.lst xs)=>Q (.int xs.length) M
  |some (.dk kvs)=>Q (.int kvs.length) M
  |some (.dt kvs)=>Q (.int kvs.length) M
  |_=>False
 |rs=>zc rs M Q
noncomputable def eY (f:Str):LR->RM->ak->Prop:=
 if f= "len" then CJ else if f= "isinstance" then C6 else if f= "all" then OJ else if f= "max" then Ls else if f= "sorted" then vb else if f= "ord" then C5 else if f= "any" then OI else if f= "min" then Lr elseλ_ _ _=>False
def n9(f:Str):LR->RM->ak->Prop:=
 if f= "tuple" then Cb elseλ_ _ _=>False
noncomputable def sj (C:Addr)(f:Str)(Q:ak):ak:=λx M=>match x with
 | .ref a=>match M a with
  |some (.ins C' fs)=>C'=C/\match fs.lookup f with
   |some v=>Q v M
   |none=>False
  |_=>False
 |_=>False
def DS(C:Addr)(f:Str)(ta:aq):aq:=λσ M Q=>ta σ M (sj C f Q)
noncomputable def sv (C:Addr)(f:Str)(y:RV)(N:RM->Prop):ak:=λx M=>match x with
 | .ref a=>match M a with
  |some (.ins C' fs)=>C'=C/\fs.length<1000/\N (put M a (.ins C (kl f y fs)))
  |_=>False
 |_=>False
def DT(C:Addr)(f:Str)(b c:aq):dz:=λD a M=>c a M λy M1=>b a M1 (sv C f y (D.nx a))
noncomputable def qq (C:Addr)(m:Str)(sp:bU)(t:bJ)(σ:bw)(Q:ak):ak:=λx M=>match x with
 | .ref a=>match M a with
  |some (.ins C' fs)=>C'=C/\fs.lookup m=none/\t σ M λrs M2=>sp (.ref a::rs) M2 Q
  |_=>False
 |_=>False
def rN(C:Addr)(m:Str)(sp:bU)(ta:aq)(t:bJ):aq:=λσ M Q=>ta σ M (qq C m sp t σ Q)
def hO:aq:=λ_ _ _=>False
structure Sm where
 E:aq:=λ_ _ _=>False
 T:dP:=λ_ _ _=>False
 A:bJ:=λ_ _ _=>False
 I:ig:=λ_ _ _=>False
 P:nZ:=λ_ _ _=>False
 S:dz:=λ_ _ _=>False
 L:List aq:=[]
noncomputable def ex (e:aq):Sm:={ E:=e,T:=ma e }
noncomputable def tr (g:G):T->Sm
 | .v i=>ex (rA i)
 | .i n=>ex (rC (.int n))
 | .s x=>ex (rC (.str x))
 | .b x=>ex (rC (.bl x))
 | .n=>ex (rC .aw)
 | .g x=>ex (match g.S.gi.lookup x with|some i=>rC (.int i)|none=>hO)
 | .ty x=>ex (rC (.ty x))
 | .op o a b=>ex (nI (iX o) (tr g a).E (tr g b).E)
 | .cm o a b=>ex (nI (eO o) (tr g a).E (tr g b).E)
 | .ch o p a b c=>ex (sV (eO o) (eO p) (tr g a).E (tr g b).E (tr g c).E)
 | .an a b=>{ E:=yR (tr g a).E (tr g b).E,T:=zh (tr g a).T (tr g b).T }
 | .or a b=>{ E:=zb (tr g a).E (tr g b).E,T:=zC (tr g a).T (tr g b).T }
 | .no a=>{ E:=K2 (tr g a).E,T:=Pn (tr g a).T }
 | .ie t a b=>ex (zB (tr g t).T (tr g a).E (tr g b).E)
 | .tu a=>ex (Pf (tr g a).A)
 | .ll a=>ex (OB (tr g a).A)
 | .lm a=>ex (OA (tr g a).A)
 | .e0=>{ A:=mv }
 | .ec a r=>{ A:=tJ (tr g a).E (tr g r).A,L:=(tr g a).E::(tr g r).L }
 | .ix a b=>ex (nI d7 (tr g a).E (tr g b).E)
 | .sl a l h=>ex (PF (tr g a).E (tr g l).P (tr g h).P)
 | .p0=>{ P:=Po }
 | .p1 a=>{ P:=K1 (tr g a).E }
 | .fl c f a=>ex (DS (g.C c) f (tr g a).E)
 | .ca f a=>ex (kj (g.fn f) (tr g a).A)
 | .me f o a=>ex (match g.S.fd[f]? with|some d=>rN (g.C d.cls) d.name (g.fn f) (tr g o).E (tr g a).A|none=>hO)
 | .mk f a=>ex (match g.S.fd[f]? with|some d=>tG (g.C d.cls) (g.mW f) (tr g a).A|none=>hO)
 | .bf f a=>ex (kj (eY f) (tr g a).A)
 | .bt f a=>ex (kj (n9 f) (tr g a).A)
 | .ap o a=>ex (zf (tr g o).E (tr g a).A)
 | .dg d k=>ex (La (tr g d).E (tr g k).E)
 | .dn neg k d=>ex (t7 neg (tr g k).E (tr g d).E)
 | .d1 d k=>ex (Ka (tr g d).E (tr g k).E)
 | .d2 d k x=>ex (J9 (tr g d).E (tr g k).E (tr g x).E)
 | .dk=>ex Lx
 | .dt=>ex Ko
 | .ic neg a x=>ex (match g.S.gt.lookup x with|some m=>tQ neg m (tr g a).E|none=>hO)
 | .tx x a=>ex (za (g.tb x) (tr g a).E)
 | .tg x a=>ex (match g.S.tt.lookup x with|some l=>yp l (tr g a).E|none=>hO)
 | .tn x a=>ex (Bl (g.tb x) (tr g a).E)
 | .cv i a=>ex (Kp g.iQ (rA i) (tr g a).A)
 | .cp md tup nm cap it t e=>ex (vd (gk tup nm.length) md (tr g it).I (cap.map Prod.fst) (tr g t).T (tr g e).E)
 | .sc i md tup nm cap it t e=>{ S:=vN i (vd (gk tup nm.length) md (tr g it).I (cap.map Prod.fst) (tr g t).T (tr g e).E) }
 | .lr a b=>ex (Km (tr g a).E (tr g b).E)
 | .ik a=>{ I:=zd true (tr g a).E }
 | .iv a=>{ I:=zd false (tr g a).E }
 | .im a=>{ I:=OF (tr g a).E }
 | .lv md a=>ex (PB md (tr g a).E)
 | .pr i j a=>{ S:=Pl i j (tr g a).A }
 | .af c f o a=>{ S:=PN (g.C c) f (tr g o).E (tr g a).E }
 | .dd d k=>{ S:=J8 (tr g d).E (tr g k).E }
 | .is a=>{ I:=OD (tr g a).E }
 | .r1 a=>{ I:=OE (tr g a).E }
 | .st a=>{ I:=OC (tr g a).E }
 | .set i a=>{ S:=vN i (tr g a).E }
 | .un is a=>{ S:=C7 (tr g a).E (wj is) }
 | .sf c f o a=>{ S:=DT (g.C c) f (tr g o).E (tr g a).E }
 | .dp d k a=>{ S:=J7 (tr g d).E (tr g k).E (tr g a).E }
 | .sp l i a=>{ S:=C7 (tr g a).E (K6 (tr g l).E (tr g i).E qX) }
 | .re a=>{ S:=Pj (tr g a).E }
 | .r0=>{ S:=KZ }
 | .aG t a b=>{ S:=ze (tr g t).T (tr g a).S (tr g b).S }
 | .fo tup is it b=>{ S:=Lv (tr g it).I (match tup,is with|true,is=>wj is|false,[i]=>jU i|_,_=>λ_ _ _ _=>False) (tr g b).S }
 | .ex a=>{ S:=Lw (tr g a).E }
 | .ra=>{ S:=λ_ _ _=>False }
 | .se a b=>{ S:=Ph (tr g a).S (tr g b).S }
 | .en=>{ S:=Lq }
 | .sk c f a=>ex (PD (g.C c) f g.lP g.S.lp g.S.lq (tr g a).E)
 | .jn o a=>ex (rJoin (tr g o).E (tr g a).A)
inductive Nd where
 |e (x:Expr)|t (x:Expr)|a (xs:bc)|i (tg x:Expr)|p (x:Option Expr)|s (x:Stmt)|b (xs:List Stmt)|l (xs:bc)
noncomputable def gw (sc:Scope)(x:Str):Bool:=sc.names.lookup x==some .globalImplicit&& !(x==("__debug__":Str))
noncomputable def yM (tup:Bool)(tg:Expr)(nm:az):Bool:=match tup,tg with
 |false,.Name x _=>nm==[x]
 |true,.Tuple es _ _=>tw es==some nm
 |_,_=>false
noncomputable def lY (N:az):List Nat->bc->Bool
 | [],[]=>true
 |i::is,.Name x _::es=>(N[i]? ==some x)&&lY N is es
 |_,_=>false
noncomputable def cf (sc:Scope)(x:Str):Bool:=sc.names.lookup x==some .cell||sc.names.lookup x==some .free
noncomputable def jE (x:Str):Bool:=!(x==("__debug__":Str))&& !(x==("__classdict__":Str))
noncomputable def tM (N:az)(sc scope:Scope)(nm:az)(a:List (Nat×Str)):Bool:=
 a.all (λp=>(N[p.1]? ==some p.2)&&(scope.names.lookup p.2==some .free)&&cf sc p.2)&&scope.names.all (λy=>y.2 != .free||cf sc y.1)&&scope.names.all (λy=>y.2 != .cell)&&scope.kind== .function&&
 scope.names.all (λy=>y.2 != .local||scope.names.lookup y.1==some .local)&&nm.all (λx=>scope.names.lookup x==some .local)&&decide (nm++a.map Prod.snd).Nodup&&(nm++a.map Prod.snd).all jE
noncomputable def z9:az:=["len","isinstance","all","max","sorted","ord","any","min"]
noncomputable def Ab:az:=["tuple"]
noncomputable def gX (ap p:Pos):Bool:=ap.endLine==p.line
noncomputable def CP (t:T):Bool:=if h:t.ctorIdx=3 then T.b.elim t h id else false
@[elab_as_elim] theorem qT {α:Type} [BEq α] [LawfulBEq α] {z c:α} {b:Bool} {C:α->Prop} (h:((z==c)&&b)=true) (k:b=true->C c):C z:=by
 rw[bj,eW]at h;rw[h.1];exact k h.2
theorem jk{a b:Bool}(h:(a&&b)=true):a=true/\b=true:=by rwa [bj]at h
theorem di[Decidable c]{t:c->Bool}{C:Prop}(h:(if h:c then t h else false)=true)(k:c->(if h:c then t h else false)=true->C):C:=
 if i:c then k i h else by rw[dif_neg i]at h;cases h
noncomputable def dN (e:Expr)(f:Str->Pos->Bool):Bool:=if h:e.ctorIdx=23 then Expr.Name.elim e h f else false
@[elab_as_elim] theorem gL {e f} {C:Expr->Prop} (h:dN e f=true) (k:∀a b,f a b=true->C (.Name a b)):C e:=di h λi=>Expr.Name.elim e i k
noncomputable def dK (e:Expr)(f:Const->Nat->Pos->Bool):Bool:=if h:e.ctorIdx=19 then Expr.Constant.elim e h f else false
@[elab_as_elim] theorem yY {e f} {C:Expr->Prop} (h:dK e f=true) (k:∀a b c,f a b c=true->C (.Constant a b c)):C e:=di h λi=>Expr.Constant.elim e i k
noncomputable def dB (e:Expr)(f:Expr->Operator->Expr->Pos->Bool):Bool:=if h:e.ctorIdx=2 then Expr.BinOp.elim e h f else false
@[elab_as_elim] theorem qwJ {e f} {C:Expr->Prop} (h:dB e f=true) (k:∀a b c d,f a b c d=true->C (.BinOp a b c d)):C e:=di h λi=>Expr.BinOp.elim e i k
noncomputable def dC (e:Expr)(f:Expr->List CmpOp->bc->Pos->Bool):Bool:=if h:e.ctorIdx=15 then Expr.Compare.elim e h f else false
@[elab_as_elim] theorem LM {e f} {C:Expr->Prop} (h:dC e f=true) (k:∀a b c d,f a b c d=true->C (.Compare a b c d)):C e:=di h λi=>Expr.Compare.elim e i k
noncomputable def dQ (e:Expr)(f:BoolOp->bc->Pos->Bool):Bool:=if h:e.ctorIdx=0 then Expr.BoolOp.elim e h f else false
@[elab_as_elim] theorem yX {e f} {C:Expr->Prop} (h:dQ e f=true) (k:∀a b c,f a b c=true->C (.BoolOp a b c)):C e:=di h λi=>Expr.BoolOp.elim e i k
noncomputable def dU (e:Expr)(f:UnaryOp->Expr->Pos->Bool):Bool:=if h:e.ctorIdx=3 then Expr.UnaryOp.elim e h f else false
@[elab_as_elim] theorem LI {e f} {C:Expr->Prop} (h:dU e f=true) (k:∀a b c,f a b c=true->C (.UnaryOp a b c)):C e:=di h λi=>Expr.UnaryOp.elim e i k
noncomputable def dI (e:Expr)(f:Expr->Expr->Expr->Pos->Bool):Bool:=if h:e.ctorIdx=5 then Expr.IfExp.elim e h f else false
@[elab_as_elim] theorem qwI {e f} {C:Expr->Prop} (h:dI e f=true) (k:∀a b c d,f a b c d=true->C (.IfExp a b c d)):C e:=di h λi=>Expr.IfExp.elim e i k
noncomputable def dT (e:Expr)(f:bc->Nat->Pos->Bool):Bool:=if h:e.ctorIdx=25 then Expr.Tuple.elim e h f else false
@[elab_as_elim] theorem vL {e f} {C:Expr->Prop} (h:dT e f=true) (k:∀a b c,f a b c=true->C (.Tuple a b c)):C e:=di h λi=>Expr.Tuple.elim e i k
noncomputable def dL (e:Expr)(f:bc->Pos->Bool):Bool:=if h:e.ctorIdx=24 then Expr.List.elim e h f else false
@[elab_as_elim] theorem LJ {e f} {C:Expr->Prop} (h:dL e f=true) (k:∀a b,f a b=true->C (.List a b)):C e:=di h λi=>Expr.List.elim e i k
noncomputable def dS (e:Expr)(f:Expr->Expr->Pos->Bool):Bool:=if h:e.ctorIdx=21 then Expr.Subscript.elim e h f else false
@[elab_as_elim] theorem qU {e f} {C:Expr->Prop} (h:dS e f=true) (k:∀a b c,f a b c=true->C (.Subscript a b c)):C e:=di h λi=>Expr.Subscript.elim e i k
noncomputable def dX (e:Expr)(f:Option Expr->Option Expr->Option Expr->Pos->Bool):Bool:=if h:e.ctorIdx=26 then Expr.Slice.elim e h f else false
@[elab_as_elim] theorem qwG {e f} {C:Expr->Prop} (h:dX e f=true) (k:∀a b c d,f a b c d=true->C (.Slice a b c d)):C e:=di h λi=>Expr.Slice.elim e i k
noncomputable def dA (e:Expr)(f:Expr->Str->Pos->Bool):Bool:=if h:e.ctorIdx=20 then Expr.Attribute.elim e h f else false
@[elab_as_elim] theorem vM {e f} {C:Expr->Prop} (h:dA e f=true) (k:∀a b c,f a b c=true->C (.Attribute a b c)):C e:=di h λi=>Expr.Attribute.elim e i k
noncomputable def dF (e:Expr)(f:Expr->bc->List Keyword->Pos->Bool):Bool:=if h:e.ctorIdx=16 then Expr.Call.elim e h f else false
@[elab_as_elim] theorem CY {e f} {C:Expr->Prop} (h:dF e f=true) (k:∀a b c d,f a b c d=true->C (.Call a b c d)):C e:=di h λi=>Expr.Call.elim e i k
noncomputable def dD (e:Expr)(f:List (Option Expr)->bc->Pos->Bool):Bool:=if h:e.ctorIdx=6 then Expr.Dict.elim e h f else false
@[elab_as_elim] theorem LL {e f} {C:Expr->Prop} (h:dD e f=true) (k:∀a b c,f a b c=true->C (.Dict a b c)):C e:=di h λi=>Expr.Dict.elim e i k
noncomputable def dG (e:Expr)(f:Expr->List Comprehension->Scope->Pos->Bool):Bool:=if h:e.ctorIdx=8 then Expr.ListComp.elim e h f else false
@[elab_as_elim] theorem LK {e f} {C:Expr->Prop} (h:dG e f=true) (k:∀a b c d,f a b c d=true->C (.ListComp a b c d)):C e:=di h λi=>Expr.ListComp.elim e i k
noncomputable def tA (e:Stmt)(f:bc->Expr->Pos->Bool):Bool:=if h:e.ctorIdx=5 then Stmt.Assign.elim e h f else false
@[elab_as_elim] theorem quR {e f} {C:Stmt->Prop} (h:tA e f=true) (k:∀a b c,f a b c=true->C (.Assign a b c)):C e:=di h λi=>Stmt.Assign.elim e i k
noncomputable def tU (e:Stmt)(f:Expr->Operator->Expr->Pos->Bool):Bool:=if h:e.ctorIdx=7 then Stmt.AugAssign.elim e h f else false
@[elab_as_elim] theorem Z6 {e f} {C:Stmt->Prop} (h:tU e f=true) (k:∀a b c d,f a b c d=true->C (.AugAssign a b c d)):C e:=di h λi=>Stmt.AugAssign.elim e i k
noncomputable def tD (e:Stmt)(f:bc->Pos->Bool):Bool:=if h:e.ctorIdx=4 then Stmt.Delete.elim e h f else false
@[elab_as_elim] theorem quN {e f} {C:Stmt->Prop} (h:tD e f=true) (k:∀a b,f a b=true->C (.Delete a b)):C e:=di h λi=>Stmt.Delete.elim e i k
noncomputable def tR (e:Stmt)(f:Option Expr->Pos->Bool):Bool:=if h:e.ctorIdx=3 then Stmt.Return.elim e h f else false
@[elab_as_elim] theorem Lf {e f} {C:Stmt->Prop} (h:tR e f=true) (k:∀a b,f a b=true->C (.Return a b)):C e:=di h λi=>Stmt.Return.elim e i k
noncomputable def tI (e:Stmt)(f:Expr->List Stmt->List Stmt->Pos->Bool):Bool:=if h:e.ctorIdx=12 then Stmt.If.elim e h f else false
@[elab_as_elim] theorem quJ {e f} {C:Stmt->Prop} (h:tI e f=true) (k:∀a b c d,f a b c d=true->C (.If a b c d)):C e:=di h λi=>Stmt.If.elim e i k
noncomputable def tF (e:Stmt)(f:Expr->Expr->List Stmt->List Stmt->Pos->Bool):Bool:=if h:e.ctorIdx=9 then Stmt.For.elim e h f else false
@[elab_as_elim] theorem quK {e f} {C:Stmt->Prop} (h:tF e f=true) (k:∀a b c d g,f a b c d g=true->C (.For a b c d g)):C e:=di h λi=>Stmt.For.elim e i k
noncomputable def tE (e:Stmt)(f:Expr->Pos->Bool):Bool:=if h:e.ctorIdx=24 then Stmt.Expr.elim e h f else false
@[elab_as_elim] theorem quL {e f} {C:Stmt->Prop} (h:tE e f=true) (k:∀a b,f a b=true->C (.Expr a b)):C e:=di h λi=>Stmt.Expr.elim e i k
section
variable {α:Type}{xs:List α}{b:Bool}{x:Option α}{e:Expr}{s:Stmt}
noncomputable def l0 (xs:List α)(b:Bool):Bool:=match xs with| []=>b|_=>false
noncomputable def lc (xs:List α)(f:α->List α->Bool):Bool:=match xs with|x::r=>f x r|_=>false
noncomputable def l1 (xs:List α)(f:α->Bool):Bool:=lc xs λx r=>l0 r (f x)
noncomputable def l2 (xs:List α)(f:α->α->Bool):Bool:=lc xs λx r=>l1 r (f x)
noncomputable def o0 (x:Option α)(b:Bool):Bool:=match x with|none=>b|_=>false
noncomputable def o1 (x:Option α)(f:α->Bool):Bool:=match x with|some y=>f y|_=>false
variable {C:List α->Prop}{D:Option α->Prop}{E:Expr->Prop}{F:Stmt->Prop}
@[elab_as_elim] theorem iB (h:l0 xs b=true) (k:b=true->C []):C xs:=by cases xs<;>first|exact k h|cases h
@[elab_as_elim] theorem i3 {f} (h:lc xs f=true) (k:∀x r,f x r=true->C (x::r)):C xs:=by cases xs<;>first|exact k _ _ h|cases h
@[elab_as_elim] theorem fZ {f} (h:l1 xs f=true) (k:∀y,f y=true->C [y]):C xs:=i3 h λy _ h=>iB h (k y)
@[elab_as_elim] theorem tK {f} (h:l2 xs f=true) (k:∀y z,f y z=true->C [y,z]):C xs:=i3 h λy _ h=>fZ h (k y)
@[elab_as_elim] theorem CC (h:o0 x b=true) (k:b=true->D none):D x:=by cases x<;>first|exact k h|cases h
@[elab_as_elim] theorem Lh {f} (h:o1 x f=true) (k:∀y,f y=true->D (some y)):D x:=by cases x<;>first|exact k _ h|cases h
noncomputable def jD (e:Expr)(f:Str->Pos->bc->Pos->Bool):Bool:=dF e λg a ks p=>dN g λx q=>l0 ks (f x q a p)
@[elab_as_elim] theorem l6 {f} (h:jD e f=true) (k:∀x q es p,f x q es p=true->E (.Call (.Name x q) es [] p)):E e:=CY h λ_ es _ p h=>gL h λx q h=>iB h (k x q es p)
noncomputable def j7 (e:Expr)(f:Expr->Str->Pos->bc->Pos->Bool):Bool:=dF e λg a ks p=>dA g λx m q=>l0 ks (f x m q a p)
@[elab_as_elim] theorem l7 {f} (h:j7 e f=true) (k:∀x m q es p,f x m q es p=true->E (.Call (.Attribute x m q) es [] p)):E e:=CY h λ_ es _ p h=>vM h λx m q h=>iB h (k x m q es p)
noncomputable def uy (e:Expr)(f:Expr->CmpOp->Expr->Pos->Bool):Bool:=dC e λx a c p=>l1 a λo=>l1 c λy=>f x o y p
@[elab_as_elim] theorem ve {f} (h:uy e f=true) (k:∀x o y p,f x o y p=true->E (.Compare x [o] [y] p)):E e:=LM h λx _ _ p h=>fZ h λo h=>fZ h λy=>k x o y p
noncomputable def nJ (s:Stmt)(f:Expr->Expr->Pos->Bool):Bool:=tA s λz v p=>l1 z λt=>f t v p
@[elab_as_elim] theorem qK {f} (h:nJ s f=true) (k:∀t v p,f t v p=true->F (.Assign [t] v p)):F s:=quR h λ_ v p h=>fZ h λt=>k t v p
end
noncomputable def cN (e:Expr):Bool:=!([22,7,26,9,10].contains e.ctorIdx)
noncomputable def mX (e:Expr):Bool:=e.ctorIdx==8
noncomputable def CQ (e:Expr):Bool:=[0,5,15].contains e.ctorIdx||dU e λo _ _=>o== .Not
noncomputable def gM (e:Expr):Bool:=jD e λ_ _ a _=>a.isEmpty
noncomputable def cj (a:Nd)(f:Expr->Bool):Bool:=match a with
 | .e x=>cN x&&f x
 | .t x=>!CQ x&&f x
 |_=>false
noncomputable def uM (a:Nd)(f:Expr->Bool):Bool:=match a with
 | .e x=>cN x&&f x
 | .t x=>f x
 |_=>false
noncomputable def gZ (a:Nd)(f:Stmt->Bool):Bool:=match a with
 | .s x=>f x
 |_=>false
noncomputable def AD (a:Nd)(f:(bc->Nd)->bc->Bool):Bool:=match a with
 | .a x=>f .a x
 | .l x=>f .l x
 |_=>false
noncomputable def cY (a:Nd)(f:Expr->Expr->Bool):Bool:=match a with
 | .i tg x=>f tg x
 |_=>false
noncomputable def AF (a:Nd)(f:Option Expr->Bool):Bool:=match a with
 | .p x=>f x
 |_=>false
noncomputable def AE (a:Nd)(f:List Stmt->Bool):Bool:=match a with
 | .b x=>f x
 |_=>false
noncomputable def uN (a:Nd)(f g:Expr->Bool):Bool:=match a with
 | .e x=>cN x&&f x
 | .t x=>g x
 |_=>false
noncomputable def dY (e:Expr)(f:Arguments->Expr->Scope->Pos->Bool):Bool:=if h:e.ctorIdx=4 then Expr.Lambda.elim e h f else false
@[elab_as_elim] theorem qwF {e f} {C:Expr->Prop} (h:dY e f=true) (k:∀a b c d,f a b c d=true->C (.Lambda a b c d)):C e:=di h λi=>Expr.Lambda.elim e i k
noncomputable def C9 (ps:Arguments)(v:Str):Bool:=ps.posonlyargs.isEmpty&&ps.vararg.isNone&&ps.kwonlyargs.isEmpty&&ps.kw_defaults.isEmpty&&ps.kwarg.isNone&&ps.defaults.isEmpty&&(l1 ps.args λa=>a.arg==v)
noncomputable def C4 (v:Str)(sc:Scope):Bool:=(sc.names.lookup v==some .local)&&sc.names.all (λy=>y.2 != .cell&&y.2 != .free)&& !sc.isCoroutine&& !sc.isGenerator&&sc.kind== .function&&jE v
noncomputable def mt (S:SI)(fc:Bool)(N:az)(sc:Scope):T->Nd->Bool
 | .v i,nd=>cj nd λy0=>dN y0 λx _=>N[i]? ==some x
 | .i n,nd=>cj nd λy0=>dK y0 λz _ _=>z== .int n
 | .s x,nd=>cj nd λy0=>dK y0 λz _ _=>z== .str x
 | .b x,nd=>cj nd λy0=>dK y0 λz _ _=>z== .bool x
 | .n,nd=>cj nd λy0=>dK y0 λz _ _=>z== .none
 | .g x,nd=>cj nd λy0=>dN y0 λy _=>(x==y)&&(S.gi.lookup x).isSome&&gw sc x
 | .ty x,nd=>cj nd λy0=>dN y0 λy _=>(Str.ofString x==y)&&["int","bool","str","tuple","list"].contains x&&S.bl.contains y&&gw sc y
 | .op o a b,nd=>cj nd λy0=>dB y0 λx o' y _=>(o==o')&&mt S fc N sc a (.e x)&&mt S fc N sc b (.e y)
 | .cm o a b,nd=>uM nd λy0=>uy y0 λx o' y _=>(o==o')&&mt S fc N sc a (.e x)&&mt S fc N sc b (.e y)
 | .ch o p a b c,nd=>uM nd λy0=>dC y0 λx z1 z2 _=>l2 z1 λo' p'=>l2 z2 λy z=>(o==o')&&(p==p')&&mt S fc N sc a (.e x)&&mt S fc N sc b (.e y)&&mt S fc N sc c (.e z)
 | .dn neg k d,nd=>uM nd λy0=>uy y0 λx o' y _=>(o'==if neg then .NotIn else .In)&&mt S fc N sc k (.e x)&&mt S fc N sc d (.e y)
 | .an a b,nd=>uN nd (λy0=>dQ y0 λz1 z2 p=>(z1== .And)&&(lc z2 λx z3=>lc z3 λy r=>mt S fc N sc a (.e x)&&mt S fc N sc b (.e (if r.isEmpty then y else .BoolOp .And (y::r) p)))) (λy0=>dQ y0 λz1 z2 p=>(z1== .And)&&(lc z2 λx z3=>lc z3 λy r=>mt S fc N sc a (.t x)&&mt S fc N sc b (.t (if r.isEmpty then y else .BoolOp .And (y::r) p))))
 | .or a b,nd=>uN nd (λy0=>dQ y0 λz1 z2 p=>(z1== .Or)&&(lc z2 λx z3=>lc z3 λy r=>mt S fc N sc a (.e x)&&mt S fc N sc b (.e (if r.isEmpty then y else .BoolOp .Or (y::r) p)))) (λy0=>dQ y0 λz1 z2 p=>(z1== .Or)&&(lc z2 λx z3=>lc z3 λy r=>mt S fc N sc a (.t x)&&mt S fc N sc b (.t (if r.isEmpty then y else .BoolOp .Or (y::r) p))))
 | .no a,nd=>uN nd (λy0=>dU y0 λz1 x _=>(z1== .Not)&&(mt S fc N sc a (.e x))) (λy0=>dU y0 λz1 x _=>(z1== .Not)&&(mt S fc N sc a (.t x)))
 | .ie t a b,nd=>cj nd λy0=>dI y0 λx y z _=>mt S fc N sc t (.t x)&&mt S fc N sc a (.e y)&&mt S fc N sc b (.e z)
 | .tu a,nd=>cj nd λy0=>dT y0 λes _ _=>mt S fc N sc a (.a es)
 | .ll a,nd=>cj nd λy0=>dL y0 λes _=>mt S fc N sc a (.a es)
 | .lm a,nd=>cj nd λy0=>dL y0 λes _=>mt S fc N sc a (.a es)
 | .e0,nd=>AD nd λ_ y0=>l0 y0 <|true
 | .ec a r,nd=>AD nd λmk y0=>lc y0 λx xs=>mt S fc N sc a (.e x)&&mt S fc N sc r (mk xs)
 | .ix a b,nd=>cj nd λy0=>dS y0 λx y _=>mt S fc N sc a (.e x)&&mt S fc N sc b (.e y)
 | .sl a l h,nd=>cj nd λy0=>dS y0 λx z1 _=>dX z1 λlo hi z2 _=>o0 z2 <|mt S fc N sc a (.e x)&&mt S fc N sc l (.p lo)&&mt S fc N sc h (.p hi)
 | .p0,nd=>AF nd λy0=>o0 y0 <|true
 | .p1 a,nd=>AF nd λy0=>o1 y0 λx=>mt S fc N sc a (.e x)
 | .fl c f a,nd=>cj nd λy0=>dA y0 λx f' _=>(f==f')&&S.fs.contains (c,f)&& !gM x&&mt S fc N sc a (.e x)
 | .ca f a,nd=>cj nd λy0=>jD y0 λx _ es _=>(match S.fd[f]? with|some d=>d.kind==0&&d.name==x|none=>false)&&gw sc x&&mt S fc N sc a (.a es)
 | .me f o a,nd=>cj nd λy0=>j7 y0 λx m ap es p=>(match S.fd[f]? with|some d=>d.kind==1&&d.name==m|none=>false)&& !gM x&&gX ap p&&decide (es.length<29)&&mt S fc N sc o (.e x)&&mt S fc N sc a (.a es)
 | .mk f a,nd=>cj nd λy0=>jD y0 λx _ es _=>(match S.fd[f]? with|some d=>d.kind==2&&S.cl[d.cls]? ==some x|none=>false)&&gw sc x&&mt S fc N sc a (.a es)
 | .bf f a,nd=>cj nd λy0=>jD y0 λx _ es _=>(f==x)&&z9.contains x&&S.bl.contains x&&gw sc x&& !es.isEmpty&&mt S fc N sc a (.a es)
 | .bt f a,nd=>cj nd λy0=>jD y0 λx _ es _=>(f==x)&&Ab.contains x&&S.bl.contains x&&gw sc x&& !es.isEmpty&&mt S fc N sc a (.a es)
 | .ap o a,nd=>cj nd λy0=>j7 y0 λx m ap z1 p=>l1 z1 λy=>(m==("append":Str))&& !gM x&&gX ap p&&mt S fc N sc o (.e x)&&mt S fc N sc a (.a [y])
 | .dg d k,nd=>cj nd λy0=>dS y0 λx y _=>mt S fc N sc d (.e x)&&mt S fc N sc k (.e y)
 | .d1 d k,nd=>cj nd λy0=>j7 y0 λx m ap z1 p=>l1 z1 λy=>(m==("get":Str))&& !gM x&&gX ap p&&mt S fc N sc d (.e x)&&mt S fc N sc k (.e y)
 | .d2 d k z,nd=>cj nd λy0=>j7 y0 λx m ap z1 p=>l2 z1 λy w=>(m==("get":Str))&& !gM x&&gX ap p&&mt S fc N sc d (.e x)&&mt S fc N sc k (.e y)&&mt S fc N sc z (.e w)
 | .dk,nd=>cj nd λy0=>dD y0 λz1 z2 _=>l0 z1 <|l0 z2 <|true
 | .dt,nd=>cj nd λy0=>dD y0 λz1 z2 _=>l0 z1 <|l0 z2 <|true
 | .ic neg a x,nd=>uM nd λy0=>uy y0 λy o z1 _=>dN z1 λx' _=>(o==if neg then .NotIn else .In)&&(x==x')&&(S.gt.lookup x).isSome&&gw sc x&&mt S fc N sc a (.e y)
 | .tx x a,nd=>cj nd λy0=>dS y0 λz1 y _=>dN z1 λx' _=>(x==x')&&S.tb.contains x&&gw sc x&&mt S fc N sc a (.e y)
 | .tg x a,nd=>cj nd λy0=>j7 y0 λz1 m ap z2 p=>dN z1 λx' _=>l1 z2 λy=>(m==("get":Str))&&(x==x')&&(S.tt.lookup x).isSome&&gw sc x&&gX ap p&&mt S fc N sc a (.e y)
 | .tn x a,nd=>uN nd (λ_=>false) λy0=>uy y0 λy o z1 _=>dN z1 λx' _=>(o== .NotIn)&&(x==x')&&S.tb.contains x&&gw sc x&&mt S fc N sc a (.e y)
 | .cv i a,nd=>cj nd λy0=>jD y0 λx _ es _=>(N[i]? ==some x)&& !es.isEmpty&&mt S fc N sc a (.a es)
 | .lr a b,nd=>cj nd λy0=>jD y0 λx _ z1 _=>l1 z1 λz2=>jD z2 λy _ z3 _=>l2 z3 λz w=>(x==("list":Str))&&(y==("range":Str))&&S.bl.contains x&&S.bl.contains y&&gw sc x&&gw sc y&&mt S fc N sc a (.e z)&&mt S fc N sc b (.e w)
 | .cp _ tup nm cap it t e,nd=>cj nd λy0=>dG y0 λel z1 scope _=>l1 z1 λz2=>match z2 with|⟨tg,ite,ifs,as⟩=>fc&&(as==0)&&yM tup tg nm&&tM N sc scope nm cap&&cN ite&&mt S fc N sc it (.i tg ite)&&mt S false (nm++cap.map Prod.snd) scope e (.e el)&&(match ifs with| []=>CP t| [c]=>mt S false (nm++cap.map Prod.snd) scope t (.t c)|_=>false)
 | .ik a,nd=>cY nd λ_ x=>cN x&&mt S fc N sc a (.e x)
 | .iv a,nd=>cY nd λ_=>λy0=>j7 y0 λx m ap z1 p=>l0 z1 <|(m==("values":Str))&& !gM x&&gX ap p&&mt S fc N sc a (.e x)
 | .im a,nd=>cY nd λtg=>λy0=>j7 y0 λx m ap z1 p=>l0 z1 <|(tg.ctorIdx==25)&&(m==("items":Str))&& !gM x&&gX ap p&&mt S fc N sc a (.e x)
 | .lv _ a,nd=>cj nd λy0=>jD y0 λy _ z1 _=>l1 z1 λz2=>j7 z2 λx m ap z3 p=>l0 z3 <|(y==("list":Str))&&(m==("values":Str))&&S.bl.contains y&&gw sc y&& !gM x&&gX ap p&&mt S fc N sc a (.e x)
 | .pr i j a,nd=>gZ nd λy0=>nJ y0 λz1 z2 _=>dT z1 λz3 _ _=>l2 z3 λz4 z5=>dN z4 λx px=>dN z5 λy py=>dT z2 λz6 _ _=>l2 z6 λu v=>fc&&(N[i]? ==some x)&&(N[j]? ==some y)&&(i != j)&&(sc.names.lookup x==some .local)&&(sc.names.lookup y==some .local)&&(py.line==px.line)&& !(y==x)&& !([u,v].all (foldedForSure 8))&& !([u,v].all (constantsAlone 8))&&mt S fc N sc a (.a [u,v])
 | .af c f o a,nd=>gZ nd λy0=>tU y0 λz1 z2 e _=>dA z1 λx f' _=>(z2== .Add)&&((f==f')&&S.fs.contains (c,f)&&mt S fc N sc o (.e x)&&mt S fc N sc a (.e e))
 | .dd d k,nd=>gZ nd λy0=>tD y0 λz1 _=>l1 z1 λz2=>dS z2 λx y _=>mt S fc N sc d (.e x)&&mt S fc N sc k (.e y)
 | .is a,nd=>cY nd λ_ x=>cN x&&mt S fc N sc a (.e x)
 | .st a,nd=>cY nd λ_ x=>cN x&&mt S fc N sc a (.e x)
 | .r1 a,nd=>cY nd λ_=>λy0=>jD y0 λx _ z1 _=>l1 z1 λy=>(x==("range":Str))&&S.bl.contains x&&gw sc x&&mt S fc N sc a (.e y)
 | .set i a,nd=>gZ nd λy0=>nJ y0 λz1 e _=>dN z1 λx p=>fc&&(N[i]? ==some x)&&(!mX e||sc.names.lookup x==some .cell)&&mt S fc N sc a (.e e)
 | .sc i _ tup nm cap it t e,nd=>gZ nd λy0=>nJ y0 λz1 z2 _=>dN z1 λx p=>dG z2 λel z3 scope p2=>l1 z3 λz4=>match z4 with|⟨tg,ite,ifs,as⟩=>fc&&(N[i]? ==some x)&&(sc.names.lookup x==some .local)&&(p.line==p2.line)&& !(scope.names.any λy=>y.1==x&&(y.2== .local||y.2== .cell))&&(as==0)&&yM tup tg nm&&tM N sc scope nm cap&&cN ite&&mt S fc N sc it (.i tg ite)&&mt S false (nm++cap.map Prod.snd) scope e (.e el)&&(match ifs with| []=>CP t| [c]=>mt S false (nm++cap.map Prod.snd) scope t (.t c)|_=>false)
 | .un is a,nd=>gZ nd λy0=>nJ y0 λz1 e _=>dT z1 λes _ _=>fc&&lY N is es&& !mX e&&(e.ctorIdx != 25)&&mt S fc N sc a (.e e)
 | .sf c f o a,nd=>gZ nd λy0=>nJ y0 λz1 e _=>dA z1 λx f' _=>(f==f')&&S.fs.contains (c,f)&&mt S fc N sc o (.e x)&&mt S fc N sc a (.e e)
 | .dp d k a,nd=>gZ nd λy0=>nJ y0 λz1 e _=>dS z1 λx y _=>!mX e&&mt S fc N sc d (.e x)&&mt S fc N sc k (.e y)&&mt S fc N sc a (.e e)
 | .sp l i a,nd=>gZ nd λy0=>nJ y0 λz1 e _=>dS z1 λx y _=>!mX e&&mt S fc N sc l (.e x)&&mt S fc N sc i (.e y)&&mt S fc N sc a (.e e)
 | .re a,nd=>gZ nd λy0=>tR y0 λz1 _=>o1 z1 λe=>mt S fc N sc a (.e e)
 | .r0,nd=>gZ nd λy0=>tR y0 λz1 _=>o0 z1 <|true
 | .aG t a b,nd=>gZ nd λy0=>tI y0 λx y z _=>mt S fc N sc t (.t x)&&mt S fc N sc a (.b y)&&mt S fc N sc b (.b z)
 | .fo tup is it b,nd=>gZ nd λy0=>tF y0 λtg x y z1 _=>l0 z1 <|fc&&cN x&&cond tup (dT tg λes _ _=>lY N is es) (dN tg λz _=>l1 is λi=>N[i]? ==some z)&&mt S fc N sc it (.i tg x)&&mt S fc N sc b (.b y)
 | .ex a,nd=>gZ nd λy0=>tE y0 λe _=>!mX e&&mt S fc N sc a (.e e)
 | .ra,nd=>match nd with| .s _=>true| .b _=>true|_=>false
 | .se a b,nd=>AE nd λy0=>lc y0 λx y=>mt S fc N sc a (.s x)&&mt S fc N sc b (.b y)
 | .en,nd=>AE nd λy0=>l0 y0 <|true
 | .sk c f a,nd=>cj nd λy0=>dF y0 λg es ks _=>dN g λx _=>l1 es λe=>l1 ks λk=>(x==("sorted":Str))&&(k.arg==some ("key":Str))&&(dY k.value λps b ls lp=>dA b λe' f' _=>(f'==f)&&(dN e' λv _=>decide (lp=S.lp)&&C9 ps v&&C4 v ls))&&fc&&decide (N=S.ln)&&S.bl.contains x&&gw sc x&&S.fs.contains (c,f)&&mt S fc N sc a (.e e)
 | .jn o a,nd=>cj nd λy0=>j7 y0 λx m ap z1 p=>l1 z1 λy=>(m==("join":Str))&& !gM x&&gX ap p&&mt S fc N sc o (.e x)&&mt S fc N sc a (.a [y])
section
variable {S:SI}{fc:Bool}{N:az}{sc:Scope}
theorem dh{t:T}{x:Expr}(h:mt S fc N sc t (.e x)=true):cN x=true:=by
 cases t<;>first|exact(jk h).1|exact aU h iI
theorem iz{e:Expr}{env:Env}(h:cN e=true):starEach (e::es) env=(false,eval e env)::starEach es env:=by
 cases e<;>first|rfl|cases h
theorem BI{i:Expr}(h:cN i=true):∀o v,subscripted i false o v=operate [o,v] (getItem o v):=by
 intro o v;cases i<;>first|rfl|cases h
theorem lU{op:CmpOp}{e:Expr}(h:cN e=true):behindInMarks op e=false:=by
 cases e<;>first|rfl|cases h
theorem yA{e:Expr}{env:Env}(h:cN e=true):∀x,foldedSetIterable e env x=pure x:=by
 intro x;cases e<;>first|rfl|cases h
theorem u3{e:Expr}{tg:Option Expr}{l:Nat}{env:Env}(h:cN e=true)(a:mX e=false):swapsWith e tg l env=pure false:=by
 cases e<;>first|rfl|(cases a;done)|(cases h;done)
theorem TC{e x:Expr}{p:Pos}{l:Nat}{env:Env}(h:cN e=true):swapsWith e (some (.Attribute x f p)) l env=pure false:=by
 cases e<;>first|rfl|(cases h;done)
theorem lR{env:Env}(h:gM o=false):attributeBase o m env (eval o env)=eval o env:=by
 cases o<;>first|rfl|skip
 rename_i f a ks p;cases f<;>first|rfl|skip
 cases a<;>first|rfl|skip
 cases ks<;>first|rfl|cases h
theorem Wo{e:Expr}{env:Env}(h:CQ e=false):∀a,isTrue e env a=(do let v<-a;standAt e.pos;holding [v] (truthy v)):=by
 intro w;cases e<;>first|rfl|cases h|skip
 rename_i o x p;cases o<;>first|rfl|cases h
theorem jh:∀{r:T} {xs:bc},mt S fc N sc r (.a xs)=true->xs.all cN=true
 |r,[],_=>rfl
 |r,x::xs,h=>by
  cases r<;>first|exact aU h iI|skip
  have h:=jk h;rw[fz,dh h.1,jh h.2];rfl
theorem yl{env:Env}:∀{xs:bc},xs.all cN=true->starEach xs env=xs.map λe=>(false,eval e env)
 | [],_=>rfl
 |x::xs,h=>by
  rw[fz,bj]at h;rw[iz h.1,yl h.2];rfl
theorem sR{env:Env}{p:Pos}{xs:bc}(h:xs.all cN=true):(backTo p (starEach xs env)).any (·.1)=false:=by
 rw[yl h];unfold backTo;simp
theorem uX{env:Env}{p:Pos}{xs:bc}(h:xs.all cN=true):(backTo p (starEach xs env)).all (λx=>!x.1)=true:=by
 rw[yl h];unfold backTo;simp
theorem back_eq{env:Env}{p:Pos}{xs:bc}(h:xs.all cN=true):backTo p (starEach xs env)=xs.map λe=>(false,eval e env):=by
 rw[yl h];unfold backTo;simp[bp,Function.comp_def]
theorem JB{o:Expr}{a pos:Pos}{es:bc}{env:Env}(g:gM o=false)(e:es.all cN=true)(i:es.length<29)(d:gX a pos=true):
 eval (.Call (.Attribute o m a) es [] pos) env=(do
  let c<-eval o env
  standAt a.atName
  let(f,first) <-holding [c] (getMethod c m (do return (<-importBound o env).getD true))
  callWith pos f first (backTo pos (starEach es env)) (backToKw pos (keywordEach [] env))):=by
 have e1:eval (.Call (.Attribute o m a) es [] pos) env=(do
  let c<-attributeBase o m env (eval o env)
  standAt a.atName
  methodCall o m a pos env c (es.length+([]:List Keyword).length) (backTo pos (starEach es env)) (backToKw pos (keywordEach [] env))):=rfl
 rw[e1,lR g];have h:methodCallForm (es.length+([]:List Keyword).length) (backTo pos (starEach es env)) (backToKw pos (keywordEach [] env))=true:=by
  unfold methodCallForm;rw[uX e];show(true&&true&&decide (es.length+0+0<30))=true;rw[cu (by lia)];rfl
 have b:methodCallPos true o env a pos=pure pos:=by
  unfold methodCallPos;unfold gX at d;rw[ag (by rw[d];rfl)]
 unfold methodCall;rw[h,b];rfl
end
structure Wd(P:Program)(w:World)(K:ah)(mg:br)(base:Heap)(Γ:G)(k:Nat):Prop where
 bl:∀x∈Γ.S.bl,mg x=none
 gi:∀x i,Γ.S.gi.lookup x=some i->Dz mg x i
 gt:∀x l,Γ.S.gt.lookup x=some l->tY K mg x l
 tb:∀x∈Γ.S.tb,KTab P w K mg x (Γ.tb x)
 tt:∀x l,Γ.S.tt.lookup x=some l->qR P w K mg x l
 cl:∀i c,Γ.S.cl[i]? =some c->cQ K (Γ.C i)/\mg c=some (.ref (Γ.C i))
 fs:∀c f,(c,f)∈Γ.S.fs->cQ K (Γ.C c)/\aR K (Γ.C c) f
 fn:∀(i:Nat) d,Γ.S.fd[i]? =some d->d.kind=0->zU P w K mg base k d.name d.ps (Γ.fn i)
 me:∀(i:Nat) d,Γ.S.fd[i]? =some d->d.kind=1->cQ K (Γ.C d.cls)/\uu P w K mg base (Γ.C d.cls) k d.name d.ps (Γ.fn i)
 mW:∀(i:Nat) d,Γ.S.fd[i]? =some d->d.kind=2->∃j,j+1<=k/\zV P w K mg base (Γ.C d.cls) j d.ps (Γ.mW i)
 iQ:∀q∈Γ.iQ,∃fd ps,PySem.W.keepIn K (.ref q.1)=true/\Binds K fd ps []/\dZ P w K mg base fg k q.1 fd ps (fP K q.2)
structure PZ(Γ:G)(X:Cx):Prop where
 q:X.env.qual++("<lambda>":Str)=Γ.S.lq
 cc:∃cc,X.env.code= .ref cc/\PySem.W.CodeHd X.base cc Γ.lP
 bt:X.base.BuiltinsAt X.mg Γ.lP
 gp:mainGlobals≠Γ.lP
structure fS(Γ:G)(k:Nat)(fc:Bool)(N:az)(sc:Scope)(X:Cx):Prop where
 hN:X.N=N
 vis:∀x∈N,wM X.env.scope x/\jE x=true
 gl:∀x,sc.names.lookup x=some .globalImplicit->Gl X x
 calm:X.calm=true
 room:aH k X.A
 fn:fc=true->X.env.scope=sc/\N.Nodup/\(∀x∈N,Loc sc x)/\(∀x,X.fn x=true)/\PassesOwn (model X.prog X.w) X.A X.env X.xe/\X.env.blockKind= .function/\∀x,X.env.kindOf x=sc.names.lookup x
 lm:fc=true->N=Γ.S.ln->PZ Γ X
def zW(X:Cx):bc->List aq->Prop
 | [],ts=>ts= []
 |x::xs,ts=>∃t r,ts=t::r/\aj X x t/\zW X xs r
noncomputable def Good (a:G)(X:Cx)(t:T):Nd->Prop
 | .e x=>aj X x (tr a t).E
 | .t x=>d8 X x (tr a t).T
 | .a xs=>eJ X xs (tr a t).A
 | .i tg x=>jd X tg x (tr a t).I
 | .p x=>rW X x (tr a t).P
 | .s x=>eL X x (tr a t).S
 | .b xs=>kD X xs (tr a t).S
 | .l xs=>zW X xs (tr a t).L
section
variable {X:Cx}{Γ:G}{t:T}{r:aq}{f:Expr->Bool}{nd:Nd}
theorem qI(e:tr Γ t=ex r)(b:∀x,f x=true->aj X x r)(h:cj nd f=true):Good Γ X t nd:=by
 cases nd<;>first|(cases h;done)|skip
 . show aj X _ (tr Γ t).E;rw[e];exact b _ (jk h).2
 . rename_i x
   have a:(!CQ x&&f x)=true:=h;rw[bj,i9]at a;show d8 X _ (tr Γ t).T;rw[e];exact qvg (b _ a.2) (Wo a.1)
theorem uV(e:tr Γ t=ex r)(a:∀x,f x=true->aj X x r/\d8 X x (ma r))(h:uM nd f=true):Good Γ X t nd:=by
 cases nd<;>first|(cases h;done)|skip
 . show aj X _ (tr Γ t).E;rw[e];exact(a _ (jk h).2).1
 . show d8 X _ (tr Γ t).T;rw[e];exact(a _ h).2
theorem aj.imp{e:Expr}{t t':aq}(h:aj X e t)(i:∀a M Q,t' a M Q->t a M Q):aj X e t':=PE.imp h λσ0 H g h=>by
 obtain⟨a,M,Q,hs,d,c,b⟩:=h;exact⟨a,M,Q,hs,d,i _ _ _ c,b⟩
theorem eL.imp{e:Stmt}{t t':dz}(h:eL X e t)(i:∀D a M,t' D a M->t D a M):eL X e t':=PS.imp h λD0 g H h=>by
 obtain⟨a,M,D,hs,d,c,b⟩:=h;exact⟨a,M,D,hs,d,i _ _ _ c,b⟩
theorem BJ{e:Expr}:aj X e hO:=λpins s b H c I h=>by
 obtain⟨i,M,Q,hs,g,a,d⟩:=h;exact a.elim
theorem Vk{g:Value->Value->Sem Value}:cz X g (λ_ _ _ _=>False):=λpins s l H x y v u d I j k h=>by
 obtain⟨a,b,M,Q,ra,rb,i,c,e⟩:=h;exact c.elim
theorem YI:∀o:Operator,cz X (binaryOp o) (iX o):=by
 intro o;cases o<;>first|exact RI|exact Ry|exact RC|exact RE|exact RH|exact RA|exact Vk
theorem sY(a:X.A.units+64<cLine):∀o:CmpOp,cz X (compareOp o) (eO o):=by
 intro o;cases o<;>first|exact QC|exact Qz|exact Qv|exact Qu|exact RG a|exact RB a|exact Qx|exact YL|exact Qw a|exact YJ a
theorem He{o p:CmpOp}{b c:Expr}(h:cN c=true):lastMarks [o,p] [b,c]=false:=lU h
end
section
variable {X:Cx}
theorem qwS:cU X (.builtin "isinstance") (eS X.K C6):=by
 rintro b s j H i us d I g ⟨rs,M,Q,h,f,c,e⟩;unfold C6 at c;split at c
 . rename_i a
   exact T8 b s j H i us d I g ⟨_,M,Q,h,f,⟨rfl,c⟩,e⟩
 . rename_i x t _
   by_cases k:t= "int"
   . subst k;exact V0 b s j H i us d I g ⟨_,M,Q,h,f,⟨rfl,c⟩,e⟩
   by_cases l:t= "bool"
   . subst l;exact UP b s j H i us d I g ⟨_,M,Q,h,f,⟨rfl,c⟩,e⟩
   by_cases m:t= "str"
   . subst m;exact VZ b s j H i us d I g ⟨_,M,Q,h,f,⟨rfl,c⟩,e⟩
   by_cases n:t= "tuple"
   . subst n;exact T7 b s j H i us d I g ⟨_,M,Q,h,f,⟨rfl,c⟩,e⟩
   by_cases o:t= "list"
   . subst o;exact UO b s j H i us d I g ⟨_,M,Q,h,f,⟨rfl,c⟩,e⟩
   . unfold Eg at c
     rw[ab k,ab l,ab m,ab n,ab o]at c;exact c.elim
 . exact c.elim
theorem qwR:cU X (.builtin "len") (eS X.K CJ):=by
 rintro b s l H k us f I i ⟨rs,M,Q,j,h,c,g⟩;unfold CJ at c;split at c
 . rename_i a
   split at c
   . rename_i m e
     exact Fh b s l H k us f I i ⟨_,M,Q,j,h,by simp only[zc,e];exact c,g⟩
   . rename_i d e
     exact qwN b s l H k us f I i ⟨_,M,Q,j,h,⟨a,d,rfl,e,c⟩,g⟩
   . rename_i d e
     exact qwM b s l H k us f I i ⟨_,M,Q,j,h,⟨a,d,rfl,e,c⟩,g⟩
   . exact c.elim
 . exact Fh b s l H k us f I i ⟨_,M,Q,j,h,c,g⟩
theorem Y6:bootBuiltins "min" =some (.builtin "min"):=by decide+kernel
theorem Y7:bootBuiltins "max" =some (.builtin "max"):=by decide+kernel
theorem UT:bootBuiltins "sorted" =some (.builtin "sorted"):=by decide+kernel
variable {x:Str}{p pos:Pos}{e:Expr}{es:bc}{t:bJ}
theorem qwX(f:X.calm=true)(hx:z9.contains x=true)(d:X.mg x=none)(c:Gl X x)(b:(x==("__debug__":Str))=false)(a:eJ X (e::es) t)(h:(e::es).all cN=true):aj X (.Call (.Name x p) (e::es) [] pos) (kj (eY x) t):=by
 rw[fz,bj]at h;have s1:=iz (es:=es) (env:=X.env) h.1;have s2:=sR (env:=X.env) (p:=pos) h.2;have g:x= "len"∨x= "isinstance"∨x= "all"∨x= "max"∨x= "sorted"∨x= "ord"∨x= "any"∨x= "min":=by simpa[z9]using hx
 rcases g with rfl|rfl|rfl|rfl|rfl|rfl|rfl|rfl
 . exact m8 qwR d Y8 a c ⋯ b s1 s2
 . exact m8 qwS d S2 a c ⋯ b s1 s2
 . exact m8 (V4 f) d ZM a c ⋯ b s1 s2
 . exact m8 (Rv f) d Y7 a c ⋯ b s1 s2
 . exact m8 (Zn f) d UT a c ⋯ b s1 s2
 . exact m8 Rt d Y5 a c ⋯ b s1 s2
 . exact m8 (V3 f) d ZL a c ⋯ b s1 s2
 . exact m8 (Ru f) d Y6 a c ⋯ b s1 s2
theorem Y3(h:X.calm=true)(hx:Ab.contains x=true)(g:X.mg x=none)(f:Gl X x)(d:(x==("__debug__":Str))=false)(c:eJ X (e::es) t)(b:(e::es).all cN=true):aj X (.Call (.Name x p) (e::es) [] pos) (kj (n9 x) t):=by
 rw[fz,bj]at b;have s1:=iz (es:=es) (env:=X.env) b.1;have s2:=sR (env:=X.env) (p:=pos) b.2;have a:x= "tuple":=by simpa[Ab]using hx
 rcases a with rfl
 . exact X6 Zm g Iq c f ⋯ d s1 s2
theorem Z3(hx:["int","bool","str","tuple","list"].contains y=true)(b:X.mg (Str.ofString y)=none)(a:Gl X (Str.ofString y)):aj X (.Name (Str.ofString y) pos) (rC (.ty y)):=by
 have c:y= "int"∨y= "bool"∨y= "str"∨y= "tuple"∨y= "list":=by simpa using hx
 rcases c with rfl|rfl|rfl|rfl|rfl
 . exact WB b a
 . exact VA b a
 . exact WA b a
 . exact TM b a
 . exact Vz b a
theorem Zu:sj C f Q=(λx M1=>match x with| .ref a=>∃b v,M1 a=some (.ins C b)/\b.lookup f=some v/\Q v M1|_=>False):=by
 funext x M1;cases x with
 |ref a=>
  refine propext ⟨λh=>?_,λ⟨b,v,e1,c,q⟩=>?_⟩
  . unfold sj at h
    simp only at h;split at h
    . rename_i g b e1
      obtain⟨rfl,d⟩:=h;split at d
      . rename_i v c;exact⟨b,v,e1,c,d⟩
      . exact d.elim
    . exact h.elim
  . unfold sj;simp only[e1,c];exact⟨trivial,q⟩
 |_=>rfl
theorem qwx(b:cQ X.K C)(d:aR X.K C f)(c:aj X e ta)(a:gM e=false):aj X (.Attribute e f pos) (DS C f ta):=aj.imp (Sd b d c (lR a)) λσ M Q h=>by
 unfold DS at h;rw[Zu]at h;exact h
theorem quZ(i:cQ X.K C)(j:aR X.K C f)(g:aj X o ta)(k:aj X value tv)(hs:swapsWith value (some (.Attribute o f pos')) pos.line X.env=pure false):eL X (.Assign [.Attribute o f pos'] value pos) (DT C f ta tv):=eL.imp (Ro i j g k hs) λD c M h=>by
 unfold DT at h;have:∀y,sv C f y (D.nx c)=(λx M2=>match x with| .ref a=>∃b,M2 a=some (.ins C b)/\b.length<1000/\D.nx c (put M2 a (.ins C (kl f y b)))|_=>False):=λy=>by
  funext x M1;cases x with
  |ref a=>
   refine propext ⟨λh=>?_,λ⟨b,e1,q⟩=>?_⟩
   . unfold sv at h
     simp only at h;split at h
     . rename_i l b e1
       obtain⟨rfl,d⟩:=h;exact⟨b,e1,d⟩
     . exact h.elim
   . unfold sv;simp only[e1];exact⟨trivial,q⟩
  |_=>rfl
 simp only[this]at h;exact h
theorem KA{sp:bU}{t:bJ}:qq C m sp t σ Q=(λx M1=>match x with| .ref a=>∃b,M1 a=some (.ins C b)/\b.lookup m=none/\t σ M1 λrs M2=>sp (.ref a::rs) M2 Q|_=>False):=by
 funext x M1;cases x with
 |ref a=>
  refine propext ⟨λh=>?_,λ⟨b,e1,c,q⟩=>?_⟩
  . unfold qq at h
    simp only at h;split at h
    . rename_i f b e1
      obtain⟨rfl,d⟩:=h;exact⟨b,e1,d⟩
    . exact h.elim
  . unfold qq;simp only[e1];exact⟨trivial,c,q⟩
 |_=>rfl
theorem Yo{sp:bU}(F:uu X.prog X.w X.K X.mg X.base C k m ps sp)(c:cQ X.K C)(f:aH k X.A)(b:aj X o ta)(a:gM o=false)(d:gX apos pos=true):
 aj X (.Call (.Attribute o m apos) [] [] pos) (rN C m sp ta mv):=aj.imp (Wf F c f b (JB a rfl ⋯ d)) λσ M Q h=>by
 unfold rN at h;rw[KA]at h;exact h
theorem qv4{sp:bU}(F:uu X.prog X.w X.K X.mg X.base C k m ps sp)(c:cQ X.K C)(l:aH k X.A)(g:aj X o ta)(d:eJ X (e::es) t)(f:gM o=false)(a:(e::es).all cN=true)(i:(e::es).length<29)(j:gX apos pos=true):
 aj X (.Call (.Attribute o m apos) (e::es) [] pos) (rN C m sp ta t):=by
 have b:=a;rw[fz,bj]at a;refine aj.imp (XU F c l g d (iz a.1) (sR a.2) (JB f b i j)) λσ M Q h=>?_
 unfold rN at h;rw[KA]at h;exact h
end
theorem CU{S:SI}{sc:Scope}(h:mt S fc N sc r (.a [])=true):r= .e0:=by
 cases r<;>first|rfl|exact aU h iI
section
variable {X:Cx}{C:Addr}
theorem Wg{x:Str}{p pos:Pos}{sp:bU}(F:zV X.prog X.w X.K X.mg X.base C k ps sp)(z:aH (k+1) X.A)(y:X.mg x=some (.ref C))(u:Gl X x)(f:(x==("__debug__":Str))=false):aj X (.Call (.Name x p) [] [] pos) (tG C sp mv):=by
 obtain⟨g,J,s,t,F⟩:=F.ex;refine PE.imp (U5 s F z u y t .nil qZ f) λσ0 H I h=>?_
 obtain⟨L,M,Q,hs,j,A,w⟩:=h;refine λa b l m D=>?_
 have d:Ext H (upd H b (.own a)):=Ext.new m;have c:(upd H b (.own a)) a=none:=by rw[aZ (cx D)];exact l
 have e:Ext H (upd (upd H b (.own a)) a (.ins C b [])):=d.trans (Ext.new c);refine⟨[.ref a],put M a (.ins C []),_,aa.cons rfl aa.nil,(j.new m).cS c ⟨b,[],rfl,rfl⟩,A a (j.free l),λrv M2 v o i r E n=>?_⟩
 obtain⟨rfl,i⟩:=i;simp only[Rep]at n;exact⟨n,w _ M2 _ o i (e.trans r) E rfl⟩
theorem gJ{sc:Scope}{x:Str}(h:gw sc x=true):sc.names.lookup x=some .globalImplicit/\(x==("__debug__":Str))=false:=by
 unfold gw at h;rw[bj,eW,i9]at h;exact h
theorem Zg{x:Str}(h:jE x=true):(x==("__debug__":Str))=false/\(x==("__classdict__":Str))=false:=by
 unfold jE at h
 rwa [bj,i9,i9]at h
theorem HW{tg e:Expr}{l:Nat}{env:Env}(h:cN e=true)(a:mX e=false):swapsWithSole [tg] e l env=pure false:=u3 h a
theorem mem_of[BEq α][LawfulBEq α]{a:α}{l:List α}(h:l.contains a=true):a∈l:=by simpa using h
theorem Xs{o i:Expr}{p:Pos}(h:cN i=true):∀v,assign (.Subscript o i p) X.env v=(do
 let a<-holding [v] (eval o X.env)
 let iv<-holding [v,a] (eval i X.env)
 standAt p
 holding [v,a,iv] (setItem a iv v)
 release [v,a,iv] []):=by intro v;cases i<;>first|rfl|cases h
theorem Jv{K:ah}(h:up K (tQ neg ss ta) σ0 H Q0):ua (ub K (vS K neg)) (up K ta) (up K (Pt K ss)) σ0 H Q0:=by
 obtain⟨σ,M,Q,hs,hv,ht,hk⟩:=h;refine⟨σ,M,_,hs,hv,ht,λrx M1 x H1 q e1 v1 r1=>?_⟩
 refine⟨σ,M1,λy M2=>∃p,y= .ref p/\zt K p ss/\M2=M1,hs.ext e1,v1,λp hp=>⟨p,rfl,hp,rfl⟩,λry M2 y H2 q2 e2 v2 r2=>?_⟩
 obtain⟨p,rfl,hp,rfl⟩:=q2;exact⟨rx,.ref p,_,Q,Rep.ext e2 _ _ r1,r2,v2,⟨ss,hp,q.1,q.2⟩,hk.ext (e1.trans e2)⟩
theorem KJ{op:CmpOp}{a:Expr}{x:Str}{p pos:Pos}(e:cz X (compareOp op) (vS X.K neg))(h:tY X.K X.mg x ss)(b:aj X a ta)(d:Gl X x)(c:(x==("__debug__":Str))=false):aj X (.Compare a [op] [.Name x p] pos) (tQ neg ss ta)/\d8 X (.Compare a [op] [.Name x p] pos) (ma (tQ neg ss ta)):=
 ⟨PE.imp (Jx e b (PH h d c) (lU rfl)) λ_ _ _ h=>Jv h,PT.imp (IY e b (PH h d c) (lU rfl)) λσ0 H k h=>by
  obtain⟨j,M,Q,hs,i,g,f⟩:=h;exact Jv ⟨j,M,_,hs,i,g,qG f⟩⟩
theorem Ll{o e:Expr}{ap p:Pos}(h0:gM o=false)(b:gX ap p=true)(a:cN e=true):M1 X o m ap e p where
 base:=lR h0
 mU:=by rw[uX (by rw[fz,a];rfl)];rfl
 line:=b
 trees:=back_eq (by rw[fz,a];rfl)
theorem qv6{o e f:Expr}{ap p:Pos}(h0:gM o=false)(c:gX ap p=true)(a:cN e=true)(b:cN f=true):M2 X o m ap e f p where
 base:=lR h0
 mU:=by rw[uX (by rw[fz,fz,a,b];rfl)];rfl
 line:=c
 trees:=back_eq (by rw[fz,fz,a,b];rfl)
end
section
variable {X:Cx}{Γ:G}{k:Nat}{fc:Bool}{N:az}{sc:Scope}
theorem fS.var(O:fS Γ k fc N sc X){i:Nat}{x:Str}(h:N[i]? =some x):aj X (.Name x pos) (rA i):=by
 have m:=O.vis x (jw h);have d:=Zg m.2;exact rv i (by rw[O.hN];exact h) m.1 d.1 d.2
theorem fS.rL(O:fS Γ k true N sc X){i:Nat}{x:Str}{e:Expr}{pos a:Pos}(h:N[i]? =some x)(c:aj X e te)(hs:swapsWith e (some (.Name x a)) pos.line X.env=pure false):eL X (.Assign [.Name x a] e pos) (vN i te):=by
 obtain⟨b,g,f,d,_⟩:=O.fn rfl;exact sset i c (by rw[O.hN];exact g) (by rw[O.hN];exact h) (by rw[b];exact f x (jw h)) hs (.inl (d x))
theorem fS.gN(O:fS Γ k true N sc X){i:Nat}{x:Str}(h:N[i]? =some x):nY X (.Name x pos) (jU i):=by
 obtain⟨a,d,c,b,_⟩:=O.fn rfl;exact qwq i (by rw[O.hN];exact d) (by rw[O.hN];exact h) (by rw[a];exact c x (jw h)) (.inl (b x))
theorem HJ(O:fS Γ k true N sc X):∀(is:List Nat) (es:bc),lY N is es=true->nX X es (mz is)/\(assignEach es X.env).length=is.length/\(assignEach es X.env).findIdx? (·.1)=none
 | [],[],_=>⟨Jw,rfl,rfl⟩
 | [],_::_,h=>by cases h
 |i::is,[],h=>by cases h
 |i::is,e::es,h=>by
  cases e<;>try (cases h;done)
  rename_i x p;change (_&&lY N is es)=true at h;simp only[bj,eW]at h;obtain⟨d,l,j,g,_⟩:=O.fn rfl;obtain⟨a,b,c⟩:=HJ O is es h.2;have f:(assignEach (.Name x p::es) X.env)=(false,assign (.Name x p) X.env)::assignEach es X.env:=rfl;refine⟨IH (yr (i:=i) (by rw[O.hN];exact l) (by rw[O.hN];exact h.1) (by rw[d];exact j x (jw h.1)) (.inl (g x))) a,by rw[f,bW,b];rfl,by rw[f,List.findIdx?_cons,c];rfl⟩
theorem gT(O:fS Γ k true N sc X){is:List Nat}(h:lY N is es=true):nY X (.Tuple es j pos) (wj is):=by
 obtain⟨a,b,c⟩:=HJ O is es h;exact RQ O.calm a rfl b c
theorem yE{nm:az}{s:Shared}(O:fS Γ k fc N sc X)(hs:tM N sc scope nm cap=true):
 fS Γ k false (nm++cap.map Prod.snd) scope (fH X scope cl C (nm++cap.map Prod.snd) s H fp):=by
 unfold tM at hs;simp only[bj,fx,eW]at hs;obtain⟨⟨⟨⟨⟨⟨⟨a,_⟩,_⟩,_⟩,_⟩,c⟩,_⟩,b⟩:=hs;refine⟨rfl,λx hx=>⟨?_,b x hx⟩,λx h=>Qc h,O.calm,O.room,(λh=>by cases h),λh=>by cases h⟩
 rcases c6.mp hx with hx|hx
 . exact .inl (lookup_relabel_local (c x hx))
 . obtain⟨p,d,rfl⟩:=aA.mp hx
   exact .inr (GR (a p d).1.2)
theorem LA{x:Str}(h:cf sc x=true):sc.names.lookup x=some .cell∨sc.names.lookup x=some .free:=by
 unfold cf at h
 rwa [Bool.or_eq_true,eW,eW]at h
theorem Lc{tup:Bool}{tg:Expr}{nm:az}(h:yM tup tg nm=true):t8 tup tg nm:=by
 unfold yM at h;unfold t8;split at h
 . simpa using h
 . simpa using h
 . cases h
theorem HX{nm:az}(hs:tM N sc scope nm cap=true):vf N sc scope nm cap:=by
 unfold tM at hs;simp only[bj,fx,eW,ib]at hs;obtain⟨⟨⟨⟨⟨⟨⟨a,h⟩,f⟩,g⟩,i⟩,c⟩,l⟩,j⟩:=hs;refine⟨λp d=>⟨(a p d).1.1,(a p d).1.2,LA (a p d).2⟩,λy b e=>?_,λy b e=>?_,g,λy b e=>?_,c,l⟩
 . have:=h y b
   rw[e]at this;exact LA (by simpa using this)
 . have:=f y b
   rw[e]at this;simp at this
 . have:=i y b
   rw[e]at this;simpa using this
end
section
variable {Γ:G}{k:Nat}{X:Cx}{fc:Bool}{N:az}{sc:Scope}
theorem quT{gs:List Comprehension}{p:Pos}{x:Str}{l:Nat}(O:fS Γ k true N sc X)(h:sc.names.lookup x=some .cell):swapsWith (.ListComp el gs scope p) (some (.Name x px)) l X.env=pure false:=by
 obtain⟨_,_,_,_,_,b,a⟩:=O.fn rfl;show(pure (X.env.blockKind== .function&&X.env.kindOf x==some .local&&px.line==p.line&& !(scope.names.any λ(n,k)=>n==x&&(k== .local||k== .cell))):Sem Bool)=_
 rw[a,h,show((some NameKind.cell:Option NameKind)==some .local)=false from by decide]
 simp
theorem quS{gs:List Comprehension}{scope:Scope}{p:Pos}{x:Str}{a:Pos}{l:Nat}(O:fS Γ k true N sc X)(h:sc.names.lookup x=some .local)(e:a.line=p.line)(b:(scope.names.any λy=>y.1==x&&(y.2== .local||y.2== .cell))=false):swapsWith (.ListComp el gs scope p) (some (.Name x a)) l X.env=pure true:=by
 obtain⟨_,_,_,_,_,c,d⟩:=O.fn rfl;show(pure (X.env.blockKind== .function&&X.env.kindOf x==some .local&&a.line==p.line&& !(scope.names.any λ(n,k)=>n==x&&(k== .local||k== .cell))):Sem Bool)=_
 rw[d,h,c,e];have:(scope.names.any λ(n,k)=>n==x&&(k== .local||k== .cell))=false:=b
 rw[this];simp
theorem XO{elt iter tg:Expr}{nm:az}{tup md:Bool}{pos i6:Pos}(O:fS Γ k true N sc X)(i:Nat)(c:vf N sc scope nm cap)(htg:t8 tup tg nm)(hi:jd X tg iter ti)
 (hif:∀cl C s H fp,tZ (fH X scope cl C (nm++cap.map Prod.snd) s H fp) ifs tt) (hel:∀cl C s H fp,aj (fH X scope cl C (nm++cap.map Prod.snd) s H fp) elt te) (hs:∀v,foldedSetIterable iter X.env v=pure v) (hiN:N[i]? =some y)
 (hsw:swapsWith (.ListComp elt [⟨tg,iter,ifs,0⟩] scope pos) (some (.Name y py)) i6.line X.env=pure true):
 eL X (.Assign [.Name y py] (.ListComp elt [⟨tg,iter,ifs,0⟩] scope pos) i6) (vN i (vd (gk tup nm.length) md ti (cap.map Prod.fst) tt te)):=by
 obtain⟨hsc,nd,hl,hf,_⟩:=O.fn rfl;rintro pins s σ0 H D0 I ⟨σ,M,D,hst,hv,ht,hd⟩;rw[exec_Assign_Name_used _ _ _ _ hsw];refine ai (wpAny_standAt (ai ?_));show wpAny _ _ (do let _<-comprehension (.ListComp elt [⟨tg,iter,ifs,0⟩] scope pos) scope X.env _ (newList []) false (eval iter X.env) (some (assign (.Name y py) X.env))) _ _ s
 refine ai (gQ (Il (PP:=λ_ s'=>∃σ' H',Inv X pins σ' H' s'/\D0.nx σ' H') htg O.calm hi hif hel hsc O.hN c hs I (Q0:=λv H'=>D0.nx (σ0.set i (some v)) H') ⟨σ,M,_,hst,hv,ht,λrx M1 v H1 q e1 v1 r1=>hd.nx _ M1 _ H1 q e1 v1 ((hst.ext e1).set r1 i)⟩ ?_) (λ_ s' hq=>aC (aC hq)) λ_ _ e=>e)
 intro D C s5 m5 H5 hn inv q hC hL hS hce hpi;have J:Inv X pins σ0 H5 s5:=inv s5.heap (Heap.SameBut.refl ..);refine wpAny_assign_Name (Hq J (by rw[O.hN];exact nd) (by rw[O.hN];exact hiN) (by rw[hsc];exact hl y (jw hiN)) (v:=.ref D) rfl (λs6 I6 sb=>?_) (.inl (hf y)))
 obtain⟨a,sb,ha⟩:=sb;have hCa:C≠a:=by
  obtain rfl|e:=ha
  . exact hL
  . exactλz=>hce y a e z.symm
 obtain⟨o,es,ep,ho,r⟩:=hn;refine⟨m5,⟨o,es,ep,sb.extBut _ _ hCa ho,r⟩,λh' sb'=>⟨_,H5,Inv.turned (t':=s6.toks) (it:=C) I6 (λb o hb e=>sb'.extBut b o hb e) hC hL (.inr hS) hce hpi,q⟩⟩
theorem X3{elt iter tg:Expr}{nm:az}{tup md:Bool}(O:fS Γ k true N sc X)(c:vf N sc scope nm cap)(htg:t8 tup tg nm)(hi:jd X tg iter ti)
 (hif:∀cl C s H fp,tZ (fH X scope cl C (nm++cap.map Prod.snd) s H fp) ifs tt) (hel:∀cl C s H fp,aj (fH X scope cl C (nm++cap.map Prod.snd) s H fp) elt te) (hs:∀v,foldedSetIterable iter X.env v=pure v):
 aj X (.ListComp elt [⟨tg,iter,ifs,0⟩] scope pos) (vd (gk tup nm.length) md ti (cap.map Prod.fst) tt te):=by
 obtain⟨hsc,nd,hl,hf,_⟩:=O.fn rfl;intro pins s σ0 H Q0 I hw;rw[eval_ListComp];exact Il htg O.calm hi hif hel hsc O.hN c hs I hw (use:=none) λD C s5 m5 H5 hn inv q hC hL hS hce hpi=>⟨m5,hn,λh' sb=>⟨.ref D,H5,inv h' sb,rfl,q⟩⟩
end
section
variable {X:Cx}{Γ:G}{t:T}{nd:Nd}
theorem IG{op:BoolOp}{vs:bc}{p:Pos}{t:dP}(h:d8 X (.BoolOp op vs p) t):mR X (.BoolOp op vs p) t:=λwhole a s b H Q I w=>h a s b H Q I w
theorem yH{f g:Expr->Bool}(a:∀x,f x=true->aj X x (tr Γ t).E)(b:∀x,g x=true->d8 X x (tr Γ t).T)(h:uN nd f g=true):Good Γ X t nd:=by
 cases nd<;>first|(cases h;done)|exact b _ h|exact a _ (jk h).2
theorem Zb(a:∀x,f x=true->eL X x (tr Γ t).S)(h:gZ nd f=true):Good Γ X t nd:=by
 cases nd<;>first|(cases h;done)|exact a _ h
theorem KO(a:∀x,f .a x=true->eJ X x (tr Γ t).A)(b:∀x,f .l x=true->zW X x (tr Γ t).L)(h:AD nd f=true):Good Γ X t nd:=by
 cases nd<;>first|(cases h;done)|exact a _ h|exact b _ h
theorem sX(a:∀tg x,f tg x=true->jd X tg x (tr Γ t).I)(h:cY nd f=true):Good Γ X t nd:=by
 cases nd<;>first|(cases h;done)|exact a _ _ h
theorem KL(a:∀x,f x=true->rW X x (tr Γ t).P)(h:AF nd f=true):Good Γ X t nd:=by
 cases nd<;>first|(cases h;done)|exact a _ h
theorem KN(a:∀x,f x=true->kD X x (tr Γ t).S)(h:AE nd f=true):Good Γ X t nd:=by
 cases nd<;>first|(cases h;done)|exact a _ h
theorem Rm{st:Stmt}:eL X st (λ_ _ _=>False):=λpins s b H c I h=>by
 obtain⟨f,M,D,hs,e,a,d⟩:=h;exact a.elim
theorem quY{st:List Stmt}:kD X st (λ_ _ _=>False):=λpins s b H c I h=>by
 obtain⟨f,M,D,hs,e,a,d⟩:=h;exact a.elim
end
theorem quU{x y:Str}{c d pt b:Pos}{kt j:Nat}{u v:Expr}{env:Env}(e:env.blockKind= .function)(hx:env.kindOf x=some .local)(i:env.kindOf y=some .local)(h:d.line=c.line)(k:¬y=x)(a:[u,v].all cN=true)(g:[u,v].all (foldedForSure 8)=false)(f:[u,v].all (constantsAlone 8)=false):
 swappedStores [.Tuple [.Name x c,.Name y d] kt pt] (.Tuple [u,v] j b) env=pure (some [x,y]):=by
 unfold swappedStores;have en:([x,y]:az).eraseDups.length=2:=by
  have:(y==x)=false:=by simpa using k
  simp[List.eraseDups_cons,this]
 simp only[fz,List.all_nil,Bool.and_true,bj]at a;simp[e,hx,i,h,g,f,en,show ∀x p,(Expr.Name x p).pos=p fromλ_ _=>rfl]
 rintro (z|z)
 . split at z
   . cases a.1
   . cases z
 . split at z
   . cases a.2
   . cases z
theorem qw2{v:Str}(h:C9 ps v=true):∃an p,ps=⟨[],[⟨v,an,p⟩],none,[],[],none,[]⟩:=by
 unfold C9 at h;simp only[bj,List.isEmpty_iff,Option.isNone_iff_eq_none]at h;obtain⟨⟨⟨⟨⟨⟨i,j⟩,k⟩,l⟩,m⟩,n⟩,o⟩:=h;obtain⟨a,b,c,d,e,f,g⟩:=ps;cases i;cases j;cases k;cases l;cases m;cases n;refine fZ (C:=λb=>∃an p,(⟨[],b,none,[],[],none,[]⟩:Arguments)=⟨[],[⟨v,an,p⟩],none,[],[],none,[]⟩) o λy r=>?_
 obtain⟨u,s,t⟩:=y;obtain rfl:=gG r;exact⟨s,t,rfl⟩
theorem qwL{sc:Scope}{env:Env}(h:∀y∈sc.names,y.2≠.free):closureFor sc env=pure []:=by
 unfold closureFor;have:∀(l:List (Str×NameKind)) (cs:List (Str×Addr)),(∀y∈l,y.2≠.free)->(forIn l cs λx r=>do
  let(name,kind):=x
  if(kind== .free)=true then do
   let y<-cellOf env name
   pure (ForInStep.yield ((name,y)::r))
  else pure (ForInStep.yield r):Sem (List (Str×Addr)))=pure cs:=by
  intro l
  induction l with
  |nil=>intro cs _;rfl
  |cons y l ih=>
   intro cs a;rw[ug];have:(y.2==NameKind.free)=false:=by simpa using a y (.head _)
   simp only[this,kK,if_false,pure_bind];exact ih cs λz b=>a z (.tail _ b)
 have e:=this sc.names [] h;simp only[]at e ⊢
 first
  |(rw[e];rfl)
  |(simp only[bind_pure];exact e)
theorem bind1{v:Str}{an:Option Expr}{p:Pos}{sc:Scope}(name qual)(body)(pm cd ct u):bindArgs (PySem.W.kla_fn name qual ⟨[],[⟨v,an,p⟩],none,[],[],none,[]⟩ body sc [] pm cd ct) ⟨[u],[]⟩=pure [(v,u)]:=by
 have e:([(v,u)]:List (Str×Value)).lookup v=some u:=by simp
 unfold bindArgs;simp[seqItems?,PySem.W.kla_fn,e];rfl
theorem OO{v:Str}{an:Option Expr}{p:Pos}{sc:Scope}(h:C4 v sc=true):yV v ⟨[],[⟨v,an,p⟩],none,[],[],none,[]⟩ sc/\∀env:Env,closureFor sc env=pure []:=by
 unfold C4 jE at h;simp only[bj,fx,eW,bne_iff_ne,i9]at h;obtain⟨⟨⟨⟨⟨c,b⟩,d⟩,e⟩,f⟩,g,i⟩:=h;exact⟨⟨bind1,c,λy a=>(b y a).1,d,e,f,g⟩,λ_=>qwL λy a=>(b y a).2⟩
theorem Ha{sc:Scope}{t:T}(O:fS Γ k false N sc X)(W:Wd X.prog X.w X.K X.mg X.base Γ k)
 (e:∀{a:Bool} {N:az} {sc:Scope} {X:Cx},fS Γ k a N sc X->Wd X.prog X.w X.K X.mg X.base Γ k->∀{d},mt Γ.S a N sc t d=true->Good Γ X t d)
 (h:(match ifs with| []=>CP t| [c]=>mt Γ.S false N sc t (.t c)|_=>false)=true):tZ X ifs (tr Γ t).T:=by
 split at h
 . revert h
   exactλh=>di h λi=>T.b.elim t i λb h=>by cases b<;>first|exact QQ|cases h
 . exact QO (e O W h)
 . cases h
set_option hygiene false in
theorem sound:∀(t:T) {fc:Bool} {N:az} {sc:Scope} {X:Cx},fS Γ k fc N sc X->Wd X.prog X.w X.K X.mg X.base Γ k->∀{nd},mt Γ.S fc N sc t nd=true->Good Γ X t nd:=by
 intro t
 induction t<;>intro fc N sc X O W nd h
 case v i=>
  refine qI rfl (λx hx=>?_) h;refine gL hx λ_ _ hx=>?_
  exact O.var (by simpa using hx)
 case i n=>
  refine qI rfl (λx hx=>?_) h;refine yY hx λm _ _ hx=>?_
  obtain rfl:=gG hx;exact ri
 case s n=>
  refine qI rfl (λx hx=>?_) h;refine yY hx λm _ _ hx=>?_
  obtain rfl:=gG hx;exact rs
 case b n=>
  refine qI rfl (λx hx=>?_) h;refine yY hx λm _ _ hx=>?_
  obtain rfl:=gG hx;exact rb
 case n=>
  refine qI rfl (λx hx=>?_) h;refine yY hx λ_ _ _ hx=>?_
  obtain rfl:=gG hx;exact rn
 case g x0=>
  refine qI rfl (λx hx=>?_) h;refine gL hx λ_ _ hx=>?_
  simp only[bj,eW]at hx;obtain⟨⟨rfl,h1⟩,h2⟩:=hx;obtain⟨h2,h3⟩:=gJ h2;obtain⟨i,hi⟩:=zK.mp h1;rw[hi];exact rgi (W.gi _ _ hi) (O.gl _ h2) h3
 case ty x0=>
  refine qI rfl (λx hx=>?_) h;refine gL hx λ_ _ hx=>?_
  simp only[bj,eW]at hx;obtain⟨⟨⟨rfl,h1⟩,h2⟩,h3⟩:=hx;exact Z3 h1 (W.bl _ (mem_of h2)) (O.gl _ (gJ h3).1)
 case op o a b iha ihb=>
  refine qI rfl (λx hx=>?_) h;refine qwJ hx λ_ _ _ _ hx=>?_
  simp only[bj,eW]at hx;obtain⟨⟨rfl,h1⟩,h2⟩:=hx;exact rop (YI o) (iha O W h1) (ihb O W h2)
 case cm o a b iha ihb=>
  refine uV rfl (λx hx=>?_) h
  refine ve hx λ_ _ _ _ hx=>?_
  simp only[bj,eW]at hx;obtain⟨⟨rfl,h1⟩,h2⟩:=hx;exact⟨Se (sY O.room.units o) (iha O W h1) (ihb O W h2) (lU (dh h2)),qvi (sY O.room.units o) (iha O W h1) (ihb O W h2) (lU (dh h2))⟩
 case ch o p a b c iha ihb ihc=>
  refine uV rfl (λx hx=>?_) h
  refine LM hx λ_ z1 z2 _ hx=>?_
  refine tK hx λ_ _ hx=>?_
  refine tK hx λ_ _ hx=>?_
  simp only[bj,eW]at hx;obtain⟨⟨⟨⟨rfl,rfl⟩,h1⟩,h2⟩,h3⟩:=hx;exact⟨X4 (sY O.room.units _) (sY O.room.units _) (iha O W h1) (ihb O W h2) (ihc O W h3) (He (dh h3)),V9 (sY O.room.units _) (sY O.room.units _) (iha O W h1) (ihb O W h2) (ihc O W h3) (He (dh h3))⟩
 case an a b iha ihb=>
  refine yH (λx hx=>?_) (λx hx=>?_) h
  . refine yX hx λz1 z2 p hx=>?_
    refine qT hx λhx=>?_
    refine i3 hx λx z3 hx=>?_
    refine i3 hx λy r hx=>?_
    simp only[bj]at hx;have h1:=iha O W hx.1;have h2:=ihb O W hx.2;cases r with
    |nil=>exact K8 h1 (Pd (h2:aj X y _))
    |cons z r=>exact K8 h1 h2
  . refine yX hx λz1 z2 p hx=>?_
    refine qT hx λhx=>?_
    refine i3 hx λx z3 hx=>?_
    refine i3 hx λy r hx=>?_
    simp only[bj]at hx;have h1:=iha O W hx.1;have h2:=ihb O W hx.2;cases r with
    |nil=>exact zE (rand h1 (qvw (h2:d8 X y _)))
    |cons z r=>exact zE (rand h1 (IG h2))
 case or a b iha ihb=>
  refine yH (λx hx=>?_) (λx hx=>?_) h
  . refine yX hx λz1 z2 p hx=>?_
    refine qT hx λhx=>?_
    refine i3 hx λx z3 hx=>?_
    refine i3 hx λy r hx=>?_
    simp only[bj]at hx;have h1:=iha O W hx.1;have h2:=ihb O W hx.2;cases r with
    |nil=>exact Pc h1 (Pd (h2:aj X y _))
    |cons z r=>exact Pc h1 h2
  . refine yX hx λz1 z2 p hx=>?_
    refine qT hx λhx=>?_
    refine i3 hx λx z3 hx=>?_
    refine i3 hx λy r hx=>?_
    simp only[bj]at hx;have h1:=iha O W hx.1;have h2:=ihb O W hx.2;cases r with
    |nil=>exact zE (PJ h1 (R9 (h2:d8 X y _)))
    |cons z r=>exact zE (PJ h1 (IG h2))
 case no a iha=>
  refine yH (λx hx=>?_) (λx hx=>?_) h
  . refine LI hx λz1 _ _ hx=>?_
    refine qT hx λhx=>?_
    exact qvn (iha O W hx)
  . refine LI hx λz1 _ _ hx=>?_
    refine qT hx λhx=>?_
    exact qvh (iha O W hx)
 case ie t a b iht iha ihb=>
  refine qI rfl (λx hx=>?_) h;refine qwI hx λ_ _ _ _ hx=>?_
  simp only[bj,eW]at hx;obtain⟨⟨h1,h2⟩,h3⟩:=hx;exact rif (iht O W h1) (iha O W h2) (ihb O W h3)
 case tu a iha=>
  refine qI rfl (λx hx=>?_) h;refine vL hx λ_ _ _ hx=>?_
  exact R7 (iha O W hx)
 case ll a iha=>
  refine qI rfl (λx hx=>?_) h;refine LJ hx λ_ _ hx=>?_
  exact Sb (iha O W hx)
 case lm a iha=>
  refine qI rfl (λx hx=>?_) h;refine LJ hx λ_ _ hx=>?_
  exact Sa (iha O W hx)
 case e0=>
  refine KO (λx hx=>?_) (λx hx=>?_) h
  . refine iB hx λ_=>?_
    exact Dc
  . refine iB hx λ_=>?_
    rfl
 case ec a r iha ihr=>
  refine KO (λx hx=>?_) (λx hx=>?_) h
  . refine i3 hx λ_ _ hx=>?_
    have hx:=jk hx;exact yS (iha O W hx.1) (ihr O W hx.2) (iz (dh hx.1))
  . refine i3 hx λ_ _ hx=>?_
    have hx:=jk hx;exact⟨_,_,rfl,iha O W hx.1,ihr O W hx.2⟩
 case ix a b iha ihb=>
  refine qI rfl (λx hx=>?_) h;refine qU hx λ_ _ _ hx=>?_
  simp only[bj,eW]at hx;obtain⟨h1,h2⟩:=hx;exact rix (iha O W h1) (ihb O W h2) (BI (dh h2))
 case sl a l h0 iha ihl ihh=>
  refine qI rfl (λx hx=>?_) h;refine qU hx λ_ z1 _ hx=>?_
  refine qwG hx λ_ _ z2 _ hx=>?_
  refine CC hx λhx=>?_
  simp only[bj,eW]at hx;obtain⟨⟨h1,h2⟩,h3⟩:=hx;exact rsl (iha O W h1) (ihl O W h2) (ihh O W h3)
 case p0=>
  refine KL (λx hx=>?_) h
  refine CC hx λhx=>?_
  exact qvM
 case p1 a iha=>
  refine KL (λx hx=>?_) h
  refine Lh hx λ_ hx=>?_
  exact qvI (iha O W hx)
 case fl c f a iha=>
  refine qI rfl (λx hx=>?_) h;refine vM hx λ_ _ _ hx=>?_
  simp only[bj,eW]at hx;obtain⟨⟨⟨rfl,h1⟩,h2⟩,h3⟩:=hx;exact qwx (W.fs _ _ (mem_of h1)).1 (W.fs _ _ (mem_of h1)).2 (iha O W h3) (by simpa using h2)
 case ca f a iha=>
  refine qI rfl (λx hx=>?_) h;refine l6 hx λx p es p' hx=>?_
  simp only[bj]at hx;obtain⟨⟨h1,h2⟩,h3⟩:=hx;cases e:Γ.S.fd[f]? with
  |none=>rw[e]at h1;cases h1
  |some d=>
  rw[e]at h1;simp only[bj,eW]at h1;obtain⟨h1,rfl⟩:=h1;obtain⟨h2,h4⟩:=gJ h2;cases es with
  |nil=>
   have:=CU h3;subst this;exact Wh (W.fn f d e h1) O.room (O.gl _ h2) h4
  |cons z es=>
   have ho:=jh h3;rw[fz,bj]at ho;exact X7 (W.fn f d e h1) O.room (iha O W h3) (O.gl _ h2) h4 (iz ho.1) (sR ho.2)
 case me f o a iho iha=>
  cases ef:Γ.S.fd[f]? with
  |none=>
   refine qI (r:=hO) (by show ex _=_;rw[ef]) (λx hx=>BJ) h
  |some d=>
   refine qI (r:=rN (Γ.C d.cls) d.name (Γ.fn f) (tr Γ o).E (tr Γ a).A) (by show ex _=_;rw[ef]) (λx hx=>?_) h
   refine l7 hx λx m ap es p hx=>?_
   rw[ef]at hx;simp only[bj,eW,ib]at hx;obtain⟨⟨⟨⟨⟨⟨h1,rfl⟩,h2⟩,h3⟩,h4⟩,h5⟩,h6⟩:=hx;have W1:=W.me f d ef h1;cases es with
   |nil=>
    have:=CU h6;subst this;exact Yo W1.2 W1.1 O.room (iho O W h5) (by simpa using h2) h3
   |cons z es=>exact qv4 W1.2 W1.1 O.room (iho O W h5) (iha O W h6) (by simpa using h2) (jh h6) h4 h3
 case mk f a iha=>
  cases ef:Γ.S.fd[f]? with
  |none=>
   refine qI (r:=hO) (by show ex _=_;rw[ef]) (λx hx=>BJ) h
  |some d=>
   refine qI (r:=tG (Γ.C d.cls) (Γ.mW f) (tr Γ a).A) (by show ex _=_;rw[ef]) (λx hx=>?_) h
   refine l6 hx λx p es p' hx=>?_
   rw[ef]at hx;simp only[bj,eW]at hx;obtain⟨⟨⟨h1,h1'⟩,h2⟩,h3⟩:=hx;obtain⟨h2,h4⟩:=gJ h2;obtain⟨j,hj,F⟩:=W.mW f d ef h1;have C1:=W.cl _ _ h1';cases es with
   |nil=>
    have:=CU h3;subst this;exact Wg F (O.room.mono hj) C1.2 (O.gl _ h2) h4
   |cons z es=>
    have ho:=jh h3;rw[fz,bj]at ho;exact XX F (O.room.mono hj) C1.2 (iha O W h3) (O.gl _ h2) h4 (iz ho.1) (sR ho.2)
 case bf f a iha=>
  refine qI rfl (λx hx=>?_) h;refine l6 hx λx p es p' hx=>?_
  simp only[bj,eW]at hx;obtain⟨⟨⟨⟨⟨rfl,h1⟩,h2⟩,h3⟩,h4⟩,h5⟩:=hx;obtain⟨h3,h6⟩:=gJ h3;cases es with
  |nil=>cases h4
  |cons z es=>exact qwX O.calm h1 (W.bl _ (mem_of h2)) (O.gl _ h3) h6 (iha O W h5) (jh h5)
 case bt f a iha=>
  refine qI rfl (λx hx=>?_) h;refine l6 hx λx p es p' hx=>?_
  simp only[bj,eW]at hx;obtain⟨⟨⟨⟨⟨rfl,h1⟩,h2⟩,h3⟩,h4⟩,h5⟩:=hx;obtain⟨h3,h6⟩:=gJ h3;cases es with
  |nil=>cases h4
  |cons z es=>exact Y3 O.calm h1 (W.bl _ (mem_of h2)) (O.gl _ h3) h6 (iha O W h5) (jh h5)
 case ap o a iho iha=>
  refine qI rfl (λx hx=>?_) h;refine l7 hx λ_ _ _ z1 _ hx=>?_
  refine fZ hx λ_ hx=>?_
  simp only[bj,eW]at hx;obtain⟨⟨⟨⟨rfl,h1⟩,h2⟩,h3⟩,h4⟩:=hx;exact Wi (iho O W h3) (iha O W h4) (lR (by simpa using h1)) (by rw[uX (jh h4)];rfl) h2 (iz (by have:=jh h4;rw[fz,bj]at this;exact this.1)) rfl
 case jn o a iho iha=>
  refine qI rfl (λx hx=>?_) h;refine l7 hx λ_ _ _ z1 _ hx=>?_
  refine fZ hx λ_ hx=>?_
  simp only[bj,eW]at hx;obtain⟨⟨⟨⟨rfl,h1⟩,h2⟩,h3⟩,h4⟩:=hx;exact qvr (iho O W h3) (iha O W h4) (lR (by simpa using h1)) (by rw[uX (jh h4)];rfl) h2 (iz (by have:=jh h4;rw[fz,bj]at this;exact this.1)) rfl
 case dg d k0 ihd ihk=>
  refine qI rfl (λx hx=>?_) h;refine qU hx λ_ _ _ hx=>?_
  simp only[bj,eW]at hx;obtain⟨h1,h2⟩:=hx;exact Z2 (kr O.room) (ihd O W h1) (ihk O W h2) (BI (dh h2))
 case dn neg k0 d ihk ihd=>
  refine uV rfl (λx hx=>?_) h
  refine ve hx λ_ _ _ _ hx=>?_
  simp only[bj,eW]at hx;obtain⟨⟨h0,h1⟩,h2⟩:=hx;have g1:=ihk O W h1;have g2:=ihd O W h2;cases neg with
  |true=>rw[ag rfl]at h0;subst h0;exact⟨Wm (kr O.room) g1 g2 (lU (dh h2)),UE (kr O.room) g1 g2 (lU (dh h2))⟩
  |false=>rw[ab ⋯]at h0;subst h0;exact⟨QM (kr O.room) g1 g2 (lU (dh h2)),qux (kr O.room) g1 g2 (lU (dh h2))⟩
 case d1 d k0 ihd ihk=>
  refine qI rfl (λx hx=>?_) h;refine l7 hx λ_ _ _ z1 _ hx=>?_
  refine fZ hx λ_ hx=>?_
  simp only[bj,eW]at hx;obtain⟨⟨⟨⟨rfl,h1⟩,h2⟩,h3⟩,h4⟩:=hx;exact Yh (kr O.room) (ihd O W h3) (ihk O W h4) (Ll (by simpa using h1) h2 (dh h4))
 case d2 d k0 z ihd ihk ihz=>
  refine qI rfl (λx hx=>?_) h;refine l7 hx λ_ _ _ z1 _ hx=>?_
  refine tK hx λ_ _ hx=>?_
  simp only[bj,eW]at hx;obtain⟨⟨⟨⟨⟨rfl,h1⟩,h2⟩,h3⟩,h4⟩,h5⟩:=hx;exact Yg (kr O.room) (ihd O W h3) (ihk O W h4) (ihz O W h5) (qv6 (by simpa using h1) h2 (dh h4) (dh h5))
 case dk=>
  refine qI rfl (λx hx=>?_) h;refine LL hx λz1 z2 _ hx=>?_
  refine iB hx λhx=>?_
  refine iB hx λhx=>?_
  exact qvt
 case dt=>
  refine qI rfl (λx hx=>?_) h;refine LL hx λz1 z2 _ hx=>?_
  refine iB hx λhx=>?_
  refine iB hx λhx=>?_
  exact X1
 case ic neg a x0 iha=>
  cases ef:Γ.S.gt.lookup x0 with
  |none=>
   refine uV (r:=hO) (by show ex _=_;rw[ef]) (λx hx=>?_) h
   refine ve hx λ_ _ z1 _ hx=>?_
   refine gL hx λ_ _ hx=>?_
   rw[ef]at hx;simp at hx
  |some ss=>
   refine uV (r:=tQ neg ss (tr Γ a).E) (by show ex _=_;rw[ef]) (λx hx=>?_) h
   refine ve hx λ_ _ z1 _ hx=>?_
   refine gL hx λ_ _ hx=>?_
   simp only[bj,eW]at hx;obtain⟨⟨⟨⟨h0,rfl⟩,_⟩,h2⟩,h3⟩:=hx;obtain⟨h2,h4⟩:=gJ h2;have g:=iha O W h3;cases neg with
   |true=>rw[ag rfl]at h0;subst h0;exact KJ (WH O.room.units) (W.gt _ _ ef) g (O.gl _ h2) h4
   |false=>rw[ab ⋯]at h0;subst h0;exact KJ (RF O.room.units) (W.gt _ _ ef) g (O.gl _ h2) h4
 case tx x0 a iha=>
  refine qI rfl (λx hx=>?_) h;refine qU hx λz1 _ _ hx=>?_
  refine gL hx λ_ _ hx=>?_
  simp only[bj,eW]at hx;obtain⟨⟨⟨rfl,h1⟩,h2⟩,h3⟩:=hx;exact R8 (W.tb _ (mem_of h1)) (iha O W h3) (BI (dh h3)) (O.gl _ (gJ h2).1) (gJ h2).2
 case tg x0 a iha=>
  cases ef:Γ.S.tt.lookup x0 with
  |none=>refine qI (r:=hO) (by show ex _=_;rw[ef]) (λx hx=>BJ) h
  |some l=>
   refine qI (r:=yp l (tr Γ a).E) (by show ex _=_;rw[ef]) (λx hx=>?_) h
   refine l7 hx λz1 _ _ z2 _ hx=>?_
   refine gL hx λ_ _ hx=>?_
   refine fZ hx λ_ hx=>?_
   simp only[bj,eW]at hx;obtain⟨⟨⟨⟨⟨rfl,rfl⟩,_⟩,h2⟩,h3⟩,h4⟩:=hx;obtain⟨h2,h5⟩:=gJ h2;exact Wa (kr O.room) (W.tt _ _ ef) (iha O W h4) (Ll rfl h3 (dh h4)) (O.gl _ h2) h5
 case tn x0 a iha=>
  refine yH (λx hx=>by cases hx) (λx hx=>?_) h
  refine ve hx λ_ _ z1 _ hx=>?_
  refine gL hx λ_ _ hx=>?_
  simp only[bj,eW]at hx;obtain⟨⟨⟨⟨rfl,rfl⟩,h1⟩,h2⟩,h3⟩:=hx;obtain⟨h2,h5⟩:=gJ h2;exact TN (W.tb _ (mem_of h1)) (iha O W h3) (O.gl _ h2) h5
 case cv i a iha=>
  refine qI rfl (λx hx=>?_) h;refine l6 hx λx p es p' hx=>?_
  simp only[bj,eW]at hx;obtain⟨⟨h1,h2⟩,h3⟩:=hx;cases es with
  |nil=>cases h2
  |cons z es=>
   have ho:=jh h3;rw[fz,bj]at ho;exact X5 Γ.iQ (λq hq=>by obtain⟨fd,ps,a1,a2,a3⟩:=W.iQ q hq;exact⟨fd,ps,k,O.room,a1,a2,a3⟩) (O.var h1) (iha O W h3) (iz ho.1) (sR ho.2)
 case lr a b iha ihb=>
  refine qI rfl (λx hx=>?_) h;refine l6 hx λ_ _ z1 _ hx=>?_
  refine fZ hx λz2 hx=>?_
  refine l6 hx λ_ _ z3 _ hx=>?_
  refine tK hx λ_ _ hx=>?_
  simp only[bj,eW]at hx;obtain⟨⟨⟨⟨⟨⟨⟨rfl,rfl⟩,h1⟩,h2⟩,h3⟩,h4⟩,h5⟩,h6⟩:=hx;have s1:=iz (es:=[]) (env:=X.env) (dh h6);have s2:=λr=>iz (es:=r) (env:=X.env) (dh h5)
  exact XY (W.bl _ (mem_of h1)) (W.bl _ (mem_of h2)) O.calm (iha O W h5) (ihb O W h6) (O.gl _ (gJ h3).1) (O.gl _ (gJ h4).1) (by rw[s2,s1];rfl) s1 (s2 _) s1 rfl
 case cp md tup nm cap it t e ihi iht ihe=>
  refine qI rfl (λx hx=>?_) h;refine LK hx λel z1 scope p hx=>?_
  refine fZ hx λz2 hx=>?_
  obtain⟨tg,ite,ifs,as⟩:=z2;simp only[bj,eW]at hx;obtain⟨⟨⟨⟨⟨⟨⟨rfl,rfl⟩,h1⟩,h2⟩,h3⟩,h4⟩,h5⟩,h6⟩:=hx;exact X3 O (HX h2) (Lc h1) (ihi O W h4) (λcl C s H fp=>Ha (yE O h2) W iht h6) (λcl C s H fp=>ihe (yE O h2) W h5) (yA h3)
 case ik a iha=>
  refine sX (λtg x hx=>?_) h
  simp only[bj]at hx;exact qwk (iha O W hx.2)
 case iv a iha=>
  refine sX (λtg x hx=>?_) h
  refine l7 hx λ_ _ _ z1 _ hx=>?_
  refine iB hx λhx=>?_
  simp only[bj,eW]at hx;obtain⟨⟨⟨rfl,h1⟩,h2⟩,h3⟩:=hx;exact qwi (iha O W h3) (lR (by simpa using h1)) h2
 case im a iha=>
  refine sX (λtg x hx=>?_) h
  refine l7 hx λx m ap z p hx=>?_
  refine iB hx λhx=>?_
  simp only[bj,eW]at hx;obtain⟨⟨⟨⟨h0,rfl⟩,h1⟩,h2⟩,h3⟩:=hx;exact Expr.Tuple.elim tg h0 λ_ _ _=>ZE (iha O W h3) (lR (by simpa using h1)) h2
 case lv md a iha=>
  refine qI rfl (λx hx=>?_) h;refine l6 hx λ_ _ z1 _ hx=>?_
  refine fZ hx λz2 hx=>?_
  refine l7 hx λ_ _ _ z3 _ hx=>?_
  refine iB hx λhx=>?_
  simp only[bj,eW]at hx;obtain⟨⟨⟨⟨⟨⟨rfl,rfl⟩,h1⟩,h2⟩,h3⟩,h4⟩,h5⟩:=hx;exact rlv (W.bl _ (mem_of h1)) O.calm (iha O W h5) (O.gl _ (gJ h2).1) (lR (by simpa using h3)) h4
 case pr i j a iha=>
  refine Zb (λx hx=>?_) h;refine qK hx λz1 z2 pos hx=>?_
  refine vL hx λz3 kt pt hx=>?_
  refine tK hx λz4 z5 hx=>?_
  refine gL hx λx px hx=>?_
  refine gL hx λy py hx=>?_
  refine vL hx λz6 k2 pt2 hx=>?_
  refine tK hx λu v hx=>?_
  simp only[bj,eW,bne_iff_ne,ne_eq]at hx;obtain⟨⟨⟨⟨⟨⟨⟨⟨⟨⟨rfl,h1⟩,h2⟩,h3⟩,h4⟩,h5⟩,h6⟩,h7⟩,h8⟩,h9⟩,h10⟩:=hx;obtain⟨hsc,nd,hl,hf,_,hb,hk⟩:=O.fn rfl;exact Rk O.calm (by rw[O.hN];exact nd) (by rw[O.hN];exact h1) (by rw[O.hN];exact h2) h3 (by rw[hsc];exact h4) (by rw[hsc];exact h5) (iha O W h10) (quU hb (by rw[hk];exact h4) (by rw[hk];exact h5) h6 (by simpa using h7) (jh h10) ((i9 _).mp h8) ((i9 _).mp h9))
 case af c f o a iho iha=>
  refine Zb (λx hx=>?_) h;refine Z6 hx λz1 z2 _ _ hx=>?_
  refine vM hx λ_ _ _ hx=>?_
  refine qT hx λhx=>?_
  simp only[bj,eW]at hx;obtain⟨⟨⟨rfl,h1⟩,h2⟩,h3⟩:=hx;exact saf (W.fs _ _ (mem_of h1)).1 (W.fs _ _ (mem_of h1)).2 (iho O W h2) (iha O W h3)
 case dd d k0 ihd ihk=>
  refine Zb (λx hx=>?_) h;refine quN hx λz1 _ hx=>?_
  refine fZ hx λz2 hx=>?_
  refine qU hx λ_ _ _ hx=>?_
  simp only[bj]at hx;exact Yd (kr O.room) (ihd O W hx.1) (ihk O W hx.2)
 case is a iha=>
  refine sX (λtg x hx=>?_) h
  simp only[bj]at hx;exact RP (iha O W hx.2)
 case st a iha=>
  refine sX (λtg x hx=>?_) h
  simp only[bj]at hx;exact RN (iha O W hx.2)
 case r1 a iha=>
  refine sX (λtg x hx=>?_) h
  refine l6 hx λ_ _ z1 _ hx=>?_
  refine fZ hx λ_ hx=>?_
  simp only[bj,eW]at hx;obtain⟨⟨⟨rfl,h1⟩,h2⟩,h3⟩:=hx;have s1:=iz (es:=[]) (env:=X.env) (dh h3);exact ZC (W.bl _ (mem_of h1)) (iha O W h3) (O.gl _ (gJ h2).1) s1 s1
 case set i a iha=>
  refine Zb (λx hx=>?_) h;refine qK hx λz1 e p' hx=>?_
  refine gL hx λx p hx=>?_
  simp only[bj,eW,Bool.or_eq_true]at hx;obtain⟨⟨⟨rfl,h1⟩,h2⟩,h3⟩:=hx;rcases h2 with h2|h2
  . exact O.rL h1 (iha O W h3) (u3 (dh h3) (by simpa using h2))
  . by_cases hc:mX e=true
    . cases e<;>first|(cases hc;done)|skip
      exact O.rL h1 (iha O W h3) (quT O h2)
    . exact O.rL h1 (iha O W h3) (u3 (dh h3) (by simpa using hc))
 case sc i md tup nm cap it t e ihi iht ihe=>
  refine Zb (λx hx=>?_) h;refine qK hx λz1 z2 p3 hx=>?_
  refine gL hx λx p hx=>?_
  refine LK hx λel z3 scope p2 hx=>?_
  refine fZ hx λz4 hx=>?_
  obtain⟨tg,ite,ifs,as⟩:=z4;simp only[bj,eW]at hx;obtain⟨⟨⟨⟨⟨⟨⟨⟨⟨⟨⟨rfl,h1⟩,h2⟩,h3⟩,h4⟩,rfl⟩,h5⟩,h6⟩,h7⟩,h8⟩,h9⟩,h10⟩:=hx;exact XO O i (HX h6) (Lc h5) (ihi O W h8) (λcl C s H fp=>Ha (yE O h6) W iht h10) (λcl C s H fp=>ihe (yE O h6) W h9) (yA h7) h1 (quS O h2 h3 (by simpa using h4))
 case un is a iha=>
  refine Zb (λx hx=>?_) h;refine qK hx λz1 e p' hx=>?_
  refine vL hx λes j p hx=>?_
  simp only[bj]at hx;obtain⟨⟨⟨⟨rfl,h1⟩,h2⟩,h3⟩,h4⟩:=hx;have hw:swappedStores [.Tuple es j p] e X.env=pure none:=by cases e<;>first|rfl|cases h3
  exact Pa (iha O W h4) (gT O h1) (HW (dh h4) (by simpa using h2)) hw rfl
 case sf c f o a iho iha=>
  refine Zb (λx hx=>?_) h;refine qK hx λz1 _ _ hx=>?_
  refine vM hx λ_ _ _ hx=>?_
  simp only[bj,eW]at hx;obtain⟨⟨⟨rfl,h1⟩,h3⟩,h4⟩:=hx;exact quZ (W.fs _ _ (mem_of h1)).1 (W.fs _ _ (mem_of h1)).2 (iho O W h3) (iha O W h4) (TC (dh h4))
 case dp d k0 a ihd ihk iha=>
  refine Zb (λx hx=>?_) h;refine qK hx λz1 _ _ hx=>?_
  refine qU hx λ_ _ _ hx=>?_
  simp only[bj,eW]at hx;obtain⟨⟨⟨h1,h2⟩,h3⟩,h4⟩:=hx;exact Yc (kr O.room) (ihd O W h2) (ihk O W h3) (iha O W h4) (u3 (dh h4) (by simpa using h1))
 case sp l i a ihl ihi iha=>
  refine Zb (λx hx=>?_) h;refine qK hx λz1 _ _ hx=>?_
  refine qU hx λ_ _ _ hx=>?_
  simp only[bj,eW]at hx;obtain⟨⟨⟨h1,h2⟩,h3⟩,h4⟩:=hx;exact Pa (iha O W h4) (RS (ihl O W h2) (ihi O W h3) qvS (Xs (dh h3))) (HW (dh h4) (by simpa using h1)) rfl rfl
 case re a iha=>
  refine Zb (λx hx=>?_) h;refine Lf hx λz1 _ hx=>?_
  refine Lh hx λ_ hx=>?_
  exact Rj (iha O W hx)
 case r0=>
  refine Zb (λx hx=>?_) h;refine Lf hx λz1 _ hx=>?_
  refine CC hx λhx=>?_
  exact quW
 case aG t a b iht iha ihb=>
  refine Zb (λx hx=>?_) h;refine quJ hx λ_ _ _ _ hx=>?_
  simp only[bj,eW]at hx;obtain⟨⟨h1,h2⟩,h3⟩:=hx;exact sif (iht O W h1) (iha O W h2) (ihb O W h3)
 case fo tup is it b ihi ihb=>
  refine Zb (λx hx=>?_) h;refine quK hx λtg x y z1 p hx=>?_
  refine iB hx λhx=>?_
  simp only[bj]at hx;obtain⟨⟨⟨⟨rfl,h1⟩,h2⟩,h3⟩,h4⟩:=hx;have hp:=(O.fn rfl).2.2.2.2.1;have g3:=ihi O W h3;revert g3;cases tup with
  |true=>exact vL h2 λes _ _ h2 g3=>O9 hp O.calm g3 (gT O h2) (ihb O W h4) (yA h1)
  |false=>
   refine gL h2 λz _ h2=>?_
   exact fZ h2 λi h2 g3=>O9 hp O.calm g3 (O.gN (by simpa using h2)) (ihb O W h4) (yA h1)
 case ex a iha=>
  refine Zb (λx hx=>?_) h;refine quL hx λ_ _ hx=>?_
  simp only[bj,eW]at hx;obtain⟨h1,h2⟩:=hx;exact ZT (iha O W h2) (u3 (dh h2) (by simpa using h1))
 case ra=>
  cases nd<;>first|exact Rm|exact quY|exact aU h iI
 case se a b iha ihb=>
  refine KN (λx hx=>?_) h
  refine i3 hx λ_ _ hx=>?_
  simp only[bj,eW]at hx;obtain⟨h1,h2⟩:=hx;exact ZU (t:=(tr Γ a).S) (u:=(tr Γ b).S) (iha O W h1) (ihb O W h2)
 case en=>
  refine KN (λx hx=>?_) h
  refine iB hx λhx=>?_
  exact Rl
 case sk c f a iha=>
  refine qI rfl (λx hx=>?_) h;refine CY hx λg es ks _ hx=>?_
  refine gL hx λx _ hx=>?_
  refine fZ hx λe hx=>?_
  refine fZ hx λk hx=>?_
  obtain⟨k1,k2,k3⟩:=k;simp only[bj,ib,eW]at hx;obtain⟨⟨⟨⟨⟨⟨⟨⟨rfl,rfl⟩,hy⟩,hf⟩,hN⟩,h2⟩,h3⟩,h4⟩,h5⟩:=hx;refine qwF (C:=λz=>aj X (.Call (.Name _ _) [e] [⟨_,z,k3⟩] _) _) hy λps b ls lp hy=>?_
  refine vM hy λe' f' _ hy=>?_
  obtain⟨hy0,hz⟩:=jk hy;obtain rfl:=gG hy0;refine gL hz λv _ hy=>?_
  simp only[bj,ib]at hy;obtain⟨⟨rfl,hy1⟩,hy2⟩:=hy;obtain⟨an,p,rfl⟩:=qw2 hy1;obtain⟨h3,h6⟩:=gJ h3;obtain⟨lq,⟨cc,lc,lh⟩,lb,lg⟩:=O.lm hf hN;exact XS (iha O W h5) (W.bl _ (mem_of h2)) (O.gl _ h3) (W.fs _ _ (mem_of h4)).1 (W.fs _ _ (mem_of h4)).2 (OO hy2).1 O.room.depth lc lh lb lg rfl ((OO (an:=an) (p:=p) hy2).2 _) lq (iz (dh h5))
structure jc where
 S:SI
 tb:Str->bR
 C:Nat->Addr
 cv:List (Addr×Nat)
 lP:Addr:=0
noncomputable def jc.G (p:jc)(f f':Nat->bU):G:=⟨p.S,p.tb,p.C,f,f',p.cv.map λq=>(q.1,f q.2),p.lP⟩
def Pb(b:G)(d:FD):bU:=λrs M Q=>rs.length=d.ps.length/\(tr b d.body).S { nx:=λ_ a=>Q .aw a,rt:=Q } (jj d.N rs) M
def Cz(p:jc)(f a:Nat->bU)(i:Nat):bU:=match p.S.fd[i]? with
 |some d=>Pb (p.G f a) d
 |none=>λ_ _ _=>False
noncomputable def rf (p:jc):Nat->(Nat->bU)×(Nat->bU)
 |0=>(λ_ _ _ _=>False,λ_ _ _ _=>False)
 |n+1=>(Cz p (rf p n).1 (rf p n).2,(rf p n).1)
def ao(p:jc)(n:Nat):Nat->bU:=(rf p n).1
noncomputable def jc.Gn (p:jc)(n:Nat):R.G:=p.G (ao p n) (rf p n).2
theorem Iu{p:jc}{n i:Nat}(h:p.S.fd[i]? =some d):ao p (n+1) i=Pb (p.Gn n) d:=by
 show Cz p _ _ i=_;unfold Cz;rw[h];rfl
structure j6(K:ah)(mg:br)(S:SI)(C:Nat->Addr)(lP:Addr)(d:FD)(g:Addr)(fd:FuncData):Prop where
 ex:∃(qual:Str) (st:Stmt),(d.N=S.ln->qual++(".<locals>.":Str)++("<lambda>":Str)=S.lq/\∃cc,fd.code= .ref cc/\∀h:Heap,K.In h->PySem.W.CodeHd h cc lP)/\uo K d.name qual st g fd/\sS d.N d.ps (fX st)/\KW d.N (fX st)/\mt S true d.N (fX st) d.body (.b (qF st))=true
 bd:Binds K fd d.ps []
 k0:d.kind=0->mg d.name=some (.ref g)
 k1:d.kind=1->cQ K (C d.cls)/\Meth K (C d.cls) d.name g
 k2:d.kind=2->Mk K (C d.cls) g
structure Hd(P:Program)(w:World)(K:ah)(mg:br)(p:jc):Prop where
 bl:∀x∈p.S.bl,mg x=none
 gi:∀x i,p.S.gi.lookup x=some i->Dz mg x i
 gt:∀x l,p.S.gt.lookup x=some l->tY K mg x l
 tb:∀x∈p.S.tb,KTab P w K mg x (p.tb x)
 tt:∀x l,p.S.tt.lookup x=some l->qR P w K mg x l
 cl:∀(i:Nat) c,p.S.cl[i]? =some c->cQ K (p.C i)/\mg c=some (.ref (p.C i))
 fs:∀c f,(c,f)∈p.S.fs->cQ K (p.C c)/\aR K (p.C c) f
 fns:∀(i:Nat) d,p.S.fd[i]? =some d->∃g fd,j6 K mg p.S p.C p.lP d g fd
 lm:∀(i:Nat) d,p.S.fd[i]? =some d->d.N=p.S.ln->mainGlobals≠p.lP/\∀h:Heap,K.In h->h.BuiltinsAt mg p.lP
 cv:∀q∈p.cv,∃d,p.S.fd[q.2]? =some d/\d.kind=0/\mg d.name=some (.ref q.1)
section
variable {P:Program}{w:World}{K:ah}{mg:br}{p:jc}{base:Heap}
theorem IP{g:Addr}:dZ P w K mg base fg k g fd ps (fP K λ_ _ _=>False) where
 len:=λvs H Q E h=>by obtain⟨rs,M,c,_,_,h,_⟩:=h;exact h.elim
 run:=λA a s H b us vs Q E _ _ _ _ h=>by obtain⟨rs,M,c,_,_,h,_⟩:=h;exact h.elim
theorem qut{n:Nat}(H:Hd P w K mg p)(L:∀(i:Nat) d g fd,p.S.fd[i]? =some d->j6 K mg p.S p.C p.lP d g fd->dZ P w K mg base fg (n+1) g fd d.ps (fP K (ao p n i))/\dZ P w K mg base fg n g fd d.ps (fP K ((rf p n).2 i))):Wd P w K mg base (p.Gn n) (n+1) where
 bl:=H.bl
 gi:=H.gi
 gt:=H.gt
 tb:=H.tb
 tt:=H.tt
 cl:=H.cl
 fs:=H.fs
 fn:=λi d e a=>by
  obtain⟨g,fd,F⟩:=H.fns i d e;obtain⟨q,st,_,b,_⟩:=F.ex;exact⟨g,fd,F.k0 a,b.kp,F.bd,(L i d g fd e F).1⟩
 me:=λi d e a=>by
  obtain⟨g,fd,F⟩:=H.fns i d e;exact⟨(F.k1 a).1,⟨g,fd,(F.k1 a).2,F.bd,(L i d g fd e F).1⟩⟩
 mW:=λi d e a=>by
  obtain⟨g,fd,F⟩:=H.fns i d e;exact⟨n,aD _,⟨g,fd,F.k2 a,F.bd,(L i d g fd e F).2⟩⟩
 iQ:=λq h=>by
  obtain⟨q0,c,rfl⟩:=aA.mp h;obtain⟨d,e,a,f⟩:=H.cv q0 c;obtain⟨g,fd,F⟩:=H.fns q0.2 d e;have:=(F.k0 a).symm.trans f;cases this;obtain⟨q,st,_,b,_⟩:=F.ex;exact⟨fd,d.ps,b.kp,F.bd,(L q0.2 d _ fd e F).1⟩
theorem Ay(H:Hd P w K mg p)(kb:K.In base):∀(n:Nat) (i:Nat) d g fd,p.S.fd[i]? =some d->j6 K mg p.S p.C p.lP d g fd->dZ P w K mg base fg (n+1) g fd d.ps (fP K (ao p n i))/\dZ P w K mg base fg n g fd d.ps (fP K ((rf p n).2 i))
 |0,i,d,g,fd,e,F=>⟨IP,IP⟩
 |n+1,i,d,g,fd,e,F=>by
  refine⟨?_,(Ay H kb n i d g fd e F).1⟩;rw[Iu e];obtain⟨qual,st,L1,F1,S1,N1,m1⟩:=F.ex;refine qvs F1 S1 (λrs M Q h=>h.1) (λcdv hcd A outer s H0 E hr=>?_) λrs M Q h=>h.2
  have O:fS (p.Gn n) (n+1) true d.N (fX st) (nG fg P w K mg base d.N qual (fX st) g cdv A outer s H0 E).sA:=by
   refine⟨rfl,λx hx=>⟨?_,?_⟩,λx h=>h,rfl,hr,λ_=>⟨rfl,N1.nd,N1.loc,λ_=>rfl,PassesOwn.never,?_,λx=>rfl⟩,λ_ hN=>?_⟩
   . exact(N1.loc x hx).elim .inl λz=>.inr (.inl z)
   . have:=N1.jE x hx
     unfold jE;rw[this.1,this.2];rfl
   . show(if(fX st).kind.isAnnotationScope then ScopeKind.function else(fX st).kind)=_
     rw[S1.kind];rfl
   . obtain⟨l1,cc,l2,l3⟩:=L1 hN
     obtain⟨l4,l5⟩:=H.lm i d e hN;exact⟨l1,⟨cc,hcd.symm.trans l2,l3 _ kb⟩,l5 _ kb,l4⟩
  exact sound d.body O (qut H (Ay H kb n)) m1
end
end R
namespace HD
open PySem PySem.W PyProof.Rows
noncomputable def Z5 (p:Program)(i:Nat):Stmt:=p.main.body.getD i (.Pass ⟨0,0,0,0⟩)
noncomputable def sub (s:Stmt)(i:Nat):Stmt:=match s with
 | .ClassDef (body:=b) ..=>b.getD i (.Pass ⟨0,0,0,0⟩)
 |s=>s
noncomputable def Dk (s:Stmt):Arguments:=match s with
 | .FunctionDef (args:=a) ..=>a
 |_=>default
noncomputable def tX (s:Stmt):List Stmt:=match s with
 | .FunctionDef (body:=b) ..=>b
 |_=>[]
noncomputable def Dj (s:Stmt):Scope:=match s with
 | .FunctionDef (scope:=c) ..=>c
 |_=>default
noncomputable abbrev e1 (P:Params) (x:String) (t:Tok) (v:Value):DictEntry:=⟨PyData.keyHash P x,.str x t,v⟩
noncomputable abbrev d9 (es:List DictEntry) (n:Nat):Obj:=⟨.type "dict",none,.dict es.toArray n,#[]⟩
noncomputable abbrev ck (vs:au):Obj:=⟨.none,none,.fields vs.toArray,#[]⟩
noncomputable abbrev Eb (vs:au):Obj:=⟨.type "code",none,.fields vs.toArray,#[]⟩
noncomputable abbrev tup (xs:au):Obj:=⟨.type "tuple",none,.seq xs.toArray 0,#[]⟩
noncomputable abbrev Ao (n q:Str) (s:Stmt) (a cd:Value):Obj:=⟨.type "function",none,.func { name:=n,qualname:=q,params:=Dk s,body:=.stmts (tX s),scope:=Dj s,globals:=3,closure:=[],defaults:=.none,kwdefaults:=.none,doc:=.none,pyModule:=a,annotations:=none,code:=cd,closureTuple:=.none,builtins:=0 },#[]⟩
noncomputable abbrev PL (n q:Str) (s:Stmt):Obj:=⟨.none,none,.func { name:=n,qualname:=q,params:=Dk s,body:=.stmts (tX s),scope:=Dj s,globals:=0,closure:=[],defaults:=.none,kwdefaults:=.none,doc:=.none,pyModule:=.none,annotations:=none,code:=.none,closureTuple:=.none,builtins:=0 },#[]⟩
noncomputable def wZ:Stmt->Str
 | .FunctionDef (name:=n) ..=>n
 | .ClassDef (name:=n) ..=>n
 |_=>""
noncomputable def Ep:Stmt->Int
 | .FunctionDef (pos:=p) ..=>p.line
 |_=>0
structure DF where
 q:Str
 s:Stmt
 a:Nat
 t:Nat
 pm:Value
noncomputable def dg (s:Stmt)(a t:Nat)(b:Value):DF:=⟨wZ s,s,a,t,b⟩
noncomputable def dm (c:Stmt)(i a t:Nat)(b:Value):DF:=⟨⟨(wZ c).cps++ #[46]++(wZ (sub c i)).cps⟩,sub c i,a,t,b⟩
noncomputable def DF.n (d:DF):Str:=wZ d.s
noncomputable def DF.c (d:DF):Int:=(Dk d.s).args.length
noncomputable def DF.xs (d:DF):az:=((Dj d.s).names.filter λy=>y.2== .local||y.2== .cell).map (·.1)
noncomputable def Kc:Nat->az->au
 |_,[]=>[]
 |t,x::xs=>.str x t::Kc (t+1) xs
noncomputable def DF.cd (d:DF)(vs:au)(k:Nat):Obj:=Eb ([.str d.n d.t,.str d.q (d.t+1),.str "/claim/cut.py" (d.t+2),.int (Ep d.s) 0,.int d.c 0,.int 0 0,.int 0 0,.int 3 0,.ref d.a,.bool true,.int 181 0,.ref (d.a+1),.none]++vs++ [.int (d.t+3+k:Nat) 0,.int (Ep d.s) 0,.str "/claim/cut.py" (d.t+4+k)])
noncomputable def DF.co (d:DF):Obj:=d.cd [.ref (d.a+2),.ref (d.a+3),.ref (d.a+4)] d.xs.length
noncomputable def DF.con (d:DF):Obj:=d.cd [.none,.none,.ref (d.a+2)] 0
noncomputable def DF.fn (d:DF):Obj:=Ao d.n d.q d.s d.pm (.ref (d.a+5))
noncomputable def DF.gH (d:DF):Obj:=Ao d.n d.q d.s d.pm (.ref (d.a+3))
noncomputable def DF.objs (d:DF):List Obj:=[tup [],ck [],tup (Kc (d.t+3) d.xs),tup [],PL d.n d.q d.s,d.co,d.fn]
noncomputable def DF.gY (d:DF):List Obj:=[tup [],⟨.none,none,.fields #[],#[]⟩,PL d.n d.q d.s,d.con,d.gH]
noncomputable def obs (l:List DF):List Obj:=l.flatMap DF.objs
noncomputable def eD (l:List DF):List Obj:=l.flatMap λd=>[d.co,d.fn]
noncomputable def treeOf (l:List Obj):BT:=(l.foldl (λ(x:BT×Nat) o=>(x.1.ins x.2 o,x.2+1)) (.nil,0)).1
theorem KP{tb:String->Option Builtin}{p:Program}{an:cI}{b:Nat}:∀{n m:Nat} {s s':SharedT} {t t':Thread} {r:Option (SharedT×Thread)},
 segGoT tb p w n₀ an b n s t=some (s',t')->segGoT tb p w n₀ an b m s' t'=r->segGoT tb p w n₀ an b (n+m) s t=r
 |0,m,s,s',t,t',r,h,k=>by
  simp only[segGoT,mL,Prod.mk.injEq]at h;obtain⟨rfl,rfl⟩:=h;rw[iH];exact k
 |n+1,m,s,s',t,t',r,h,k=>by
  have e:n+1+m=(n+m)+1:=by lia
  rw[e];simp only[segGoT]at h ⊢;split at h
  . cases h
  . rename_i a
    split at h
    . cases h
    . rename_i c
      split at h
      . rename_i d f hs
        exact KP h k
      . cases h
theorem Jb{tb:String->Option Builtin}{p:Program}{an:cI}{b:Nat}:∀{n m:Nat} {s s':SharedT} {t t':Thread} {r:Flow×SharedT×Code×Pos},
 segGoT tb p w n₀ an b n s t=some (s',t')->segRunT tb p w n₀ an b m s' t'=some r->segRunT tb p w n₀ an b (n+m) s t=some r
 |0,m,s,s',t,t',r,h,k=>by
  simp only[segGoT,mL,Prod.mk.injEq]at h;obtain⟨rfl,rfl⟩:=h;rw[iH];exact k
 |n+1,m,s,s',t,t',r,h,k=>by
  have e:n+1+m=(n+m)+1:=by lia
  rw[e];simp only[segGoT]at h;simp only[segRunT];split at h
  . cases h
  . rename_i a
    split at h
    . cases h
    . rename_i c
      split at h
      . rename_i d f hs
        exact Jb h k
      . cases h
theorem Iw{tb:String->Option Builtin}{p:Program}{an:cI}{b:Nat}(k:Nat):∀{n:Nat} {s:SharedT} {t:Thread} {r:Flow×SharedT×Code×Pos},
 segRunT tb p w n₀ an b n s t=some r->segRunT tb p w n₀ an b (n+k) s t=some r
 |0,s,t,r,h=>by cases h
 |n+1,s,t,r,h=>by
  have e:n+1+k=(n+k)+1:=by lia
  rw[e];simp only[segRunT]at h ⊢;split at h
  . exact h
  . rename_i a
    split at h
    . cases h
    . rename_i c
      split at h
      . exact Iw k h
      . cases h
def Rn(p:Program)(w:World)(b:Nat)(an:cI)(c:Code)(F:List Frame)(m:Nat)(x:Sem α)(ps:Pos)(s:SharedT)(a:α)(d:Pos)(s':SharedT):Prop:=
 ∀(K:α->Sem Fin) (H:Value->Sem Fin) (lv:au->au),∃n,n<=m/\segGoT treeTable p w b an 1 n s ⟨x.wrap K H id lv,c,ps,F⟩=some (s',⟨K a,c,d,F⟩)
section
variable {α β:Type}{p:Program}{w:World}{n₀:Nat}{an:cI}{c:Code}{F:List Frame}{m m1 m2:Nat}{ps ps1 ps2 ps':Pos}{s s1 s2 s':SharedT}
theorem Rn.more{x:Sem α}{a:α}(h:Rn p w n₀ an c F m1 x ps s a ps' s')(e:m1<=m):Rn p w n₀ an c F m x ps s a ps' s':=λK H lv=>by
 obtain⟨n,b,h⟩:=h K H lv;exact⟨n,bQ b e,h⟩
theorem gz{a:α}:Rn p w n₀ an c F m (pure a) ps s a ps s:=λK H lv=>⟨0,j3 _,rfl⟩
theorem cD{x:Sem α}{a:α}{b:β}(e:Rn p w n₀ an c F m1 x ps s a ps1 s1)(g:Rn p w n₀ an c F m2 (f a) ps1 s1 b ps2 s2):Rn p w n₀ an c F (m1+m2) (x >>= f) ps s b ps2 s2:=λK H lv=>by
 obtain⟨h,l1,e1⟩:=e (λa=>(f a).wrap K H id lv) H lv
 obtain⟨i,l2,d⟩:=g K H lv;refine⟨h+i,Nat.add_le_add l1 l2,?_⟩;rw[Sem.bind_eq_wrap',Sem.wrap_wrap];exact KP e1 d
theorem We{x:Sem α}{a:α}{vs:au}(h:Rn p w n₀ an c F m x ps s a ps' s'):Rn p w n₀ an c F m (x.keep vs) ps s a ps' s':=λK H lv=>by
 obtain⟨n,l,e⟩:=h K H (λr=>lv (vs++r))
 refine⟨n,l,?_⟩;rw[Sem.keep_eq_wrap,Sem.wrap_wrap];exact e
theorem uQ{x:Sem α}{a:α}{vs:au}(h:Rn p w n₀ an c F m x ps s a ps' s'):Rn p w n₀ an c F m (holding vs x) ps s a ps' s':=by
 unfold holding;split
 . exact h
 . exact We h
theorem jP{x:Sem α}{a:α}{n:Nat}(h:∀(K:α->Sem Fin) (H:Value->Sem Fin) (lv:au->au),segGoT treeTable p w n₀ an 1 n s ⟨x.wrap K H id lv,c,ps,F⟩=some (s',⟨K a,c,ps',F⟩)):Rn p w n₀ an c F n x ps s a ps' s':=
 λK H lv=>⟨n,aD _,h K H lv⟩
theorem mapOf{f g:α->β}:∀{l:List α},l.map f=l.map g->∀i∈l,f i=g i:=λh=>List.map_inj_left.mp h
theorem XT{b:Type}{l:List b}{g:b->Nat}{x:b->Sem α}{a:α}(h:∀(K:α->Sem Fin) (H:Value->Sem Fin) (lv:au->au),l.map (λi=>segGoT treeTable p w n₀ an 1 (g i) s ⟨(x i).wrap K H id lv,c,ps,F⟩)=l.map λ_=>some (s',⟨K a,c,ps',F⟩)):∀i∈l,Rn p w n₀ an c F (g i) (x i) ps s a ps' s':=
 λi hi=>jP λK H lv=>mapOf (h K H lv) i hi
theorem BZ{b:β}:∀{xs:List α},(∀x∈xs,Rn p w n₀ an c F m (f x b) ps s (.yield b) ps s)->Rn p w n₀ an c F (m*xs.length) (forIn xs b f) ps s b ps s
 | [],_=>by rw[List.forIn_nil];exact gz
 |x::xs,h=>by
  rw[ug];have a:=h x (wx ..);have d:=BZ (xs:=xs) λy g=>h y (nN _ g)
  have e:m*(x::xs).length=m+m*xs.length:=by rw[bW,Nat.mul_succ,Nat.add_comm]
  rw[e];exact cD a d
end
section
variable {p:Program}{w:World}{n₀:Nat}{an:cI}{c:Code}{F:List Frame}{ps:Pos}{s:SharedT}{m L:Nat}
theorem Ud{a:Addr}{st:au}(b:st.length<=L)(d:Rn p w n₀ an c F m (eqIsQuiet 8 (.ref a)) ps s true ps s)
 (hs:∀v∈st,Rn p w n₀ an c F m (eqIsQuiet 8 v) ps s true ps s):Rn p w n₀ an c F (m+m*L) (tableMayTell (.ref a) st) ps s false ps s:=by
 unfold tableMayTell;split
 . exact gz
 . refine Rn.more (cD d (m2:=m*st.length) ?_) (Nat.add_le_add_left (Nat.mul_le_mul_left _ b) _)
   rw[ab ⋯]
   refine Rn.more (cD (m2:=0) (BZ (m:=m) λv e=>?_) ?_) (aD _)
   . refine Rn.more (cD (m2:=0) (hs v e) ?_) (aD _)
     rw[ab ⋯]
     exact gz
   . exact gz
theorem find_none{d a:Addr}{es:Array DictEntry}(hL:es.size<=L)(rn_rule:∀t,Rn p w n₀ an c F 1 (rule t) ps s () ps s)
 (hd:Rn p w n₀ an c F 1 (dictEntries d none) ps s es ps s) (he:Rn p w n₀ an c F 1 (dictEpoch d none) ps s ep ps s)
 (hq:Rn p w n₀ an c F m (eqIsQuiet 8 (.ref a)) ps s true ps s)
 (hk:∀e∈es.toList,(∃b:Addr,e.key= .ref b/\b≠a)/\Rn p w n₀ an c F m (eqIsQuiet 8 e.key) ps s true ps s/\Rn p w n₀ an c F m (eqBool e.key (.ref a)) ps s false ps s):
 Rn p w n₀ an c F (1+((m+m*L)+(m+3)*L)) (dictFind d (.ref a) h) ps s none ps s:=by
 unfold dictFind;refine uQ ?_;dsimp only[keyPart];refine cD hd ?_;have hp:∀i∈placesWithHash es.size (λi=>Option.map (λx=>x.hash) es[i]?) h,i<es.size:=λi hi=>by
  unfold placesWithHash at hi;exact jv.mp (cb.mp hi).1
 have hpl:(placesWithHash es.size (λi=>Option.map (λx=>x.hash) es[i]?) h).length<=L:=by
  unfold placesWithHash;refine bQ (jY _ _) ?_;rw[wz];exact hL
 generalize placesWithHash es.size (λi=>Option.map (λx=>x.hash) es[i]?) h=places at hp hpl ⊢
 have hst:∀v∈List.filterMap (λi=>Option.map (λx=>x.key) es[i]?) places,∃e∈es.toList,v=e.key:=λv hv=>by
  obtain⟨i,hi,e⟩:=wu.mp hv;obtain⟨x,hx,rfl⟩:=nM.mp e;exact⟨x,Array.mem_toList_iff.mpr (Array.mem_of_getElem? hx),rfl⟩
 have hsl:(List.filterMap (λi=>Option.map (λx=>x.key) es[i]?) places).length<=L:=bQ (List.length_filterMap_le _ _) hpl
 generalize List.filterMap (λi=>Option.map (λx=>x.key) es[i]?) places=stored at hst hsl ⊢
 have hno:∀e∈es.toList,(e.key==Value.ref a)=false:=λe h1=>by
  obtain⟨⟨b,h2,h3⟩,_⟩:=hk e h1;rw[h2];exact nQ.mpr λq=>h3 (Value.ref.inj q)
 rw[ab (by simp[carriedByValue])]
 rw[ab (by
  rw[<-Array.any_toList,Bool.not_eq_true,List.any_eq_false];intro e h1;rw[hno e h1];simp)]
 rw[ab (by
  intro q;have q:=gG q;obtain⟨e,h1,h2⟩:=hst (.ref a) (by rw[q];exact wx ..)
  have:=hno e h1;rw[<-h2]at this;simp at this)]
 refine cD (Ud hsl hq λv hv=>?_) ?_
 . obtain⟨e,h1,rfl⟩:=hst v hv
   exact(hk e h1).2.1
 rw[ab (by simp)]
 refine Rn.more (cD (m2:=0) (BZ (m:=m+3) λi hi=>?_) ?_) (Nat.mul_le_mul_left _ hpl)
 . have hi':=hp i hi
   have hg:es[i]? =some es[i]:=Array.getElem?_eq_getElem hi';rw[hg];dsimp only;split
   . obtain⟨_,_,hb⟩:=hk es[i] (Array.mem_toList_iff.mpr (Array.getElem_mem hi'))
     refine Rn.more (cD he (cD (m2:=2) hb (cD (m2:=1) he ?_))) ∅
     rw[ab (by simp),ab ⋯]
     refine Rn.more (cD (m2:=0) (rn_rule _) ?_) (aD _);rw[ab (by simp)]
     exact gz
   . exact gz
 . exact gz
end
section
variable {α β:Type}{p:Program}{w:World}{n₀:Nat}{an:cI}{c:Code}{F:List Frame}{ps ps1 ps2:Pos}{s s1 s2:SharedT}{m m1 m2 m3 mf mu:Nat}
theorem U1{i:Int}(a:∀t,Rn p w n₀ an c F 1 (rule t) ps s () ps s):Rn p w n₀ an c F 1 (pyHashByItsType.reduced i) ps s (reduceHash i) ps s:=by
 unfold pyHashByItsType.reduced reduceHash;split
 . exact gz
 . exact Rn.more (cD (m2:=0) (a _) gz) (aD _)
theorem U0{a:Addr}{i:Int}{t:Tok}(f:∀x,Rn p w n₀ an c F 1 (rule x) ps s1 () ps s1)(d:Rn p w n₀ an c F m1 (cRoomFor "hash" [.ref a]) ps s () ps s)
 (b:Rn p w n₀ an c F m2 (specialOf (.ref a) "__hash__") ps s (some (.builtin "tuple.__hash__")) ps s)
 (e:∀E,Rn p w n₀ an c F m3 (callSpecialIfBoundUnlessNone? (.ref a) "__hash__" E) ps s (some (.int i t)) ps s1):Rn p w n₀ an c F (m1+(m2+(m2+(m3+1)))) (pyHash (.ref a)) ps s (reduceHash i) ps s1:=by
 unfold pyHash;dsimp only;unfold pyHashByItsType;refine cD d (cD b ?_);rw[ab ⋯]
 refine cD b ?_;rw[ab ⋯]
 refine cD (e _) ?_;exact U1 f
theorem Ww{d a:Addr}{v:Value}(f:∀x,Rn p w n₀ an c F 1 (rule x) ps s1 () ps s1)(e:Rn p w n₀ an c F m1 (pyHash (.ref a)) ps s h ps s1)(b:Rn p w n₀ an c F mf (dictFind d (.ref a) h) ps s1 none ps s1)
 (g:Rn p w n₀ an c F mu (updateDictKeys d (λx=>x.push ⟨h,.ref a,v⟩) none) ps s1 () ps s2):Rn p w n₀ an c F (m1+(mf+(1+mu))) (dictSet d (.ref a) v) ps s () ps s2:=by
 unfold dictSet;refine uQ (cD e ?_);unfold dictSetHashed;refine uQ (cD b ?_);exact cD (f _) g
theorem Wb{x:α}{b:β}(a:Rn p w n₀ an c F m1 (f x b) ps s (.yield b) ps1 s1)(d:Rn p w n₀ an c F m2 (forIn xs b f) ps1 s1 b ps2 s2):Rn p w n₀ an c F (m1+m2) (forIn (x::xs) b f) ps s b ps2 s2:=by
 rw[ug];exact cD a d
theorem Wc{b:β}:Rn p w n₀ an c F 0 (forIn [] b f) ps s b ps s:=by
 rw[List.forIn_nil];exact gz
theorem qvo{x y:Sem α}{a:α}(e:x=y)(h:Rn p w n₀ an c F m y ps s a ps1 s1):Rn p w n₀ an c F m x ps s a ps1 s1:=e ▸ h
end
section
theorem Xi{q:Program}{loose i:az}{Xt:Shared->Bool}{h:Heap}{d:Drawn}{k:Nat}{os:OsState}
 (a:PyProof.Rows.seen (List.map (λx=>x.name) (recsOf q)) (ownsOf q) [] ⟨h,#[],d,k,os⟩=expectedOf q) (b:h.bltView=bltViewBooted)
 (c:h.keysOk (looseW q loose) (List.map (λx=>x.name) (recsOf q)) (List.map (λx=>x.fst) (litsOf q)) (List.map (λx=>x.name) (clssOf q (looseW q loose)))=true)
 (l:h.accountedOkI i=true) (j:(h.isNs mainGlobals&&h.isNs builtinsNs)=true) (m:tablesOk q h=true) (n:Xt ⟨h,#[],d,k,os⟩=true)
 (e:tabsOk q ⟨h,#[],d,k,os⟩=true) (f:pinSeenD q (drecsOf q) ⟨h,#[],d,k,os⟩=pinGoodD (drecsOf q)) (g:plainSeenE q (looseW q loose) ⟨h,#[],d,k,os⟩=plainGoodE q (looseW q loose)) (o:plainSeenD q loose ⟨h,#[],d,k,os⟩=plainGoodD q loose)
 (r:wideSeen q ⟨h,#[],d,k,os⟩=wideGood q) (s:clsSeenW q loose ⟨h,#[],d,k,os⟩=clsGoodW q loose):openSeen q loose i Xt true ⟨h,#[],d,k,os⟩=openGood q loose:=by
 rw[bj]at j;unfold openSeen openGood;dsimp only;rw[a,b,c,l,j.1,j.2,m,n,e,f,g,o,r,s];rfl
end
end HD
namespace R
open PySem PySem.Spec PyProof.Rows L2
noncomputable def CS:Stmt->Bool
 | .FunctionDef ..=>true
 |_=>false
structure FA where
 n:Str
 q:Str
 s:Stmt
 g:Addr
 c:Addr
 pm:Value
noncomputable def FA.fn (D:FA):Obj:=HD.Ao D.n D.q D.s D.pm (.ref D.c)
noncomputable def fdOf (D:FA):FuncData:=PySem.W.fnOf D.n D.q (JW D.s) (qF D.s) (fX D.s) .none .none .none D.pm none (.ref D.c) .none
theorem qww{D:FA}(h:CS D.s=true):D.fn=⟨.type "function",none,.func (fdOf D),#[]⟩:=by
 unfold FA.fn fdOf;cases e:D.s<;>rw[e]at h<;>first|rfl|cases h
theorem Zc{K:ah}{D:FA}(h:CS D.s=true)(l:K.lookup D.g=some D.fn)(c:PySem.W.codeIn K (.ref D.c) D.q=true)(k:PySem.W.keepIn K (.ref D.g)=true):uo K D.n D.q D.s D.g (fdOf D):=
 ⟨⟨_,_,_,_,_,_,_,_,_,rfl,by rw[l,qww h],c⟩,k⟩
noncomputable def Dp (o:Option NameKind):Bool:=match o with
 |some .local=>true
 |some .cell=>true
 |_=>false
theorem WQ(h:Dp o=true):o=some .local∨o=some .cell:=by
 unfold Dp at h;split at h
 . exact .inl rfl
 . exact .inr rfl
 . cases h
noncomputable def qwt:NameKind->Bool
 | .free=>false
 |_=>true
noncomputable def B8 (N ps:az)(sc:Scope):Bool:=(match sc.kind with| .function=>true|_=>false)&& !sc.isCoroutine&& !sc.isGenerator&&decide N.Nodup&&decide (N.take ps.length=ps)&&sc.names.all (λy=>qwt y.2)&&N.all (λx=>Dp (sc.names.lookup x)&& !(x==("__debug__":Str))&& !(x==("__classdict__":Str)))
theorem Vy{sc:Scope}(h:B8 N ps sc=true):sS N ps sc/\KW N sc:=by
 unfold B8 at h;simp only[bj,i9,ib,fx]at h;obtain⟨⟨⟨⟨⟨⟨d,e⟩,f⟩,b⟩,c⟩,g⟩,a⟩:=h;have l:∀x∈N,sc.names.lookup x=some .local∨sc.names.lookup x=some .cell:=λx hx=>WQ (a x hx).1.1
 refine⟨⟨?_,e,f,b,c,λx hx=>l x ?_,λy i=>?_⟩,⟨b,l,λx hx=>⟨(a x hx).1.2,(a x hx).2⟩⟩⟩
 . revert d;cases sc.kind<;>simp
 . rw[<-c]at hx;exact List.mem_of_mem_take hx
 . have:=g y i
   intro z;rw[z]at this;cases this
noncomputable def tV:Option (cI)->Bool
 |some none=>true
 |_=>false
theorem Js(h:tV o=true):o=some none:=by
 unfold tV at h;split at h
 . rfl
 . cases h
noncomputable def zo (i:Int):Option (cI)->Bool
 |some (some (.int j _))=>j==i
 |_=>false
theorem Xu{i:Int}(h:zo i o=true):∃t,o=some (some (.int i t)):=by
 unfold zo at h;split at h
 . rename_i j t;exact⟨t,by rw[gG h]⟩
 . cases h
noncomputable def nv (a:Addr):Option (cI)->Bool
 |some (some (.ref b))=>b==a
 |_=>false
theorem u0{a:Addr}(h:nv a o=true):o=some (some (.ref a)):=by
 unfold nv at h;split at h
 . rw[gG h]
 . cases h
noncomputable def Dr:Option (cI)->Bool
 |some (some (.builtin "object.__setattr__"))=>true
 |_=>false
theorem Xv(h:Dr o=true):o=some (some (.builtin "object.__setattr__")):=by
 unfold Dr at h;split at h
 . rfl
 . cases h
noncomputable def Cy:az->au->Bool
 | [],[]=>true
 |x::xs,.str y _::ys=>(x==y)&&Cy xs ys
 |_,_=>false
theorem Wt:∀{c:az} {vs:au},Cy c vs=true->Vals (c.map V.str) vs:=by
 intro c
 induction c with
 |nil=>intro vs h;cases vs;exact .nil;cases h
 |cons x xs ih=>
  intro vs h;cases vs with
  |nil=>cases h
  |cons v ys=>
   cases v<;>first|cases h;done|skip
   obtain⟨a,b⟩:=uj.mp h;cases gG a;exact .cons ⟨_,rfl⟩ (ih b)
noncomputable def yZ (K:ah)(b:az):Option (cI)->Bool
 |some (some (.ref a))=>match K.lookup a with
  |some ⟨.type "tuple",_,.seq ae _,_⟩=>decide (ae.size<=100)&&Cy b ae.toList
  |_=>false
 |_=>false
theorem Yj{K:ah}{x:Str}(X:K.In h)(G:h.Ns mainGlobals mg)(e:yZ K ss (PySem.W.nsIn K mainGlobals x)=true):tY K mg x ss:=by
 unfold yZ at e;split at e
 . rename_i a b
   split at e
   . rename_i ae n d sl c
     rw[bj,ib]at e;exact Wn (mN X G b) c (bQ e.1 ⋯) (Wt e.2)
   . cases e
 . cases e
noncomputable def rF (K:ah)(C:Addr):Bool:=wA K C Str.empty&&zP K C&&PySem.W.plainOver K C&&Dr (PySem.W.findIn K (.ref C) "__setattr__")
theorem Cu{K:ah}(h:rF K C=true):cQ K C:=by
 unfold rF at h;simp only[bj]at h;exact⟨h.1.1.1,h.1.1.2,h.1.2,Xv h.2⟩
noncomputable def yD (K:ah)(c P:Addr):Bool:=match K.lookup c with
 |some ⟨.type "code",_,.fields (vs:Array Value),_⟩=>(match(vs[11]?:cI)with|some (.ref b)=>b==P|_=>false)&&(match vs.getD 18 .none with| .str _ _=>true|_=>false)&&(match vs.getD 7 .none with| .int _ _=>true|_=>false)&&(match vs.getD 9 .none with| .bool _=>true|_=>false)&&(match vs.getD 10 .none with| .int _ _=>true|_=>false)&& !(c==P)
 |_=>false
theorem HY{K:ah}{c P:Addr}(e:yD K c P=true)(X:K.In h):PySem.W.CodeHd h c P:=by
 unfold yD at e;split at e
 . rename_i d vs sl t
   simp only[bj]at e;obtain⟨⟨⟨⟨⟨e1,f⟩,g⟩,i⟩,j⟩,r⟩:=e;have y:c≠P:=by simpa using r
   split at e1
   . rename_i b k
     have a:b=P:=gG e1;subst a;have s:vs.getD 11 .none= .ref b:=by simp only[Array.getD_eq_getD_getElem?];rw[k];rfl
     split at f
     . rename_i l z u
       split at g
       . rename_i m A v
         split at i
         . rename_i n w
           split at j
           . rename_i o C x
             exact⟨_,vs,l,z,m,A,n,o,C,X _ _ t,rfl,rfl,k,s,u,v,w,x,y⟩
           . cases j
         . cases i
       . cases g
     . cases f
   . cases e1
 . cases e
noncomputable def Aa (K:ah)(a:Addr):Bool:=match PySem.W.nsIn K mainGlobals "__builtins__" with
 |some (some (.ref bm))=>!(bm==builtinsNs)&& !(bm==mainGlobals)&& !(bm==a)&&(match K.lookup bm with
  |some ⟨.type "module",some n,.plain,_⟩=>n==builtinsNs
  |_=>false)
 |_=>false
theorem qwV{K:ah}(b:K.In h0)(G:h0.Ns mainGlobals mg)(e:Aa K lP=true)(X:K.In h):h.BuiltinsAt mg lP:=by
 unfold Aa at e;split at e
 . rename_i c g
   simp only[bj]at e;obtain⟨⟨⟨e1,d⟩,f⟩,a⟩:=e;split at a
   . rename_i n sl i
     cases gG a;exact⟨c,_,mN b G g,by simpa using e1,by simpa using d,by simpa using f,X _ _ i,rfl,rfl,rfl⟩
   . cases a
 . cases e
noncomputable def ON (K:ah)(S:SI)(a:Addr)(d:FD)(D:FA):Bool:=!(decide (d.N=S.ln))||(decide ((D.q:Str)++(".<locals>.":Str)++("<lambda>":Str)=S.lq)&&yD K D.c a)
noncomputable def tX (K:ah)(S:SI)(C:Nat->Addr)(a:Addr)(d:FD)(D:FA):Bool:=ON K S a d D&&CS D.s&&PySem.W.codeIn K (.ref D.c) D.q&&PySem.W.keepIn K (.ref D.g)&&B8 d.N d.ps (fX D.s)&&decide (d.name=(D.n:Str))&&
 (match d.kind with
  |0=>nv D.g (PySem.W.nsIn K mainGlobals d.name)
  |1=>rF K (C d.cls)&&nv D.g (PySem.W.findIn K (.ref (C d.cls)) d.name)&&PySem.W.isFn K (.ref D.g)
  |2=>PySem.W.makesIn K (C d.cls)&&nv D.g (PySem.W.findIn K (.ref (C d.cls)) "__init__")&&PySem.W.isFn K (.ref D.g)&&PySem.W.keepIn K (.ref (C d.cls))
  |_=>false)
theorem ZF{K:ah}{S:SI}(X:K.In h)(G:h.Ns mainGlobals mg)(b:tX K S C lP d D=true)(l:K.lookup D.g=some D.fn)(m:mt S true d.N (fX D.s) d.body (.b (qF D.s))=true)
 (o:∀us:au,us.length=d.ps.length->bindArgs (fdOf D) ⟨us,[]⟩=pure (d.ps.zip us)):j6 K mg S C lP d D.g (fdOf D):=by
 unfold tX at b;simp only[bj,ib]at b;obtain⟨⟨⟨⟨⟨⟨c,g⟩,i⟩,e⟩,j⟩,n⟩,a⟩:=b;obtain⟨r,s⟩:=Vy j;have lm:d.N=S.ln->(D.q:Str)++(".<locals>.":Str)++("<lambda>":Str)=S.lq/\∃f,(fdOf D).code= .ref f/\∀h:Heap,K.In h->PySem.W.CodeHd h f lP:=λz=>by
  unfold ON at c;rw[z]at c;simp only[decide_true,Bool.not_true,Bool.false_or,bj,ib]at c;exact⟨c.1,D.c,rfl,λh X=>HY c.2 X⟩
 refine⟨⟨D.q,D.s,lm,n ▸ Zc g l i e,r,s,m⟩,.all o,λk=>?_,λk=>?_,λk=>?_⟩
 . rw[k]at a;exact mN X G (u0 a)
 . rw[k]at a
   simp only[bj]at a;exact⟨Cu a.1.1,⟨u0 a.1.2,a.2,e⟩⟩
 . rw[k]at a
   simp only[bj]at a;exact⟨a.1.1.1,u0 a.1.1.2,a.1.2,a.2⟩
theorem sZ{l:List α}(h:l.all f=true){x:α}(hx:x∈l):f x=true:=fx.mp h x hx
theorem Ck{f g:α->β}:∀{l:List α},l.map f=l.map g->∀{x:α},x∈l->f x=g x
 |y::l,h,x,hx=>by
  rw[bX,bX]at h;injection h with a b
  rcases fC.mp hx with rfl|hx
  . exact a
  . exact Ck b hx
theorem lookup_mem{x:Str}:∀{l:List (Str×β)},l.lookup x=some y->(x,y)∈l
 |(k,z)::l,h=>by
  unfold List.lookup at h;split at h
  . rename_i e
    cases h;rw[gG e];exact .head _
  . exact .tail _ (lookup_mem h)
noncomputable def wX (l:List (Str×Addr)):bR:=l.map λp=>(.inr p.1,.ref p.2)
noncomputable def DX (l:List (Str×Addr)):List (Key×V):=l.map λp=>(.inr p.1,.ref p.2)
theorem OP:∀l:List (Str×Addr),KV (DX l) ((l.map λp=>(p.1,Value.ref p.2)).map λp=>((Sum.inr p.1:Key),p.2))
 | []=>.nil
 |(x,a)::r=>.cons ⟨rfl,rfl⟩ (OP r)
theorem Ki{K:ah}:∀l:List (Str×Addr),aE K H (wX l) (DX l)
 | []=>rfl
 |p::r=>⟨V.ref p.2,DX r,rfl,by simp only[Rep],Ki r⟩
theorem UY{P:Program}{K:ah}{x:Str}{a:Addr}{l:List (Str×Addr)}
 (c:mg x=some (.ref a)) (lk:K.lookup a=some ⟨.type "dict",none,.dict es ep,#[]⟩) (b:(a==sysModules)=false) (e:vH w es.toList (l.map λp=>(p.1,Value.ref p.2))) (d:(l.map Prod.fst).Nodup):KTab P w K mg x (wX l):=
 Jn c lk b e (by rw[bp];exact d) ⟨rfl,rfl,rfl⟩ (OP l) λH=>Ki l
theorem qwo{P:Program}{K:ah}{p:jc}(X:K.In h)(G:h.Ns mainGlobals mg)
 (bl:(p.S.bl.all λx=>tV (PySem.W.nsIn K mainGlobals x))=true) (gi:(p.S.gi.all λx=>zo x.2 (PySem.W.nsIn K mainGlobals x.1))=true) (gt:(p.S.gt.all λx=>yZ K x.2 (PySem.W.nsIn K mainGlobals x.1))=true)
 (cl:(p.S.cl.zipIdx.all λx=>rF K (p.C x.2)&&nv (p.C x.2) (PySem.W.nsIn K mainGlobals x.1))=true) (fs:(p.S.fs.all λx=>rF K (p.C x.1)&&tV (PySem.W.findIn K (.ref (p.C x.1)) x.2))=true)
 (tb:∀x∈p.S.tb,KTab P w K mg x (p.tb x)) (tt:∀x l,p.S.tt.lookup x=some l->qR P w K mg x l) (j:∀d∈p.S.fd,∃g fd,j6 K mg p.S p.C p.lP d g fd) (lm:∀(i:Nat) d,p.S.fd[i]? =some d->d.N=p.S.ln->mainGlobals≠p.lP/\∀h:Heap,K.In h->h.BuiltinsAt mg p.lP)
 (cv:∀q∈p.cv,∃d,p.S.fd[q.2]? =some d/\d.kind=0/\nv q.1 (PySem.W.nsIn K mainGlobals d.name)=true):Hd P w K mg p where
 bl:=λx hx=>PySem.W.mg_none_of X G (Js (sZ bl hx))
 gi:=λx i hx=>by
  obtain⟨t,e⟩:=Xu (sZ gi (lookup_mem hx));exact⟨t,mN X G e⟩
 gt:=λx l hx=>Yj X G (sZ gt (lookup_mem hx))
 tb:=tb
 tt:=tt
 cl:=λi c hi=>by
  have:=sZ cl (x:=(c,i)) (List.mk_mem_zipIdx_iff_getElem?.mpr hi);rw[bj]at this;exact⟨Cu this.1,mN X G (u0 this.2)⟩
 fs:=λc f hx=>by
  have:=sZ fs hx;rw[bj]at this;exact⟨Cu this.1,Js this.2⟩
 fns:=λi d hi=>j d (jw hi)
 lm:=lm
 cv:=λq k=>by
  obtain⟨d,a,b,c⟩:=cv q k;exact⟨d,a,b,mN X G (u0 c)⟩
noncomputable def OT (K:ah)(S:SI)(C:Nat->Addr)(a:Addr)(l:List (FD×FA)):Bool:=l.all λx=>tX K S C a x.1 x.2&&decide (x.1.ps.length<=9)&&mt S true x.1.N (fX x.2.s) x.1.body (.b (qF x.2.s))
noncomputable def zI (v:Nat->Value)(n:Nat):au:=((List.range 9).map v).take n
theorem Ye{us:au}(h:us.length<=9):zI (us.getD . .none) us.length=us:=by
 refine List.ext_getElem? λi=>?_
 unfold zI;rw[List.getElem?_take,fR];split
 . rw[List.getElem?_range ∅,uf,List.getD_eq_getElem?_getD,List.getElem?_eq_getElem ‹_›];rfl
 . rw[List.getElem?_eq_none ∅]
abbrev uT(l:List (FD×FA)):Prop:=∀v:Nat->Value,l.map (λx=>bindArgs (fdOf x.2) ⟨zI v x.1.ps.length,[]⟩)=l.map λx=>pure (x.1.ps.zip (zI v x.1.ps.length))
abbrev Eo(K:ah)(l:List (FD×FA)):Prop:=l.map (λx=>K.lookup x.2.g)=l.map λx=>some x.2.fn
noncomputable def fD (d:HD.DF):FA:=⟨d.n,d.q,d.s,d.a+6,d.a+5,d.pm⟩
noncomputable def fE (d:HD.DF):FA:=⟨d.n,d.q,d.s,d.a+4,d.a+3,d.pm⟩
theorem qwp{l:List (FD×FA)}(u:uT l){x:FD×FA}(hx:x∈l)(h:x.1.ps.length<=9)(us:au)(e:us.length=x.1.ps.length):bindArgs (fdOf x.2) ⟨us,[]⟩=pure (x.1.ps.zip us):=by
 have:=Ck (u (us.getD . .none)) hx
 rwa [<-e,Ye (e ▸ h)]at this
theorem Qd{K:ah}{S:SI}{l:List (FD×FA)}(X:K.In h)(G:h.Ns mainGlobals mg)(b:OT K S C lP l=true)(k:Eo K l)(u:uT l):∀x∈l,j6 K mg S C lP x.1 x.2.g (fdOf x.2):=λx hx=>by
 have:=sZ b hx;simp only[bj,ib]at this;exact ZF X G this.1.1 (Ck k hx) this.2 (qwp u hx this.1.2)
theorem Zd{K:ah}{S:SI}{l:List (FD×FA)}(e:S.fd=l.map (·.1))(h:∀x∈l,j6 K mg S C lP x.1 x.2.g (fdOf x.2)):∀d∈S.fd,∃g fd,j6 K mg S C lP d g fd:=λd a=>by
 rw[e]at a;obtain⟨x,hx,rfl⟩:=aA.mp a;exact⟨_,_,h x hx⟩
section
variable {P:Program}{w:World}{K:ah}{mg:br}
noncomputable def As:TK->au->Bool
 | [],[]=>true
 |k::ks,v::vs=>zl k v&&As ks vs
 |_,_=>false
theorem Ig:∀{k:TK} {l:au},As k l=true->ItemsAre (optKind P w) k l
 | [],[],_=>.nil
 |_::_,_::_,h=>.cons (jk h).1 (Ig (jk h).2)
 | [],_::_,h=>by cases h
 |_::_,[],h=>by cases h
noncomputable def OR (y:Str):Value->Bool
 | .str z _=>y==z
 |_=>false
noncomputable def C3:List (TK×Str)->List (TK×Addr×Value)->Bool
 | [],[]=>true
 |(k,y)::r,(k',_,v)::r'=>decide (k=k')&&OR y v&&C3 r r'
 |_,_=>false
theorem J6:∀{l:List (TK×Str)} {xs:List (TK×Addr×Value)},C3 l xs=true->vY l xs
 | [],[],_=>trivial
 |(k,y)::r,(k',_,v)::r',h=>by
  obtain⟨b,c⟩:=jk h;obtain⟨d,a⟩:=jk b;refine⟨eI d,?_,J6 c⟩;cases v<;>first|(cases a;done)|skip
  rename_i z t;exact⟨t,by rw[show y=z by simpa[OR]using a]⟩
 | [],_::_,h=>by cases h
 |_::_,[],h=>by cases h
noncomputable def kI (ks:List (Option Str)):TK:=ks.map (Option.map Sum.inr)
noncomputable def zg (kt:List (List (Option Str)))(vt:au)(a:Addr):List (TK×Addr×Value):=(List.range kt.length).map λk=>(kI (kt.getD k []),a+1+k,vt.getD k .none)
theorem UU{x:Str}{a:Addr}{kt:List (List (Option Str))}{vt:au}{tk:List (au)}{hx:Option Str->Int}(h:mg x=some (.ref a))(l:K.lookup a=some D)(d:(a==sysModules)=false)
 (c:D=⟨.type "dict",none,.dict ((List.range kt.length).map λk=>(⟨reduceHash (Builtin.Tuple.tupleHashOf ((kt.getD k []).map hx)),.ref (a+1+k),vt.getD k .none⟩:DictEntry)).toArray kt.length,#[]⟩) (g:∀o:Option Str,hx o=w5 w (o.map Sum.inr))
 (j:((List.range kt.length).map λk=>K.lookup (a+1+k))=(List.range kt.length).map λk=>some (HD.tup (tk.getD k [])))
 (f:((List.range kt.length).all λk=>As (kI (kt.getD k [])) (tk.getD k []))=true) (i:((zg kt vt a).map (·.1)).Nodup) (m:C3 kvs (zg kt vt a)=true):qR P w K mg x kvs:=by
 subst c;refine UW (xs:=zg kt vt a) h l d ⟨rfl,rfl,rfl⟩ ?_ (λy n=>?_) i (J6 m)
 . unfold zg
   rw[bp];refine jx λk _=>?_
   have e:(kt.getD k []).map hx=(kI (kt.getD k [])).map (w5 w):=by unfold kI;rw[bp];exact jx λo _=>g o
   show(⟨reduceHash (Builtin.Tuple.tupleHashOf ((kt.getD k []).map hx)),_,_⟩:DictEntry)=_;rw[e];rfl
 . obtain⟨k,b,rfl⟩:=aA.mp n
   exact⟨_,_,_,List.map_inj_left.mp j k b,rfl,rfl,Ig (fx.mp f k b)⟩
end
theorem Vg{x y:Str}{t l:α}(h:List.lookup x [(y,t)]=some l):x=y/\l=t:=by
 rw[nS]at h
 by_cases z:x=y
 . subst z;rw[beq_self_eq_true]at h;cases h;exact⟨rfl,rfl⟩
 . rw[show(x==y)=false by simpa using z]at h;cases h
open PySem.W
noncomputable def tf (P:Addr)(pos:Pos)(q:Str):RM:=λb=>if b=P then some (.tb P pos q)else none
theorem II{P:Addr}{q:Str}:tf P pos q P=some (.tb P pos q):=ag rfl
theorem Vf{P b:Addr}{q:Str}(h:b≠P):tf P pos q b=none:=ab h
theorem Uk{K:Frag}{Y a T c:Addr}{q:Str}{x:Str}{sp:bU}{f:Shared}{vs:au}{ns:List Int}
 (KX:K.In f.heap) (hT:K.lookup T=none) (gT:f.heap.get? T=some (tabObj #[])) (C:CodeHd f.heap c T) (Q:f.heap.Ns mainGlobals mg) (g:f.heap.Ns builtinsNs mb) (hbb:∀x:Str,x≠"__name__"->mb x=bootBuiltins x) (O:f.heap.NoLimit) (hg:f.gens= #[])
 (I:f.heap.get? a=some { cls:=.type "list",data:=.seq vs.toArray }) (hi:IntsAre vs ns) (hl:ns.length<=sizeLine) (hr:aH k callerA)
 (F:∀l:Heap,K.In l->l.Ns mainGlobals mg->dZ PR w K mg l fg k Y fd [x] (fP K sp)) (E:∀s u,BindsTo s fd ⟨[u],[]⟩ [(x,u)])
 (hsp:sp [.ls (ns.map RV.int)] (tf T pos q) λv U=>v= .bl true/\U T=some (.tb T pos q)):
 codeAny (model PR w) callerA (.call (.ref Y) ⟨[.ref a],[]⟩) (λr t=>r= .ok (.ret (.bool true))/\OldK f.heap t.heap/\t.os=f.os/\AllBare t.gens) f:=by
 have rv:=L2.bP hi;have R:=hi.length;have X:a≠T:=λz=>by rw[z,gT]at I;cases I
 have A:∀H:Hp,H T=some (.ext (gg T pos none))->Fz K H a (ns.map V.int)->cX PR w H f.heap->(∀b,H b≠none->b=T∨b=a/\∃o u,H a=some (.aX o u))->(H a≠none->K.lookup a=none)->
  codeAny (model PR w) callerA (.call (.ref Y) ⟨[.ref a],[]⟩) (λr t=>r= .ok (.ret (.bool true))/\OldK f.heap t.heap/\t.os=f.os/\AllBare t.gens) f:=by
  intro H hHT hS av hA hK;have nd:∀{b:Addr} {o:Obj} {M:Array DictEntry} {L:Nat},f.heap.get? b=some o->o.data= .dict M L->H b=none:=λ{b o M L} e d=>by
   cases z:H b with
   |none=>rfl
   |some u=>
    rcases hA b (by rw[z];simp)with y|⟨y,_⟩
    . rw[y,gT]at e;cases e;cases d
    . rw[y,I]at e;cases e
      have d':Data.seq vs.toArray _=Data.dict M L:=d;cases d'
  have n:∀{b:Addr} {m:br},f.heap.Ns b m->(nz f.heap H).Ns b m:=λ{b m} ⟨o,M,L,e,d,r⟩=>⟨o,M,L,Ik e (nd e d),d,r⟩
  have N:K.In (nz f.heap H):=λb o e=>Ik (KX b o e) (by
   cases z:H b with
   |none=>rfl
   |some u=>
    rcases hA b (by rw[z];simp)with y|⟨y,_⟩
    . rw[y,hT]at e;cases e
    . rw[y,hK (by rw[<-y,z];simp)]at e;cases e)
  have hM:Mod K mg (nz f.heap H):=⟨N,n Q,⟨mb,n g,hbb⟩,let⟨mc,h1,h2⟩:=O;⟨mc,n h1,h2⟩⟩;have e0:gR PR w K mg (nz f.heap H) callerA [] f H:=⟨rfl,hM,λb o e=>WJ e,Nat.le_of_eq (Us _ _),trivial,λb g=>aU (show b∈([]:List Addr)from g) (by simp),av,.of_eq hg⟩
  have up:fP K sp [.ref a] H (λv W=>v= .bl true/\∃o,W T=some (.ext (gg T pos o))) λ_ _ _=>False:=by
   refine⟨[.ls (ns.map RV.int)],tf T pos q,λv U=>v= .bl true/\U T=some (.tb T pos q),aa.cons (by simp only[Rep];exact⟨a,_,rfl,hS,Bb ns⟩) aa.nil,λb o e=>?_,hsp,λrv U v W z _ w' r=>?_⟩
   . by_cases g:b=T
     . subst g;rw[II]at e;cases e;exact⟨_,hHT,.inl rfl⟩
     . rw[Vf g]at e;cases e
   . obtain⟨rfl,z⟩:=z
     obtain⟨ho,e1,e2⟩:=w' T _ z;simp only[Rep]at r;rcases e2 with rfl|⟨c',_,_,_,rfl,_⟩
     . exact⟨r,none,e1⟩
     . exact⟨r,some c',e1⟩
  refine codeAny_mono ((F _ N (n Q)).run callerA [] f H ⟨[.ref a],[]⟩ [.ref a] [.ref a] _ _ hr e0 (E f (.ref a)) (.cons rfl .nil) up) λr t h=>?_
  cases r with
  |error e=>exact False.elim h
  |ok fl=>
   cases fl with
   |next=>exact False.elim h
   |brk=>exact False.elim h
   |cont=>exact False.elim h
   |ret u=>
    obtain⟨v,W,os,J,un,D,r',q',o,hT'⟩:=h;subst q';obtain rfl:u=Value.bool true:=r';have Z:gg T pos o t.heap:=(D T _ hT').1;refine⟨rfl,⟨λb ob e=>?_,λb ob e=>un.there b ob e (by simp)⟩,os,J⟩
    cases z:H b with
    |none=>exact .inl (un.keep b ob e z (by intro z;exact aU (show b∈([]:List Addr)from z) (by simp)) (by simp))
    |some u=>
     rcases hA b (by rw[z];simp)with rfl|⟨rfl,ob',u',j⟩
     . rw[gT]at e;cases e
       refine .inr (.inl ⟨(C.tab gT).isCodeTable,rfl,#[],match o with|none=>#[]|some c=>#[rawInt pos.line,rawInt pos.col,.ref c],rfl,?_⟩)
       cases o<;>exact Z
     . have z2:=un.aY b ob' u' j
       have e1:=(av b _ j).1;rw[e]at e1;cases e1;exact .inl (D b _ z2).1
 cases hk:K.lookup a with
 |some o=>
  have e:=KX a o hk;rw[I]at e;cases e;refine A (λb=>if b=T then some (.ext (gg T pos none))else none) (ag rfl) (.inr ⟨_,vs.toArray,_,hk,rfl,rfl,rfl,by rw[eX,R];exact hl,by simpa using rv⟩) (λb u z=>?_) (λb z=>?_) λz=>aU (ab X) z
  . by_cases g:b=T
    . subst g;have j:=(ag rfl).symm.trans z;cases j;exact B6 gT
    . have j:=(ab g).symm.trans z;cases j
  . by_cases g:b=T
    . exact .inl g
    . exact aU (ab g) z
 |none=>
  refine A (λb=>if b=T then some (.ext (gg T pos none))else if b=a then some (.aX { cls:=.type "list",data:=.seq vs.toArray } (.lst (ns.map V.int)))else none) (ag rfl) (.inl ⟨_,(ab X).trans (ag rfl)⟩) (λb u z=>?_) (λb z=>?_) λ_=>hk
  . by_cases g:b=T
    . subst g;have j:=(ag rfl).symm.trans z;cases j;exact B6 gT
    . by_cases i:b=a
      . have j:=((ab g).trans (ag i)).symm.trans z
        cases j;subst i;exact⟨I,by rw[aW];exact hl,vs,_,rv,I⟩
      . have j:=((ab g).trans (ab i)).symm.trans z;cases j
  . by_cases g:b=T
    . exact .inl g
    . by_cases i:b=a
      . exact .inr ⟨i,_,_,(ab X).trans (ag rfl)⟩
      . exact aU ((ab g).trans (ab i)) z
theorem j0{l:OpenLaw}{n k:Nat}{q:Program}{loose:az}{d:DefRec}{K:Params->Frag}{sp:bU}{x:Str}{T c:Addr}
 (U:l.most=some n) (A:n<=sizeLine) (y:d.params.defaults= []) (W:aH k callerA)
 (N:∀w h,YP w h->(K w.params).In h/\h.get? T=some (tabObj #[])) (M:∀p,(K p).lookup T=none) (J:∀p h,(K p).In h->CodeHd h c T)
 (F:∀w i m h,(K w.params).In h->h.Ns mainGlobals i->i d.name=some (.ref m)->
  ∃t:FuncData,(∀s u,BindsTo s t ⟨[u],[]⟩ [(x,u)])/\
   ∀b:Heap,(K w.params).In b->b.Ns mainGlobals i->dZ l.prog w (K w.params) i b fg k m t [x] (fP (K w.params) sp))
 (C:∀ns:List Int,ns.length<=n->sp [.ls (ns.map RV.int)] (tf T pos lq) λv H=>v= .bl true/\H T=some (.tb T pos lq)):
 WalkO q loose XP YP l.row.toRowW d [] (λf vs=>PySem.call f vs):=by
 refine Att.gr U y λw D E i mb m o pm cd I a vs ns G Y Z X Q z j g e R=>?_
 obtain⟨r,gT⟩:=N w _ Y;obtain⟨t,O,L⟩:=F w i m _ r G.T.g z;exact Uk r (M _) gT (J _ _ r) G.T.g G.T.b G.T.builtins G.T.nolimit R j g (bQ e A) W L O (C ns e)
end R
namespace H44
open PySem PySem.W PyProof.Rows HD
variable(P:Params)
noncomputable abbrev p:=PySem.Challenge.pw_lentgate_k44_whole_behind_a_wide_gate
noncomputable abbrev body:=behindTheImports p
noncomputable abbrev top (i:Nat):Stmt:=Z5 p i
noncomputable def env:Env:={ scope:=p.main.scope,locals:=mainNs,globals:=mainNs,cells:=[],code:=.ref 13,frame:=some 14 }
noncomputable def cd:Code:=.body body env
noncomputable def ann:cI:=some (.ref 6)
noncomputable def q0:Pos:=⟨0,0,0,0⟩
noncomputable def B:List Frame:=[topFrame q0]
noncomputable abbrev wf (w:World) (b:Bool):World:=w.withFollow "special-get-raises" b
noncomputable section
noncomputable abbrev Eu:Value:=.str "__main__" 164
noncomputable abbrev eZ:Value:=.str "lentgate.ends" 194
noncomputable abbrev sC:Value:=.str "lentgate.forms" 475
noncomputable abbrev sD:Value:=.str "lentgate.lines" 565
noncomputable abbrev jK:Value:=.str "lentgate.rules" 711
noncomputable abbrev iw:Value:=.str "lentgate.pool" 794
noncomputable abbrev ee:Value:=.str "lentgate.talks" 894
noncomputable abbrev cw:Value:=.str "lentgate.gate" 1101
noncomputable abbrev fU:Value:=.str "lentgate.yards" 1437
noncomputable abbrev jg:Value:=.str "law_lentgate_k44_whole_behind_a_wide_gate" 1595
noncomputable def cO (n q:Str)(a:Nat)(L k f:Int)(r:Nat)(b:Bool)(z:Value):Obj:=Eb [.str n a,.str q (a+1),.str "/claim/cut.py" (a+2),.int L 0,.int k 0,.int 0 0,.int 0 0,.int f 0,.ref r,.bool b,.int 181 0,.ref (r+1),.none,.none,.none,z,.int ((a+3:Nat):Int) 0,.int L 0,.str "/claim/cut.py" (a+4)]
noncomputable def cC (n:Str)(a:Nat)(L:Int)(r:Nat):Obj:=cO n n a L 0 0 r false .none
noncomputable def j8 (b:Nat)(v:Value):Obj:=⟨.type "frame",none,.plain,#[some (.ref (b+3)),some (.ref 3),some (.ref b),none,some v,none,some (.ref 0)]⟩
noncomputable def Ea (n:Str)(bs rs:au)(k:Nat)(c:au)(x:cI)(a b:Nat)(w:String):Obj:=⟨.type "type",none,.cls { name:=n,bases:=bs,mro:=.ref (k+1)::rs,ns:=k,qualname:=n,hasDict:=true,slotNames:=[],subclasses:=c,abstract:=false,collection:=none,hasDel:=false },#[x,none,some (.str n a),some (.str n b),some (.builtin w),some (.bool true)]⟩
noncomputable def rY (n:Str)(k a:Nat):Obj:=Ea n [.type "object"] [.type "object"] k [] none a (a+8) "object.__new__"
noncomputable def oe (n:Str)(b:Value)(rs:au)(k:Nat)(c:au)(x a:Nat):Obj:=Ea n [b] (rs++ [.type "ValueError",.type "Exception",.type "BaseException",.type "object"]) k c (some (.ref x)) a (a+8) "ValueError.__new__"
noncomputable def gD (t r:Nat):Obj:=⟨.type "getset_descriptor",none,.fields #[.str "__dict__" t,.ref r,.builtin "function.__dict__",.builtin "function.__dict__#set"],#[]⟩
noncomputable def gW (t r:Nat):Obj:=⟨.type "getset_descriptor",none,.fields #[.str "__weakref__" t,.ref r,.builtin "ExceptionGroup.__weakref__",.none],#[]⟩
noncomputable def sU (r:Nat):Obj:=⟨.type "super",none,.fields #[.ref r,.ref r,.ref r],#[]⟩
noncomputable def iS (r:Nat):Obj:=⟨.type "builtin_function_or_method",none,.fields #[.builtin "object.__init_subclass__",.ref r],#[]⟩
noncomputable def Er (c:Int)(l:List (Int×Nat)):au:=l.flatMap λx=>[.int x.1 0,.int c 0,.ref x.2]
noncomputable def sx (l:List (Int×Nat)):Obj:=⟨.none,none,.fields (Er 4 l).toArray,#[]⟩
noncomputable def rE (l:List (String×Nat×Nat)):List DictEntry:=l.map λx=>e1 P x.1 x.2.1 (.ref x.2.2)
noncomputable def nB (v:Value)(n:Str)(t:Nat)(L:Int)(l:List (String×Nat×Nat))(a b:Nat):Obj:=d9 ([e1 P "__module__" t v,e1 P "__qualname__" (t+2) (.str n (t+1)),e1 P "__firstlineno__" (t+4) (.int L (t+3))]++rE P l++ [e1 P "__static_attributes__" a (.ref b)]) (l.length+4)
noncomputable def nA (v:Value)(t:Nat)(L:Int)(l:List (String×Nat×Nat))(a b:Nat)(es:List DictEntry)(k:Nat):Obj:=d9 ([e1 P "__module__" t v,e1 P "__firstlineno__" (t+4) (.int L (t+3))]++rE P l++ [e1 P "__static_attributes__" a (.ref b)]++es) k
noncomputable def nF (v:Value)(t:Nat)(L:Int)(l:List (String×Nat×Nat))(a b:Nat):Obj:=nA P v t L l a b [e1 P "__dict__" (a+2) (.ref (b+3)),e1 P "__weakref__" (a+4) (.ref (b+4)),e1 P "__doc__" (a+5) .none] 4
noncomputable def ns:List DictEntry:=[e1 P "__name__" 165 jg,e1 P "__doc__" 166 (.none),e1 P "__package__" 167 (.none),e1 P "__loader__" 168 (.builtin "__main__.__loader__#opaque"),e1 P "__spec__" 169 (.none),e1 P "__annotations__" 170 (.ref 6),e1 P "__builtins__" 171 (.ref 4),e1 P "__file__" 173 (.str "/claim/cut.py" 172),e1 P "__cached__" 174 (.none),e1 P "_wall" 193 (.ref 21),e1 P "GREATEST_HOUSE" 197 (.int 99 196),e1 P "GREATEST_DOOR" 199 (.int 9999 198),e1 P "GREATEST_PLACE" 201 (.int 1000000 200),e1 P "GREATEST_TICKS" 203 (.int 1000000 202),e1 P "GREATEST_RULE" 205 (.int 1000000 204),e1 P "MOST_SIGNS" 207 (.int 40 206),e1 P "FIRST_SIGN" 209 (.int 32 208),e1 P "LAST_SIGN" 211 (.int 126 210),e1 P "PERCENT_SIGN" 213 (.int 37 212),e1 P "KINDS" 216 (.ref 22),e1 P "NOTE_WORDS" 218 (.ref 23),e1 P "LINE_WORDS" 223 (.ref 24),e1 P "is_whole" 230 (.ref 31),e1 P "is_whole_within" 239 (.ref 38),e1 P "is_house" 246 (.ref 45),e1 P "is_door" 253 (.ref 52),e1 P "is_place" 260 (.ref 59),e1 P "is_outer_place" 267 (.ref 66),e1 P "is_ticks" 274 (.ref 73),e1 P "is_kind" 281 (.ref 80),e1 P "is_word" 289 (.ref 87),e1 P "is_sign" 297 (.ref 94),e1 P "is_text" 303 (.ref 99),e1 P "is_letter" 312 (.ref 106),e1 P "is_out" 326 (.ref 113),e1 P "is_come" 339 (.ref 120),e1 P "is_lost" 351 (.ref 127),e1 P "is_wait" 358 (.ref 134),e1 P "is_rule" 370 (.ref 141),e1 P "is_unrule" 377 (.ref 148),e1 P "DEEDS" 390 (.ref 149),e1 P "name_of" 397 (.ref 156),e1 P "is_deed" 406 (.ref 163),e1 P "GateError" 426 (.ref 173),e1 P "NoForm" 442 (.ref 186),e1 P "NoDeed" 458 (.ref 198),e1 P "NoRule" 474 (.ref 210),e1 P "LENDINGS" 480 (.ref 213),e1 P "SIEVES" 484 (.ref 214),e1 P "PICKS" 487 (.ref 215),e1 P "WIDEST_STEP" 489 (.int 199 488),e1 P "GREATEST_MOST" 491 (.int 200 490),e1 P "GREATEST_TIME" 493 (.int 1000000 492),e1 P "TIME_AT" 512 (.ref 216),e1 P "is_pool" 520 (.ref 223),e1 P "is_times" 526 (.ref 228),e1 P "is_form" 541 (.ref 235),e1 P "holder_of" 555 (.ref 242),e1 P "time_of" 564 (.ref 249),e1 P "LINE_STEPS" 677 (.ref 250),e1 P "BREAKABLE" 683 (.ref 265),e1 P "note_state" 691 (.ref 272),e1 P "line_state" 700 (.ref 279),e1 P "next_state" 710 (.ref 286),e1 P "Rules" 793 (.ref 338),e1 P "Pool" 893 (.ref 411),e1 P "Talk" 930 (.ref 432),e1 P "Talks" 1100 (.ref 552),e1 P "talk_row" 1114 (.ref 563),e1 P "Gate" 1436 (.ref 767),e1 P "MOST_COURTS" 1440 (.int 20 1439),e1 P "is_yard_deed" 1449 (.ref 778),e1 P "is_forms" 1455 (.ref 783),e1 P "court_answer" 1466 (.ref 790),e1 P "Yard" 1594 (.ref 866),e1 P "_law_cell" 1604 (.ref 877),e1 P "_law_well" 1612 (.ref 884),e1 P "_law_take" 1623 (.ref 891),e1 P "_law_a_form" 1629 (.ref 896),e1 P "_law_said" 1635 (.ref 901),e1 P "_law_bag_at" 1644 (.ref 908),e1 P "_law_drawn" 1650 (.ref 913),e1 P "_law_alone" 1661 (.ref 920),e1 P "_law_fits_form" 1667 (.ref 925),e1 P "_law_note" 1681 (.ref 932),e1 P "law" 1696 (.ref 939)]
noncomputable def tb:au:=Er 0 [(1,20),(17,30),(19,37),(21,44),(23,51),(25,58),(27,65),(29,72),(31,79),(33,86),(37,93),(40,98),(44,105),(46,112),(51,119),(56,126),(61,133),(63,140),(70,147),(73,155),(77,162),(84,169),(86,182),(88,194),(90,206),(100,222),(102,227),(107,234),(116,241),(124,248),(130,271),(134,278),(138,285),(143,292),(171,348),(215,421),(222,442),(305,562),(308,569),(480,777),(485,782),(489,789),(494,796),(558,876),(562,883),(566,890),(576,895),(588,900),(594,907),(600,912),(606,919),(616,924),(632,931),(646,938)]
noncomputable abbrev Ec:=dg (top 0) 15 187 Eu
noncomputable abbrev Ac:=dg (top 14) 25 224 eZ
noncomputable abbrev Ad:=dg (top 15) 32 231 eZ
noncomputable abbrev Ae:=dg (top 16) 39 240 eZ
noncomputable abbrev Af:=dg (top 17) 46 247 eZ
noncomputable abbrev Ag:=dg (top 18) 53 254 eZ
noncomputable abbrev Ah:=dg (top 19) 60 261 eZ
noncomputable abbrev Ai:=dg (top 20) 67 268 eZ
noncomputable abbrev Aj:=dg (top 21) 74 275 eZ
noncomputable abbrev Ak:=dg (top 22) 81 282 eZ
noncomputable abbrev Al:=dg (top 23) 88 290 eZ
noncomputable abbrev oh:=dg (top 25) 100 304 eZ
noncomputable abbrev oj:=dg (top 26) 107 313 eZ
noncomputable abbrev om:=dg (top 27) 114 327 eZ
noncomputable abbrev oo:=dg (top 28) 121 340 eZ
noncomputable abbrev oq:=dg (top 29) 128 352 eZ
noncomputable abbrev Ff:=dg (top 30) 135 359 eZ
noncomputable abbrev Fe:=dg (top 31) 142 371 eZ
noncomputable abbrev ot:=dg (top 33) 150 391 eZ
noncomputable abbrev ou:=dg (top 34) 157 398 eZ
noncomputable abbrev oz:=dg (top 48) 217 513 sC
noncomputable abbrev oA:=dg (top 50) 229 527 sC
noncomputable abbrev oB:=dg (top 51) 236 542 sC
noncomputable abbrev oC:=dg (top 52) 243 556 sC
noncomputable abbrev oE:=dg (top 56) 266 684 sD
noncomputable abbrev oF:=dg (top 57) 273 692 sD
noncomputable abbrev oG:=dg (top 58) 280 701 sD
noncomputable abbrev oH:=dm (top 60) 0 294 725 jK
noncomputable abbrev Fd:=dm (top 60) 1 301 732 jK
noncomputable abbrev Fc:=dm (top 60) 2 308 745 jK
noncomputable abbrev Fb:=dm (top 60) 3 315 753 jK
noncomputable abbrev oI:=dm (top 60) 4 322 761 jK
noncomputable abbrev Oz:=dm (top 60) 5 329 777 jK
noncomputable abbrev oJ:=dm (top 62) 0 350 808 iw
noncomputable abbrev oM:=dm (top 62) 1 357 817 iw
noncomputable abbrev oO:=dm (top 62) 2 364 825 iw
noncomputable abbrev oP:=dm (top 62) 3 371 834 iw
noncomputable abbrev oQ:=dm (top 62) 4 378 841 iw
noncomputable abbrev oT:=dm (top 62) 5 385 852 iw
noncomputable abbrev oU:=dm (top 62) 6 392 860 iw
noncomputable abbrev oW:=dm (top 64) 0 423 908 ee
noncomputable abbrev oX:=dm (top 65) 0 444 943 ee
noncomputable abbrev oZ:=dm (top 65) 1 451 951 ee
noncomputable abbrev pb:=dm (top 65) 2 458 959 ee
noncomputable abbrev pd:=dm (top 65) 4 470 976 ee
noncomputable abbrev Oy:=dm (top 65) 5 477 983 ee
noncomputable abbrev pf:=dm (top 65) 6 484 991 ee
noncomputable abbrev ph:=dm (top 65) 7 491 999 ee
noncomputable abbrev Ox:=dm (top 65) 9 503 1013 ee
noncomputable abbrev pq:=dm (top 65) 10 510 1021 ee
noncomputable abbrev pv:=dm (top 65) 11 517 1031 ee
noncomputable abbrev pz:=dm (top 65) 12 524 1040 ee
noncomputable abbrev pA:=dm (top 65) 13 531 1056 ee
noncomputable abbrev pB:=dm (top 65) 14 538 1065 ee
noncomputable abbrev pC:=dg (top 67) 557 1103 cw
noncomputable abbrev pD:=dm (top 68) 0 571 1127 cw
noncomputable abbrev pE:=dm (top 68) 1 578 1135 cw
noncomputable abbrev pF:=dm (top 68) 2 585 1144 cw
noncomputable abbrev pG:=dm (top 68) 3 592 1158 cw
noncomputable abbrev pH:=dm (top 68) 4 599 1171 cw
noncomputable abbrev pI:=dm (top 68) 5 606 1183 cw
noncomputable abbrev Ov:=dm (top 68) 6 613 1191 cw
noncomputable abbrev Ou:=dm (top 68) 7 620 1203 cw
noncomputable abbrev pJ:=dm (top 68) 8 627 1211 cw
noncomputable abbrev Ot:=dm (top 68) 9 634 1218 cw
noncomputable abbrev Oq:=dm (top 68) 10 641 1225 cw
noncomputable abbrev Oo:=dm (top 68) 12 653 1238 cw
noncomputable abbrev Om:=dm (top 68) 13 660 1245 cw
noncomputable abbrev Ol:=dm (top 68) 14 667 1252 cw
noncomputable abbrev pK:=dm (top 68) 15 674 1259 cw
noncomputable abbrev pL:=dm (top 68) 16 681 1274 cw
noncomputable abbrev pM:=dm (top 68) 17 688 1291 cw
noncomputable abbrev pN:=dm (top 68) 18 695 1302 cw
noncomputable abbrev pP:=dm (top 68) 19 702 1312 cw
noncomputable abbrev pQ:=dm (top 68) 20 709 1322 cw
noncomputable abbrev pR:=dm (top 68) 21 716 1335 cw
noncomputable abbrev pT:=dm (top 68) 22 723 1351 cw
noncomputable abbrev pU:=dm (top 68) 23 730 1362 cw
noncomputable abbrev pV:=dm (top 68) 24 737 1372 cw
noncomputable abbrev pW:=dm (top 68) 25 744 1389 cw
noncomputable abbrev OZ:=dm (top 68) 26 751 1403 cw
noncomputable abbrev OY:=dm (top 68) 27 758 1416 cw
noncomputable abbrev pX:=dg (top 71) 772 1441 fU
noncomputable abbrev pY:=dg (top 73) 784 1456 fU
noncomputable abbrev pZ:=dm (top 74) 1 803 1485 fU
noncomputable abbrev p5:=dm (top 74) 2 810 1493 fU
noncomputable abbrev OX:=dm (top 74) 3 817 1500 fU
noncomputable abbrev OW:=dm (top 74) 5 829 1513 fU
noncomputable abbrev p6:=dm (top 74) 6 836 1520 fU
noncomputable abbrev p7:=dm (top 74) 7 843 1539 fU
noncomputable abbrev p8:=dm (top 74) 8 850 1558 fU
noncomputable abbrev p9:=dm (top 74) 9 857 1576 fU
noncomputable abbrev qa:=dg (top 76) 871 1597 jg
noncomputable abbrev qb:=dg (top 77) 878 1605 jg
noncomputable abbrev qd:=dg (top 78) 885 1613 jg
noncomputable abbrev qe:=dg (top 81) 902 1636 jg
noncomputable abbrev qg:=dg (top 83) 914 1651 jg
noncomputable abbrev qh:=dg (top 85) 926 1668 jg
noncomputable abbrev kQ:=dg (top 86) 933 1682 jg
noncomputable def v7:Obj:=tup []
def DW:Obj:=cC "<module>" 182 1 11
noncomputable def PU:Obj:=⟨.type "frame",none,.plain,#[some (.ref 13),some (.ref 3),some (.ref 3),none,some Eu,none,some (.ref 0)]⟩
noncomputable def PV:Obj:=tup [.str "note" 214,.str "line" 215]
noncomputable def PX:Obj:=tup [.str "say" 217]
noncomputable def PY:Obj:=tup [.str "open" 219,.str "say" 220,.str "close" 221,.str "break" 222]
noncomputable def v8:Obj:=⟨.none,none,.fields #[],#[]⟩
noncomputable abbrev wU:=dg (top 24) 95 298 eZ
def rQ:Obj:=d9 (rE P [("out",378,113),("come",379,120),("lost",380,127),("wait",381,134),("rule",382,141),("unrule",383,148)]) 6
noncomputable def O7:Obj:=tup [.type "ValueError"]
noncomputable def fB:Obj:=⟨.type "builtin_function_or_method",none,.fields #[.builtin "type.__prepare__",.type "type"],#[]⟩
def O6:Obj:=nB P (.str "lentgate.errors" 407) "GateError" 416 84 [] 421 171
def O5:Obj:=cC "GateError" 411 84 167
def O4:Obj:=j8 166 (.str "lentgate.errors" 407)
def O3:Obj:=nA P (.str "lentgate.errors" 407) 416 84 [] 421 171 [e1 P "__weakref__" 423 (.ref 174),e1 P "__doc__" 424 (.none)] 3
def Q2:Obj:=oe "GateError" (.type "ValueError") [] 172 [] 164 409
def O2:Obj:=gW 422 173
def O0:Obj:=sU 173
def Nm:Obj:=iS 173
def QZ:Obj:=oe "GateError" (.type "ValueError") [] 172 [.ref 186] 164 409
noncomputable def t6:Obj:=tup [.ref 173]
def Nl:Obj:=nB P (.str "lentgate.errors" 407) "NoForm" 434 86 [] 439 184
def Nk:Obj:=cC "NoForm" 429 86 180
def Nj:Obj:=j8 179 (.str "lentgate.errors" 407)
def Ni:Obj:=nA P (.str "lentgate.errors" 407) 434 86 [] 439 184 [e1 P "__doc__" 440 (.none)] 2
def Nh:Obj:=oe "NoForm" (.ref 173) [.ref 173] 185 [] 177 427
def Ng:Obj:=sU 186
def Nf:Obj:=iS 186
def QY:Obj:=oe "GateError" (.type "ValueError") [] 172 [.ref 186,.ref 198] 164 409
def Nb:Obj:=nB P (.str "lentgate.errors" 407) "NoDeed" 450 88 [] 455 196
def Na:Obj:=cC "NoDeed" 445 88 192
def NR:Obj:=j8 191 (.str "lentgate.errors" 407)
def NQ:Obj:=nA P (.str "lentgate.errors" 407) 450 88 [] 455 196 [e1 P "__doc__" 456 (.none)] 2
def NP:Obj:=oe "NoDeed" (.ref 173) [.ref 173] 197 [] 189 443
def NO:Obj:=sU 198
def NM:Obj:=iS 198
def NL:Obj:=oe "GateError" (.type "ValueError") [] 172 [.ref 186,.ref 198,.ref 210] 164 409
def NK:Obj:=nB P (.str "lentgate.errors" 407) "NoRule" 466 90 [] 471 208
def NJ:Obj:=cC "NoRule" 461 90 204
def NI:Obj:=j8 203 (.str "lentgate.errors" 407)
def NH:Obj:=nA P (.str "lentgate.errors" 407) 466 90 [] 471 208 [e1 P "__doc__" 472 (.none)] 2
def NG:Obj:=oe "NoRule" (.ref 173) [.ref 173] 209 [] 201 459
def NF:Obj:=sU 210
def ND:Obj:=iS 210
noncomputable def NC:Obj:=tup [.str "door" 477,.str "place" 478,.str "talk" 479]
noncomputable def NB:Obj:=tup [.str "all" 481,.str "place" 482,.str "talk" 483]
noncomputable def NA:Obj:=tup [.str "next" 485,.str "keep" 486]
noncomputable def rR:Obj:=d9 [e1 P "note" 494 (.int 0 495),e1 P "asked" 496 (.int 1 497),e1 P "called" 498 (.int 1 499),e1 P "up" 500 (.int 2 501),e1 P "near" 502 (.int 2 503),e1 P "far" 504 (.int 2 505)] 6
noncomputable abbrev kW:=dg (top 49) 224 521 sC
noncomputable def Nz:Obj:=tup [.str "house" 567,.none,.str "open" 568]
noncomputable def Ny:Obj:=tup [.str "house" 570,.str "asked" 571,.str "open" 572]
noncomputable def Nx:Obj:=tup [.str "house" 574,.str "called" 575,.str "open" 576]
noncomputable def Nw:Obj:=tup [.str "house" 578,.str "up" 579,.str "say" 580]
noncomputable def Nu:Obj:=tup [.str "house" 582,.str "far" 583,.str "say" 584]
noncomputable def Nt:Obj:=tup [.str "house" 586,.str "up" 587,.str "close" 588]
noncomputable def Nr:Obj:=tup [.str "house" 590,.str "far" 591,.str "close" 592]
noncomputable def Nq:Obj:=tup [.str "far" 594,.none,.str "open" 595]
noncomputable def Np:Obj:=tup [.str "far" 597,.str "called" 598,.str "open" 599]
noncomputable def Nn:Obj:=tup [.str "far" 601,.str "asked" 602,.str "open" 603]
noncomputable def Oj:Obj:=tup [.str "far" 605,.str "up" 606,.str "say" 607]
noncomputable def Oi:Obj:=tup [.str "far" 609,.str "near" 610,.str "say" 611]
noncomputable def Oh:Obj:=tup [.str "far" 613,.str "up" 614,.str "close" 615]
noncomputable def Og:Obj:=tup [.str "far" 617,.str "near" 618,.str "close" 619]
noncomputable def Oe:Obj:=tup [.str "asked" 678,.str "called" 679,.str "up" 680,.str "near" 681,.str "far" 682]
noncomputable def Mb:List (String×Nat×Nat):=[("__init__",731,300),("tell",744,307),("stands",752,314),("drop",760,321),("door_for",776,328),("listed",783,335)]
def Od:Obj:=nB P jK "Rules" 720 143 Mb 786 336
def QX:Obj:=sx [(145,299),(149,306),(155,313),(158,320),(161,327),(168,334)]
def Oc:Obj:=cC "Rules" 715 143 290
def Ob:Obj:=j8 289 jK
noncomputable def Oa:Obj:=tup [.str "many_told" 784,.str "standing" 785]
def N9:Obj:=nF P jK 720 143 Mb 786 336
def N8:Obj:=rY "Rules" 337 713
def N7:Obj:=gD 787 338
def N6:Obj:=gW 789 338
def N5:Obj:=sU 338
def N4:Obj:=iS 338
noncomputable def Ma:List (String×Nat×Nat):=[("__init__",816,356),("has",824,363),("is_free",833,370),("from_mark",840,377),("picked",851,384),("take",859,391),("give",868,398),("resting",874,403),("many_free",880,408)]
def N3:Obj:=nB P iw "Pool" 803 171 Ma 886 409
def QW:Obj:=sx [(173,355),(180,362),(183,369),(188,376),(191,383),(199,390),(205,397),(209,402),(212,407)]
def N2:Obj:=cC "Pool" 798 171 346
def N0:Obj:=j8 345 iw
noncomputable abbrev qj:=dm (top 62) 7 399 869 iw
noncomputable abbrev qk:=dm (top 62) 8 404 875 iw
noncomputable def NZ:Obj:=tup [.str "high" 881,.str "low" 882,.str "mark" 883,.str "taken" 884,.str "until" 885]
def NY:Obj:=nF P iw 803 171 Ma 886 409
def NX:Obj:=rY "Pool" 410 796
def NW:Obj:=gD 887 411
def NV:Obj:=gW 889 411
def NU:Obj:=sU 411
def NT:Obj:=iS 411
noncomputable def L9:List (String×Nat×Nat):=[("__init__",918,429)]
def NS:Obj:=nB P ee "Talk" 903 215 L9 923 430
def QV:Obj:=sx [(217,428)]
def Mz:Obj:=cC "Talk" 898 215 419
def My:Obj:=j8 418 ee
noncomputable def Mx:Obj:=tup [.str "inner" 919,.str "number" 920,.str "over" 921,.str "state" 922]
def Mw:Obj:=nF P ee 903 215 L9 923 430
def Mv:Obj:=rY "Talk" 431 896
def Mu:Obj:=gD 924 432
def Mt:Obj:=gW 926 432
def Ms:Obj:=sU 432
def Mr:Obj:=iS 432
noncomputable def L8:List (String×Nat×Nat):=[("__init__",950,450),("of_inner",958,457),("of_outer",969,464),("is_with",975,469),("living",982,476),("is_living",990,483),("number_of",998,490),("holder_at",1006,497),("held",1012,502),("lent_until",1020,509),("lend",1030,516),("end_lend",1039,523),("begin",1055,530),("lead",1064,537),("end",1079,544),("pass_by",1085,549)]
def Mq:Obj:=nB P ee "Talks" 938 222 L8 1093 550
noncomputable def QU:Obj:=sx [(224,449),(233,456),(236,463),(241,468),(244,475),(247,482),(250,489),(253,496),(256,501),(259,508),(262,515),(268,522),(273,529),(281,536),(288,543),(299,548)]
def MZ:Obj:=cC "Talks" 933 222 440
def MY:Obj:=j8 439 ee
noncomputable abbrev kX:=dm (top 65) 3 465 970 ee
noncomputable abbrev kY:=dm (top 65) 8 498 1007 ee
noncomputable abbrev kZ:=dm (top 65) 15 545 1080 ee
noncomputable def MX:Obj:=tup [.str "by_inner" 1086,.str "by_number" 1087,.str "form" 1088,.str "holders" 1089,.str "now" 1090,.str "numbers" 1091,.str "pool" 1092]
def MW:Obj:=nF P ee 938 222 L8 1093 550
def MV:Obj:=rY "Talks" 551 931
def MU:Obj:=gD 1094 552
def MT:Obj:=gW 1096 552
def MS:Obj:=sU 552
def MR:Obj:=iS 552
noncomputable def L7:List (String×Nat×Nat):=[("__init__",1134,577),("deed",1143,584),("out",1157,591),("come",1170,598),("lost",1182,605),("wait",1190,612),("rule",1202,619),("unrule",1210,626),("moment",1217,633),("free",1224,640),("lends",1231,647),("talks",1237,652),("rests",1244,659),("rules",1251,666),("book",1258,673),("answered",1273,680),("sent",1290,687),("lead_out",1301,694),("begin_out",1311,701),("picked_for",1321,708),("come_in",1334,715),("lead_in",1350,722),("sifted",1361,729),("lets_note_in",1371,736),("come_by_rule",1388,743),("told_lost",1402,750),("rule_told",1415,757),("rule_dropped",1423,764)]
def MQ:Obj:=nB P cw "Gate" 1122 308 L7 1429 765
noncomputable def QT:Obj:=sx [(310,576),(319,583),(326,590),(329,597),(332,604),(335,611),(338,618),(341,625),(344,632),(347,639),(350,646),(353,651),(356,658),(359,665),(362,672),(365,679),(380,686),(388,693),(398,700),(410,707),(416,714),(424,721),(434,728),(442,735),(446,742),(460,749),(467,756),(473,763)]
def MP:Obj:=cC "Gate" 1117 308 567
def MO:Obj:=j8 566 cw
noncomputable abbrev k7:=dm (top 68) 11 648 1232 cw
noncomputable def MN:Obj:=tup [.str "done" 1424,.str "form" 1425,.str "strangers" 1426,.str "table" 1427,.str "wish" 1428]
def MM:Obj:=nF P cw 1122 308 L7 1429 765
def ML:Obj:=rY "Gate" 766 1115
def MK:Obj:=gD 1430 767
def MJ:Obj:=gW 1432 767
def MI:Obj:=sU 767
def MH:Obj:=iS 767
noncomputable abbrev k8:=dg (top 72) 779 1450 fU
noncomputable def L6:List (String×Nat×Nat):=[("__init__",1484,802),("deed",1492,809),("moment",1499,816),("lends",1506,823),("talks",1512,828),("ways",1519,835),("write_out",1538,842),("lead_on",1557,849),("tell_on",1575,856),("go_by",1584,863)]
def MG:Obj:=nB P fU "Yard" 1474 494 L6 1587 864
def QS:Obj:=sx [(496,801),(502,808),(513,815),(516,822),(519,827),(522,834),(525,841),(536,848),(544,855),(552,862)]
def MF:Obj:=cC "Yard" 1469 494 794
def ME:Obj:=j8 793 fU
noncomputable abbrev k9:=dm (top 74) 0 798 1479 fU
noncomputable abbrev lj:=dm (top 74) 4 824 1507 fU
noncomputable def MD:Obj:=tup [.str "courts" 1585,.str "front" 1586]
def MC:Obj:=nF P fU 1474 494 L6 1587 864
def MB:Obj:=rY "Yard" 865 1467
def MA:Obj:=gD 1588 866
def M7:Obj:=gW 1590 866
def M6:Obj:=sU 866
def M5:Obj:=iS 866
noncomputable abbrev lu:=dg (top 79) 892 1624 jg
noncomputable abbrev lx:=dg (top 80) 897 1630 jg
noncomputable abbrev lz:=dg (top 82) 909 1645 jg
noncomputable abbrev lA:=dg (top 84) 921 1662 jg
noncomputable def fin (P:Params)(D:Obj):List Obj:=[boot_o_0 P,boot_o_1 P,boot_o_2 P,d9 ((ns P).take 86) 86,boot_o_4 P,boot_o_5 P,boot_o_6 P,boot_o_7 P,boot_o_8 P,boot_o_9 P,boot_o_10 P,v7,ck (tb.take 162),DW,PU]++(Ec.objs++([PV,PX,PY]++(obs [Ac,Ad,Ae,Af,Ag,Ah,Ai,Aj,Ak,Al]++(wU.gY++(obs [oh,oj,om,oo,oq,Ff,Fe]++([rQ P]++(obs [ot,ou]++([O7,fB,O6 P,v7,v8,O5,O4,v7,O3 P,NL,O2,O0,Nm,t6,fB,Nl P,v7,v8,Nk,Nj,v7,Ni P,Nh,Ng,Nf,t6,fB,Nb P,v7,v8,Na,NR,v7,NQ P,NP,NO,NM,t6,fB,NK P,v7,v8,NJ,NI,v7,NH P,NG,NF,ND,NC,NB,NA,rR P]++(oz.objs++(kW.gY++(obs [oA,oB,oC]++([D,Nz,Ny,Nx,Nw,Nu,Nt,Nr,Nq,Np,Nn,Oj,Oi,Oh,Og,Oe]++(obs [oE,oF,oG]++([v7,fB,Od P,v7,QX,Oc,Ob]++(obs [oH,Fd,Fc,Fb,oI,Oz]++([Oa,N9 P,N8,N7,N6,N5,N4,v7,fB,N3 P,v7,QW,N2,N0]++(obs [oJ,oM,oO,oP,oQ,oT,oU]++((qj.gY++(qk.gY++([NZ,NY P,NX,NW,NV,NU,NT,v7,fB,NS P,v7,QV,Mz,My])))++(oW.objs++([Mx,Mw P,Mv,Mu,Mt,Ms,Mr,v7,fB,Mq P,v7,QU,MZ,MY]++(obs [oX,oZ,pb]++(kX.gY++(obs [pd,Oy,pf,ph]++(kY.gY++(obs [Ox,pq,pv,pz,pA,pB]++((kZ.gY++([MX,MW P,MV,MU,MT,MS,MR]))++(pC.objs++([v7,fB,MQ P,v7,QT,MP,MO]++(obs [pD,pE,pF,pG,pH,pI,Ov,Ou,pJ,Ot,Oq]++(k7.gY++(obs [Oo,Om,Ol,pK,pL,pM,pN,pP,pQ,pR,pT,pU,pV,pW,OZ,OY]++([MN,MM P,ML,MK,MJ,MI,MH]++(pX.objs++(k8.gY++(pY.objs++(([v7,fB,MG P,v7,QS,MF,ME]++(k9.gY))++(obs [pZ,p5,OX]++(lj.gY++(obs [OW,p6,p7,p8,p9]++([MD,MC P,MB,MA,M7,M6,M5]++(obs [qa,qb,qd]++((lu.gY++(lx.gY))++(qe.objs++(lz.gY++(qg.objs++(lA.gY++(qh.objs++(kQ.objs))))))))))))))))))))))))))))))))))))))))))))))))
def mB:List Obj:=fin P default
def wJ(P:Params)(os:OsState):SharedT:=⟨treeOf ((((mB P).take 15).set 3 (boot_o_3 P)).set 12 (ck (tb.take 0))),15,{},#[],{},187,os⟩
theorem YY(w:World)(os:OsState):topGo treeTable p w 11 ann 12 ⟨boot_heap w.2,#[],boot_drawn,boot_toks,os⟩ (topStub p)=some ((wJ w.2 os).abs,⟨denote treeTable cd,cd,q0,B⟩):=by kernel_rfl
theorem VN(w:World)(os:OsState):segRun treeTable p w 11 ann 1 1 (wJ w.2 os).abs (blockOf body env cd q0 B)=some (.next,(wJ w.2 os).abs,cd,q0):=by kernel_rfl
noncomputable def D5 (P:Params)(os:OsState):SharedT:=⟨treeOf ((((mB P).take 81).set 3 (d9 ((e1 P "__name__" 165 eZ)::((ns P).drop 1).take 29) 30)).set 12 (ck (tb.take 27))),81,{},#[],{},282,os⟩
theorem R6(w)(os):segRunT treeTable p w 11 ann 1 391 (wJ w.2 os) (piecesOf ((body.drop 0).take 22) env cd q0 B)=some (.next,D5 w.2 os,cd,⟨31,0,32,25⟩):=by
 rw[eA1,eB1];kernel_rfl
noncomputable def zX (P:Params)(os:OsState):SharedT:=⟨treeOf ((((mB P).take 149).set 3 (d9 ((e1 P "__name__" 165 eZ)::((ns P).drop 1).take 39) 40)).set 12 (ck (tb.take 57))),149,{},#[],{},378,os⟩
theorem R5(w)(os):segRunT treeTable p w 11 ann 1 315 (D5 w.2 os) (piecesOf ((body.drop 22).take 10) env cd ⟨31,0,32,25⟩ B)=some (.next,zX w.2 os,cd,⟨70,0,71,74⟩):=by
 rw[eA1,eB1];kernel_rfl
noncomputable def zY (P:Params)(os:OsState):SharedT:=⟨treeOf (((((mB P).take 177).set 3 (d9 ((e1 P "__name__" 165 (.str "lentgate.errors" 407))::((ns P).drop 1).take 43) 44)).set 12 (ck (tb.take 66))).set 173 (Q2)),177,{},#[],{},427,os⟩
theorem ZY(w:World)(os:OsState)(b:Bool):segRunT treeTable p (wf w b) 11 ann 1 362 (zX w.2 os) (piecesOf ((body.drop 32).take 5) env cd ⟨70,0,71,74⟩ B)=some (.next,zY w.2 os,cd,⟨84,0,85,8⟩):=by
 rw[eA1,eB1];cases b<;>kernel_rfl
theorem R4(w)(os):segRunT treeTable p w 11 ann 1 362 (zX w.2 os) (piecesOf ((body.drop 32).take 5) env cd ⟨70,0,71,74⟩ B)=some (.next,zY w.2 os,cd,⟨84,0,85,8⟩):=by
 have h:=ZY w os (w.2.followText "special-get-raises");unfold wf at h;rw[World.withFollow_self]at h;exact h
noncomputable def D6 (P:Params)(os:OsState):SharedT:=⟨treeOf (((((mB P).take 189).set 3 (d9 ((e1 P "__name__" 165 (.str "lentgate.errors" 407))::((ns P).drop 1).take 44) 45)).set 12 (ck (tb.take 69))).set 173 (QZ)),189,{},#[],{},443,os⟩
theorem R3(w)(os):segRunT treeTable p w 11 ann 1 214 (zY w.2 os) (piecesOf ((body.drop 37).take 1) env cd ⟨84,0,85,8⟩ B)=some (.next,D6 w.2 os,cd,⟨86,0,87,8⟩):=by
 rw[eA1,eB1];kernel_rfl
noncomputable def zZ (P:Params)(os:OsState):SharedT:=⟨treeOf (((((mB P).take 201).set 3 (d9 ((e1 P "__name__" 165 (.str "lentgate.errors" 407))::((ns P).drop 1).take 45) 46)).set 12 (ck (tb.take 72))).set 173 (QY)),201,{},#[],{},459,os⟩
theorem R1(w)(os):segRunT treeTable p w 11 ann 1 214 (D6 w.2 os) (piecesOf ((body.drop 38).take 1) env cd ⟨86,0,87,8⟩ B)=some (.next,zZ w.2 os,cd,⟨88,0,89,8⟩):=by
 rw[eA1,eB1];kernel_rfl
noncomputable def z7 (P:Params)(os:OsState):SharedT:=⟨treeOf ((((mB P).take 217).set 3 (d9 ((e1 P "__name__" 165 sC)::((ns P).drop 1).take 53) 54)).set 12 (ck (tb.take 75))),217,{},#[],{},513,os⟩
theorem ZX(w:World)(os:OsState)(b:Bool):segRunT treeTable p (wf w b) 11 ann 1 388 (zZ w.2 os) (piecesOf ((body.drop 39).take 9) env cd ⟨88,0,89,8⟩ B)=some (.next,z7 w.2 os,cd,⟨99,0,99,7⟩):=by
 rw[eA1,eB1];cases b<;>kernel_rfl
theorem R0(w)(os):segRunT treeTable p w 11 ann 1 388 (zZ w.2 os) (piecesOf ((body.drop 39).take 9) env cd ⟨88,0,89,8⟩ B)=some (.next,z7 w.2 os,cd,⟨99,0,99,7⟩):=by
 have h:=ZX w os (w.2.followText "special-get-raises");unfold wf at h;rw[World.withFollow_self]at h;exact h
noncomputable def z8 (P:Params)(os:OsState):SharedT:=⟨treeOf ((((mB P).take 250).set 3 (d9 ((e1 P "__name__" 165 sD)::((ns P).drop 1).take 58) 59)).set 12 (ck (tb.take 90))),250,{},#[],{},567,os⟩
theorem RZ(w)(os):segRunT treeTable p w 11 ann 1 170 (z7 w.2 os) (piecesOf ((body.drop 48).take 6) env cd ⟨99,0,99,7⟩ B)=some (.next,z8 w.2 os,cd,⟨127,0,127,8⟩):=by
 rw[eA1,eB1];kernel_rfl
noncomputable def ob (P:Params)(i:Nat):Obj:=(((((mB P).take 250).set 3 (d9 ((e1 P "__name__" 165 sD)::((ns P).drop 1).take 58) 59)).set 12 (ck (tb.take 90))):List Obj).getD i default
noncomputable def Dd (es:Array DictEntry)(n:Nat):Obj:=⟨.type "dict",none,.dict es n,#[]⟩
noncomputable def S (o:Nat->Obj)(os:OsState)(D:Obj)(tk:Nat):SharedT:=⟨((((((((((((((((treeOf ((List.range 250).map o)).ins 250 D).ins 251 (tup [.str "house" 567,.none,.str "open" 568])).ins 252 (tup [.str "house" 570,.str "asked" 571,.str "open" 572])).ins 253 (tup [.str "house" 574,.str "called" 575,.str "open" 576])).ins 254 (tup [.str "house" 578,.str "up" 579,.str "say" 580])).ins 255 (tup [.str "house" 582,.str "far" 583,.str "say" 584])).ins 256 (tup [.str "house" 586,.str "up" 587,.str "close" 588])).ins 257 (tup [.str "house" 590,.str "far" 591,.str "close" 592])).ins 258 (tup [.str "far" 594,.none,.str "open" 595])).ins 259 (tup [.str "far" 597,.str "called" 598,.str "open" 599])).ins 260 (tup [.str "far" 601,.str "asked" 602,.str "open" 603])).ins 261 (tup [.str "far" 605,.str "up" 606,.str "say" 607])).ins 262 (tup [.str "far" 609,.str "near" 610,.str "say" 611])).ins 263 (tup [.str "far" 613,.str "up" 614,.str "close" 615])).ins 264 (tup [.str "far" 617,.str "near" 618,.str "close" 619])),265,{},#[],{},tk,os⟩
noncomputable def S0 (o:Nat->Obj)(os:OsState)(tk:Nat):SharedT:=⟨treeOf ((List.range 250).map o),250,{},#[],{},tk,os⟩
noncomputable def D4 (o:Nat->Obj)(os:OsState)(tk:Nat):SharedT:=⟨(treeOf ((List.range 250).map o)).ins 250 (Dd #[] 0),251,{},#[],{},tk,os⟩
theorem ZW(P:Params)(os:OsState):z8 P os=S0 (ob P) os 567:=by kernel_rfl
noncomputable def hs (P:Params)(x:Str):Int:=if x.cps.isEmpty then 0 else reduceHash (P.strHash x.cps)
noncomputable def kt:List (List (Option Str)):=[[some "house",none,some "open"],[some "house",some "asked",some "open"],[some "house",some "called",some "open"],[some "house",some "up",some "say"],[some "house",some "far",some "say"],[some "house",some "up",some "close"],[some "house",some "far",some "close"],[some "far",none,some "open"],[some "far",some "called",some "open"],[some "far",some "asked",some "open"],[some "far",some "up",some "say"],[some "far",some "near",some "say"],[some "far",some "up",some "close"],[some "far",some "near",some "close"]]
noncomputable def vt:au:=[.str "asked" 569,.str "asked" 573,.str "up" 577,.str "up" 581,.str "far" 585,.str "near" 589,.str "shut" 593,.str "called" 596,.str "called" 600,.str "up" 604,.str "up" 608,.str "near" 612,.str "far" 616,.str "shut" 620]
noncomputable def hx (P:Params):Option Str->Int
 |some x=>hs P x
 |none=>hashW P .none
def hi(k:Nat)(P:Params):Int:=Builtin.Tuple.tupleHashOf ((kt.getD k []).map (hx P))
def en(k:Nat)(P:Params):DictEntry:=⟨reduceHash (hi k P),.ref (251+k),vt.getD k .none⟩
def De(k:Nat)(P:Params):Obj:=Dd ((List.range k).map λj=>en j P).toArray k
theorem aM{X:Nat->Prop}(h0:X 0)(e:X 1)(f:X 2)(g:X 3)(i:X 4)(j:X 5)(l:X 6)(m:X 7)(o:X 8)(r:X 9)(a:X 10)(b:X 11)(c:X 12)(d:X 13):∀k,k<14->X k:=λk s=>match k,s with|0,_=>h0|1,_=>e|2,_=>f|3,_=>g|4,_=>i|5,_=>j|6,_=>l|7,_=>m|8,_=>o|9,_=>r|10,_=>a|11,_=>b|12,_=>c|13,_=>d|n+14,h=>aU h ∅
section
variable(w:World)(b:Bool)(o:Nat->Obj)(os:OsState)(D:Obj)(tk:Nat)(ps:Pos)
abbrev RR(w:World)(b:Bool)(o:Nat->Obj)(os:OsState)(D:Obj)(tk:Nat)(ps:Pos)(n:Nat)(x:Sem α)(a:α):Prop:=Rn p (wf w b) 11 ann cd B n x ps (S o os D tk) a ps (S o os D tk)
theorem ru(x:String):RR w b o os D tk ps 1 (rule x) ():=by refine jP λK H lv=>?_;rw[mG,eB1];kernel_rfl
theorem den(es:Array DictEntry)(n:Nat):Rn p (wf w b) 11 ann cd B 1 (dictEntries 250 none) ps (S o os (Dd es n) tk) es ps (S o os (Dd es n) tk):=by refine jP λK H lv=>?_;rw[mG,eB1];kernel_rfl
theorem dep(es:Array DictEntry)(n:Nat):Rn p (wf w b) 11 ann cd B 1 (dictEpoch 250 none) ps (S o os (Dd es n) tk) n ps (S o os (Dd es n) tk):=by refine jP λK H lv=>?_;rw[mG,eB1];kernel_rfl
theorem qu:∀k,k<14->RR w b o os D tk ps 3 (eqIsQuiet 8 (.ref (251+k))) true:=by
 refine aM ?_ ?_ ?_ ?_ ?_ ?_ ?_ ?_ ?_ ?_ ?_ ?_ ?_ ?_<;>(refine jP fun K H lv=>?_;rw [mG,eB1,PySem.W.Fast.te13066428366354244818];kernel_rfl)
theorem ro:∀k,k<14->RR w b o os D tk ps 1 (cRoomFor "hash" [.ref (251+k)]) ():=by
 refine aM ?_ ?_ ?_ ?_ ?_ ?_ ?_ ?_ ?_ ?_ ?_ ?_ ?_ ?_<;>(refine jP fun K H lv=>?_;rw [mG,eB1,PySem.W.Fast.te13383273872528276517];kernel_rfl)
theorem sp:∀k,k<14->RR w b o os D tk ps 1 (specialOf (.ref (251+k)) "__hash__") (some (.builtin "tuple.__hash__")):=by
 refine aM ?_ ?_ ?_ ?_ ?_ ?_ ?_ ?_ ?_ ?_ ?_ ?_ ?_ ?_<;>(refine jP fun K H lv=>?_;rw [mG,eB1,PySem.W.Fast.te4214721358667687652];kernel_rfl)
theorem ca:∀k,k<14->∀E:Sem Value,Rn p (wf w b) 11 ann cd B 29 (callSpecialIfBoundUnlessNone? (.ref (251+k)) "__hash__" E) ps (S o os D tk) (some (.int (hi k w.2) (tk+3))) ps (S o os D (tk+4)):=
 by refine aM (λE=>Rn.more (m1:=27) (by refine jP λK H lv=>?_;rw[mG,eB1,PySem.W.Fast.te16697807410369149715];cases b<;>kernel_rfl) ⋯) ?_ ?_ ?_ ?_ ?_ ?_ (λE=>Rn.more (m1:=27) (by refine jP λK H lv=>?_;rw[mG,eB1,PySem.W.Fast.te16697807410369149715];cases b<;>kernel_rfl) ⋯) ?_ ?_ ?_ ?_ ?_ ?_;all_goals exact λE=>Rn.more (m1:=29) (by refine jP λK H lv=>?_;rw[mG,eB1,PySem.W.Fast.te16697807410369149715];cases b<;>kernel_rfl) ⋯
theorem up:∀k,k<14->Rn p (wf w b) 11 ann cd B 3 (updateDictKeys 250 (λx=>x.push (en k w.2)) none) ps (S o os (De k w.2) tk) () ps (S o os (De (k+1) w.2) tk):=by
 refine aM ?_ ?_ ?_ ?_ ?_ ?_ ?_ ?_ ?_ ?_ ?_ ?_ ?_ ?_<;>(refine jP fun K H lv=>?_;rw [mG,eB1,PySem.W.Fast.te11826078720135083572];kernel_rfl)
noncomputable def pj:List (Nat×Nat):=(List.range 14).flatMap λk=>(List.range k).map λj=>(j,k)
noncomputable def cs:List (List Nat):=[[],[26],[26,20],[26,20,20],[26,20,20,20],[26,20,20,24,20],[26,20,20,20,24,20],[16,16,16,16,16,16,16],[16,16,16,16,16,16,16,26],[16,16,16,16,16,16,16,26,20],[16,16,16,16,16,16,16,26,20,20],[16,16,16,16,16,16,16,26,20,20,20],[16,16,16,16,16,16,16,26,20,20,24,20],[16,16,16,16,16,16,16,26,20,20,20,24,20]]
noncomputable def cn (x:Nat×Nat):Nat:=(cs.getD x.2 []).getD x.1 0
theorem P4:∀x∈pj,RR w b o os D tk ps (cn x) (eqBool (.ref (251+x.1)) (.ref (251+x.2))) false:=XT λK H lv=>by
 rw[mG,eB1,PySem.W.Fast.te13926502685295537346];cases b<;>kernel_rfl
theorem P2:(pj.all λx=>Nat.ble (cn x) 26)=true:=by kernel_rfl
theorem fi(k:Nat)(c:k<14)(h):Rn p (wf w b) 11 ann cd B 797 (dictFind 250 (.ref (251+k)) h) ps (S o os (De k w.2) tk) none ps (S o os (De k w.2) tk):=
 find_none (m:=26) (L:=14) (by show((List.range k).map _).length<=14;rw[aW,wz];lia) (ru _ _ _ _ _ _ _) (den _ _ _ _ _ _ _ _) (dep _ _ _ _ _ _ _ _) ((qu w b o os _ tk ps k c).more ⋯) λe f=>by
  obtain⟨j,a,rfl⟩:=aA.mp (show e∈(List.range k).map λj=>en j w.2 from f)
  have a:=jv.mp a;have d:(j,k)∈pj:=List.mem_flatMap.mpr ⟨k,jv.mpr c,aA.mpr ⟨j,jv.mpr a,rfl⟩⟩;have g:j<14:=gn a c;exact⟨⟨251+j,rfl,cE (Nat.add_lt_add_left a _)⟩,(qu w b o os _ tk ps j g).more ⋯,(P4 w b o os _ tk ps _ d).more (Nat.le_of_ble_eq_true (fx.mp P2 _ d))⟩
theorem se(k:Nat)(a:k<14):Rn p (wf w b) 11 ann cd B 834 (dictSet 250 (.ref (251+k)) (vt.getD k .none)) ps (S o os (De k w.2) tk) () ps (S o os (De (k+1) w.2) (tk+4)):=
 (Ww (h:=reduceHash (hi k w.2)) (ru w b o os _ (tk+4) ps) (U0 (ru w b o os _ (tk+4) ps) (ro w b o os _ tk ps k a) (sp w b o os _ tk ps k a) (ca w b o os _ tk ps k a)) (fi w b o os (tk+4) ps k a _) (up w b o os (tk+4) ps k a)).more ⋯
end
def vp(k:Nat):Value×Value:=(.ref (251+k),vt.getD k .none)
def vs:List (Value×Value):=(List.range' 0 14).map vp
def DD:Obj:=De 14 P
theorem Ku(w)(b)(o:Nat->Obj)(os)(ps)(c:∀k v,f (k,v) ()=(do dictSet 250 k v;pure (.yield ()))):∀j k a,k+j=14->
 Rn p (wf w b) 11 ann cd B (834*j) (forIn ((List.range' k j).map vp) () f) ps (S o os (De k w.2) a) () ps (S o os (DD w.2) (a+4*j))
 |0,k,a,h=>by rw[show k=14 by lia];exact Wc
 |j+1,k,a,h=>by
  rw[List.range'_succ,bX,show a+4*(j+1)=(a+4)+4*j by lia]
  exact(Wb (qvo (c _ _) (cD (m2:=0) (se w b o os a ps k ∅) gz)) (Ku w b o os ps c j (k+1) (a+4) ∅)).more ∅
theorem Vm(w)(b)(o:Nat->Obj)(os)(tk)(ps)(a:∀k v,f (k,v) ()=(do dictSet 250 k v;pure (.yield ()))):
 Rn p (wf w b) 11 ann cd B 11676 (forIn vs () f) ps (S o os (De 0 w.2) tk) () ps (S o os (DD w.2) (tk+56)):=Ku w b o os ps a 14 0 tk rfl
noncomputable def st:Stmt:=body[54]
noncomputable def vq:List (Option PySem.Expr):=match st with| .Assign _ (.Dict ks _ _) _=>ks|_=>[]
noncomputable def vo:List PySem.Expr:=match st with| .Assign _ (.Dict _ vs _) _=>vs|_=>[]
noncomputable def mC:Pos:=match st with| .Assign _ (.Dict _ _ q) _=>q|_=>default
noncomputable def i6:Pos:=match st with| .Assign _ _ q=>q|_=>default
noncomputable def rj:Pos:=⟨128,0,128,10⟩
theorem Ri:st= .Assign [.Name "LINE_STEPS" rj] (.Dict vq vo mC) i6:=by kernel_rfl
noncomputable def ae:List (Option (Sem Value)×Sem Value):=(evalEachOpt vq env).zip ((evalEach vo env).map λv=>do let x<-v;standAt mC;pure x)
noncomputable def AG:List (Sem Value×Sem Value):=ae.filterMap λx=>x.1.map λk=>(k,x.2)
theorem stq:exec st env=(do
 standAt i6
 let v<-eval (.Dict vq vo mC) env
 standAt rj
 bindName env "LINE_STEPS" v
 pure .next):=by rw[Ri];exact exec_Assign_Name env "LINE_STEPS" rj (.Dict vq vo mC) i6 (by kernel_rfl)
theorem dq:eval (.Dict vq vo mC) env=(do standAt mC;dictDisplay ae):=by kernel_rfl
theorem dd:dictDisplay ae=((subDict AG >>= λd=>pure (some d)) >>= λo=>match o with|some d=>pure (.ref d)|none=>newDict):=by kernel_rfl
theorem Yq(w)(o:Nat->Obj)(os)(tk)(ps)(a:∀k v,f (k,v) ()=(do dictSet 250 k v;pure (.yield ()))):
 Rn p w 11 ann cd B 11676 (forIn vs () f) ps (S o os (De 0 w.2) tk) () ps (S o os (DD w.2) (tk+56)):=by
 have h:=Vm w (w.2.followText "special-get-raises") o os tk ps a;unfold wf at h;rw[World.withFollow_self]at h;exact h
theorem at_{w:World}{s:SharedT}{ps ps':Pos}:Rn p w 11 ann cd B 1 (standAt ps') ps s () ps' s:=jP λK H lv=>by kernel_rfl
theorem al{w:World}{o:Nat->Obj}{os:OsState}{tk:Nat}{ps:Pos}:Rn p w 11 ann cd B 1 (alloc { cls:=.type "dict",data:=.dict #[] }) ps (S0 o os tk) 250 ps (D4 o os tk):=jP λK H lv=>by kernel_rfl
theorem ev{w:World}{o:Nat->Obj}{os:OsState}{ps:Pos}:Rn p w 11 ann cd B 96 (evalPairs AG) ps (D4 o os 567) vs mC (S o os (De 0 w.2) 621):=jP λK H lv=>by
 rw[mG,eB1];kernel_rfl
theorem sub{w:World}{o:Nat->Obj}{os:OsState}{ps:Pos}:Rn p w 11 ann cd B 11773 (subDict AG) ps (S0 o os 567) 250 mC (S o os (DD w.2) 677):=by
 unfold subDict;refine Rn.more (m1:=1+(96+(11676+0)+0)) (cD al (cD (a:=()) (uQ ?_) gz)) ⋯
 rw[ag (Nat.le_of_ble_eq_true (by kernel_rfl))]
 refine cD ev (uQ ?_);exact cD (Yq w o os 621 mC (λ_ _=>rfl)) gz
noncomputable def uw (P:Params)(os:OsState)(D:Obj):SharedT:=⟨treeOf ((((fin P D).take 265).set 3 (d9 ((e1 P "__name__" 165 sD)::((ns P).drop 1).take 59) 60)).set 12 (ck (tb.take 90))),265,{},#[],{},678,os⟩
theorem bn{w:World}{os:OsState}{D:Obj}{ps:Pos}:Rn p w 11 ann cd B 6 (bindName env "LINE_STEPS" (.ref 250)) ps (S (ob w.2) os D 677) () ps (uw w.2 os D):=jP λK H lv=>by
 rw[mG,eB1];kernel_rfl
theorem quV{w:World}{os:OsState}{ps:Pos}:Rn p w 11 ann cd B 11782 (execs [st] env) ps (S0 (ob w.2) os 567) .next rj (uw w.2 os (DD w.2)):=by
 rw[execs_cons,stq,dq,dd];refine Rn.more (m1:=(1+((1+((11773+0)+0))+(1+(6+0))))+0) (cD (a:=.next) (cD at_ (cD (cD at_ (cD (cD sub gz) gz)) (cD at_ (cD bn gz)))) ?_) ⋯
 exact gz
theorem RY(w)(os):segRunT treeTable p w 11 ann 1 11783 (z8 w.2 os) (piecesOf [st] env cd ⟨127,0,127,8⟩ B)=some (.next,uw w.2 os (DD w.2),cd,rj):=by
 rw[ZW];obtain⟨n,b,h⟩:=quV (w:=w) (os:=os) (ps:=⟨127,0,127,8⟩) doneF deadEnd id;have e:=Jb (m:=1) (r:=(.next,uw w.2 os (DD w.2),cd,rj)) h rfl;have a:=Iw (11782-n) e;rw[show n+1+(11782-n)=11783 by lia]at a
 exact a
noncomputable def D7 (P:Params)(os:OsState)(D:Obj):SharedT:=⟨treeOf ((((fin P D).take 287).set 3 (d9 ((e1 P "__name__" 165 jK)::((ns P).drop 1).take 63) 64)).set 12 (ck (tb.take 99))),287,{},#[],{},713,os⟩
theorem RX(w)(os)(D):segRunT treeTable p w 11 ann 1 118 (uw w.2 os D) (piecesOf ((body.drop 55).take 5) env cd rj B)=some (.next,D7 w.2 os D,cd,⟨142,0,142,8⟩):=by
 rw[eA1,eB1];kernel_rfl
noncomputable def D8 (P:Params)(os:OsState)(D:Obj):SharedT:=⟨treeOf ((((fin P D).take 343).set 3 (d9 ((e1 P "__name__" 165 jK)::((ns P).drop 1).take 64) 65)).set 12 (ck (tb.take 102))),343,{},#[],{},794,os⟩
theorem RW(w)(os)(D):segRunT treeTable p w 11 ann 1 395 (D7 w.2 os D) (piecesOf ((body.drop 60).take 1) env cd ⟨142,0,142,8⟩ B)=some (.next,D8 w.2 os D,cd,⟨143,0,169,16⟩):=by
 rw[eA1,eB1];kernel_rfl
noncomputable def E5 (P:Params)(os:OsState)(D:Obj):SharedT:=⟨treeOf ((((fin P D).take 343).set 3 (d9 ((e1 P "__name__" 165 iw)::((ns P).drop 1).take 64) 65)).set 12 (ck (tb.take 102))),343,{},#[],{},796,os⟩
theorem qvf(w)(os)(D):segRunT treeTable p w 11 ann 1 10 (D8 w.2 os D) (piecesOf ((body.drop 61).take 1) env cd ⟨143,0,169,16⟩ B)=some (.next,E5 w.2 os D,cd,⟨170,0,170,8⟩):=by
 rw[eA1,eB1];kernel_rfl
noncomputable def E4 (P:Params)(os:OsState)(D:Obj):SharedT:=⟨treeOf ((((fin P D).take 416).set 3 (d9 ((e1 P "__name__" 165 iw)::((ns P).drop 1).take 65) 66)).set 12 (ck (tb.take 105))),416,{},#[],{},894,os⟩
theorem qve(w)(os)(D):segRunT treeTable p w 11 ann 1 480 (E5 w.2 os D) (piecesOf ((body.drop 62).take 1) env cd ⟨170,0,170,8⟩ B)=some (.next,E4 w.2 os D,cd,⟨171,0,213,105⟩):=by
 rw[eA1,eB1];kernel_rfl
noncomputable def E2 (P:Params)(os:OsState)(D:Obj):SharedT:=⟨treeOf ((((fin P D).take 437).set 3 (d9 ((e1 P "__name__" 165 ee)::((ns P).drop 1).take 66) 67)).set 12 (ck (tb.take 108))),437,{},#[],{},931,os⟩
theorem qvd(w)(os)(D):segRunT treeTable p w 11 ann 1 238 (E4 w.2 os D) (piecesOf ((body.drop 63).take 2) env cd ⟨171,0,213,105⟩ B)=some (.next,E2 w.2 os D,cd,⟨215,0,221,24⟩):=by
 rw[eA1,eB1];kernel_rfl
noncomputable def E1 (P:Params)(os:OsState)(D:Obj):SharedT:=⟨treeOf ((((fin P D).take 557).set 3 (d9 ((e1 P "__name__" 165 ee)::((ns P).drop 1).take 67) 68)).set 12 (ck (tb.take 111))),557,{},#[],{},1101,os⟩
theorem qvc(w)(os)(D):segRunT treeTable p w 11 ann 1 718 (E2 w.2 os D) (piecesOf ((body.drop 65).take 1) env cd ⟨215,0,221,24⟩ B)=some (.next,E1 w.2 os D,cd,⟨222,0,303,37⟩):=by
 rw[eA1,eB1];kernel_rfl
noncomputable def EZ (P:Params)(os:OsState)(D:Obj):SharedT:=⟨treeOf ((((fin P D).take 564).set 3 (d9 ((e1 P "__name__" 165 cw)::((ns P).drop 1).take 68) 69)).set 12 (ck (tb.take 114))),564,{},#[],{},1115,os⟩
theorem qvb(w)(os)(D):segRunT treeTable p w 11 ann 1 44 (E1 w.2 os D) (piecesOf ((body.drop 66).take 2) env cd ⟨222,0,303,37⟩ B)=some (.next,EZ w.2 os D,cd,⟨305,0,307,78⟩):=by
 rw[eA1,eB1];kernel_rfl
noncomputable def EY (P:Params)(os:OsState)(D:Obj):SharedT:=⟨treeOf ((((fin P D).take 772).set 3 (d9 ((e1 P "__name__" 165 cw)::((ns P).drop 1).take 69) 70)).set 12 (ck (tb.take 117))),772,{},#[],{},1437,os⟩
theorem qva(w)(os)(D):segRunT treeTable p w 11 ann 1 1162 (EZ w.2 os D) (piecesOf ((body.drop 68).take 1) env cd ⟨305,0,307,78⟩ B)=some (.next,EY w.2 os D,cd,⟨308,0,477,19⟩):=by
 rw[eA1,eB1];kernel_rfl
noncomputable def EX (P:Params)(os:OsState)(D:Obj):SharedT:=⟨treeOf ((((fin P D).take 791).set 3 (d9 ((e1 P "__name__" 165 fU)::((ns P).drop 1).take 73) 74)).set 12 (ck (tb.take 126))),791,{},#[],{},1467,os⟩
theorem Z1(w)(os)(D):segRunT treeTable p w 11 ann 1 109 (EY w.2 os D) (piecesOf ((body.drop 69).take 5) env cd ⟨308,0,477,19⟩ B)=some (.next,EX w.2 os D,cd,⟨489,0,493,39⟩):=by
 rw[eA1,eB1];kernel_rfl
noncomputable def EW (P:Params)(os:OsState)(D:Obj):SharedT:=⟨treeOf ((((fin P D).take 871).set 3 (d9 ((e1 P "__name__" 165 fU)::((ns P).drop 1).take 74) 75)).set 12 (ck (tb.take 129))),871,{},#[],{},1595,os⟩
theorem Z0(w)(os)(D):segRunT treeTable p w 11 ann 1 534 (EX w.2 os D) (piecesOf ((body.drop 74).take 1) env cd ⟨489,0,493,39⟩ B)=some (.next,EW w.2 os D,cd,⟨494,0,556,19⟩):=by
 rw[eA1,eB1];kernel_rfl
def EV(P:Params)(os:OsState)(D:Obj):SharedT:=⟨treeOf ((fin P D).take 940),940,{},#[],{},1697,os⟩
theorem ZZ(w)(os)(D):segRunT treeTable p w 11 ann 1 344 (EW w.2 os D) (piecesOf ((body.drop 75).take 12) env cd ⟨494,0,556,19⟩ B)=some (.next,EV w.2 os D,cd,⟨646,0,661,15⟩):=by
 rw[eA1,eB1];kernel_rfl
def TF:BT:=(EV P default (DD P)).tree
def H1:Heap:=absHeap (TF P) 940 {}
theorem Xo:body=((body.drop 0).take 22)++(((body.drop 22).take 10)++(((body.drop 32).take 5)++(((body.drop 37).take 1)++(((body.drop 38).take 1)++(((body.drop 39).take 9)++(((body.drop 48).take 6)++([st]++(((body.drop 55).take 5)++(((body.drop 60).take 1)++(((body.drop 61).take 1)++(((body.drop 62).take 1)++(((body.drop 63).take 2)++(((body.drop 65).take 1)++(((body.drop 66).take 2)++(((body.drop 68).take 1)++(((body.drop 69).take 5)++(((body.drop 74).take 1)++(((body.drop 75).take 12)++ [])))))))))))))))))):=by kernel_rfl
theorem run_eq(w:World)(os:OsState):topRun treeTable p w 11 ann (12+(1+(391+(315+(362+(214+(214+(388+(170+(11783+(118+(395+(10+(480+(238+(718+(44+(1162+(109+(534+(344+2))))))))))))))))))))) ⟨boot_heap w.2,#[],boot_drawn,boot_toks,os⟩ (topStub p)=some ⟨H1 w.2,#[],{},1697,os⟩:=by
 refine go_top (YY w os) (piece_block (VN w os) ?_);show topRun treeTable p w 11 ann _ _ (restOf body env cd q0 B)=_;rw[Xo];refine piece_app (segRun_of (R6 w os)) ?_;refine piece_app (segRun_of (R5 w os)) ?_;refine piece_app (segRun_of (R4 w os)) ?_;refine piece_app (segRun_of (R3 w os)) ?_;refine piece_app (segRun_of (R1 w os)) ?_;refine piece_app (segRun_of (R0 w os)) ?_;refine piece_app (segRun_of (RZ w os)) ?_;refine piece_app (segRun_of (RY w os)) ?_;refine piece_app (segRun_of (RX w os _)) ?_;refine piece_app (segRun_of (RW w os _)) ?_;refine piece_app (segRun_of (qvf w os _)) ?_;refine piece_app (segRun_of (qve w os _)) ?_;refine piece_app (segRun_of (qvd w os _)) ?_;refine piece_app (segRun_of (qvc w os _)) ?_;refine piece_app (segRun_of (qvb w os _)) ?_;refine piece_app (segRun_of (qva w os _)) ?_;refine piece_app (segRun_of (Z1 w os _)) ?_;refine piece_app (segRun_of (Z0 w os _)) ?_;refine piece_app (segRun_of (ZZ w os _)) ?_;kernel_rfl
noncomputable def q:Program:=view p [0,2,3,4,5,6,7,8,9,10,11,12,13,14,15,16,17,18,19,20,21,22,23,24,25,26,27,28,29,30,31,32,33,34,36,37,38,39,41,42,43,44,45,46,47,48,49,50,51,52,54,55,56,57,58,60,62,64,65,67,68,70,71,72,73,74,76,77,78,79,80,81,82,83,84,85,86]
noncomputable def loose:az:=["DEEDS","TIME_AT","LINE_STEPS"]
noncomputable def En:List Addr:=[2,3,4,6,20,21,22,23,24,30,31,37,38,44,45,51,52,58,59,65,66,72,73,79,80,86,87,93,94,95,98,99,105,106,112,113,119,120,126,127,133,134,140,141,147,148,149,155,156,162,163,164,165,166,167,169,170,171,172,173,174,175,176,177,178,179,180,182,183,184,185,186,187,188,189,190,191,192,194,195,196,197,198,199,200,201,202,203,204,206,207,208,209,210,211,212,213,214,215,216,222,223,224,227,228,234,235,241,242,248,249,250,251,252,253,254,255,256,257,258,259,260,261,262,263,264,265,271,272,278,279,285,286,287,288,289,290,292,293,299,300,306,307,313,314,320,321,327,328,334,335,336,337,338,339,340,341,342,343,344,345,346,348,349,355,356,362,363,369,370,376,377,383,384,390,391,397,398,399,402,403,404,407,408,409,410,411,412,413,414,415,416,417,418,419,421,422,428,429,430,431,432,433,434,435,436,437,438,439,440,442,443,449,450,456,457,463,464,465,468,469,475,476,482,483,489,490,496,497,498,501,502,508,509,515,516,522,523,529,530,536,537,543,544,545,548,549,550,551,552,553,554,555,556,562,563,564,565,566,567,569,570,576,577,583,584,590,591,597,598,604,605,611,612,618,619,625,626,632,633,639,640,646,647,648,651,652,658,659,665,666,672,673,679,680,686,687,693,694,700,701,707,708,714,715,721,722,728,729,735,736,742,743,749,750,756,757,763,764,765,766,767,768,769,770,771,777,778,779,782,783,789,790,791,792,793,794,796,797,798,801,802,808,809,815,816,822,823,824,827,828,834,835,841,842,848,849,855,856,862,863,864,865,866,867,868,869,870,876,877,883,884,890,891,892,895,896,897,900,901,907,908,909,912,913,919,920,921,924,925,931,932,938,939]
noncomputable def ks:List Addr:=En++ [546]
noncomputable def K0:Frag:=En.zip ([boot_o_2 P,d9 ((ns P).take 86) 86,boot_o_4 P,boot_o_6 P]++(eD [Ec]++([PV,PX,PY]++(eD [Ac,Ad,Ae,Af,Ag,Ah,Ai,Aj,Ak,Al]++([v7,wU.con,wU.gH]++(eD [oh,oj,om,oo,oq,Ff,Fe]++([rQ P]++(eD [ot,ou]++([O7,fB,O6 P,v7,O5,O4,v7,O3 P,NL,O2,O0,Nm,t6,fB,Nl P,v7,Nk,Nj,v7,Ni P,Nh,Ng,Nf,t6,fB,Nb P,v7,Na,NR,v7,NQ P,NP,NO,NM,t6,fB,NK P,v7,NJ,NI,v7,NH P,NG,NF,ND,NC,NB,NA,rR P]++(eD [oz]++([v7,kW.con,kW.gH]++(eD [oA,oB,oC]++([DD P,Nz,Ny,Nx,Nw,Nu,Nt,Nr,Nq,Np,Nn,Oj,Oi,Oh,Og,Oe]++(eD [oE,oF,oG]++([v7,fB,Od P,v7,Oc,Ob]++(eD [oH,Fd,Fc,Fb,oI,Oz]++([Oa,N9 P,N8,N7,N6,N5,N4,v7,fB,N3 P,v7,N2,N0]++(eD [oJ,oM,oO,oP,oQ,oT,oU]++([v7,qj.con,qj.gH,v7,qk.con,qk.gH,NZ,NY P,NX,NW,NV,NU,NT,v7,fB,NS P,v7,Mz,My]++(eD [oW]++([Mx,Mw P,Mv,Mu,Mt,Ms,Mr,v7,fB,Mq P,v7,MZ,MY]++(eD [oX,oZ,pb]++([v7,kX.con,kX.gH]++(eD [pd,Oy,pf,ph]++([v7,kY.con,kY.gH]++(eD [Ox,pq,pv,pz,pA,pB]++([v7,kZ.con,kZ.gH,MX,MW P,MV,MU,MT,MS,MR]++(eD [pC]++([v7,fB,MQ P,v7,MP,MO]++(eD [pD,pE,pF,pG,pH,pI,Ov,Ou,pJ,Ot,Oq]++([v7,k7.con,k7.gH]++(eD [Oo,Om,Ol,pK,pL,pM,pN,pP,pQ,pR,pT,pU,pV,pW,OZ,OY]++([MN,MM P,ML,MK,MJ,MI,MH]++(eD [pX]++([v7,k8.con,k8.gH]++(eD [pY]++([v7,fB,MG P,v7,MF,ME,v7,k9.con,k9.gH]++(eD [pZ,p5,OX]++([v7,lj.con,lj.gH]++(eD [OW,p6,p7,p8,p9]++([MD,MC P,MB,MA,M7,M6,M5]++(eD [qa,qb,qd]++([v7,lu.con,lu.gH,v7,lx.con,lx.gH]++(eD [qe]++([v7,lz.con,lz.gH]++(eD [qg]++([v7,lA.con,lA.gH]++(eD [qh,kQ]))))))))))))))))))))))))))))))))))))))))))))))))
def K:Frag:=K0 P++ [(546,v8)]
theorem ip(P:Params):ks=(K P).map (·.1):=by kernel_rfl
def Hk:Hook:=kHook K ks ip
def Xt(s:Shared):Bool:=xlAt q [] s&&recOk [] s
noncomputable def NN:Nat:=1000000
theorem size_eq(w:World):((boot_heap w.2).isNs mainGlobals&&(#[]:Array GenState).size==0,(boot_heap w.2).objs.size,(boot_heap w.2).nsMap mainGlobals "__annotations__")=(true,11,ann):=by kernel_rfl
theorem QD:opening p=plainProg p.main.scope.names:=by kernel_rfl
theorem QE(s:Shared):fenceModules? p s=some s:=by kernel_rfl
theorem qwa(w:World)(os:OsState):(staticsOk (importedModules p.main.body) (boot_heap w.2) (H1 w.2)&&namesBound p (H1 w.2)&&gensDone ⟨H1 w.2,#[],{},1697,os⟩&&laidKept (boot_heap w.2) (H1 w.2))=true:=by kernel_rfl
theorem Qf(w:World)(os:OsState):PyProof.Rows.seen (List.map (λx=>x.name) (recsOf q)) (ownsOf q) [] ⟨H1 w.2,#[],{},1697,os⟩=expectedOf q:=by rw[PySem.W.Fast.te5160383126252970620];kernel_rfl
theorem Qg(w:World)(os:OsState):(H1 w.2).bltView=bltViewBooted:=by kernel_rfl
theorem Qh(w:World)(os:OsState):(H1 w.2).keysOk (looseW q loose) (List.map (λx=>x.name) (recsOf q)) (List.map (λx=>x.fst) (litsOf q)) (List.map (λx=>x.name) (clssOf q (looseW q loose)))=true:=by rw[PySem.W.Fast.te10880121769531294198];kernel_rfl
theorem Qi(w:World)(os:OsState):(H1 w.2).accountedOkI (importedModules p.main.body)=true:=by rw[PySem.W.Fast.te14722251495701143533];kernel_rfl
theorem Qj(w:World)(os:OsState):((H1 w.2).isNs mainGlobals&&(H1 w.2).isNs builtinsNs)=true:=by kernel_rfl
theorem Qk(w:World)(os:OsState):tablesOk q (H1 w.2)=true:=by rw[PySem.W.Fast.te10994771534591457954];kernel_rfl
theorem Ql(w:World)(os:OsState):Xt ⟨H1 w.2,#[],{},1697,os⟩=true:=by kernel_rfl
theorem Qm(w:World)(os:OsState):tabsOk q ⟨H1 w.2,#[],{},1697,os⟩=true:=by rw[PySem.W.Fast.te479339242167458305];kernel_rfl
theorem Qn(w:World)(os:OsState):pinSeenD q (drecsOf q) ⟨H1 w.2,#[],{},1697,os⟩=pinGoodD (drecsOf q):=by kernel_rfl
theorem Qo(w:World)(os:OsState):plainSeenE q (looseW q loose) ⟨H1 w.2,#[],{},1697,os⟩=plainGoodE q (looseW q loose):=by rw[PySem.W.Fast.te2386780881361962483];kernel_rfl
theorem Qp(w:World)(os:OsState):plainSeenD q loose ⟨H1 w.2,#[],{},1697,os⟩=plainGoodD q loose:=by rw[PySem.W.Fast.te11698064438423848299];kernel_rfl
theorem Qq(w:World)(os:OsState):wideSeen q ⟨H1 w.2,#[],{},1697,os⟩=wideGood q:=by rw[PySem.W.Fast.te7317090234206586261];kernel_rfl
theorem Qs(w:World)(os:OsState):clsSeenW q loose ⟨H1 w.2,#[],{},1697,os⟩=clsGoodW q loose:=by rw[PySem.W.Fast.te7369524293546568484];kernel_rfl
theorem qv9(w:World)(os):openSeen q loose (importedModules p.main.body) Xt true ⟨H1 w.2,#[],{},1697,os⟩=openGood q loose:=
 Xi (Qf w os) (Qg w os) (Qh w os) (Qi w os) (Qj w os) (Qk w os) (Ql w os) (Qm w os) (Qn w os) (Qo w os) (Qp w os) (Qq w os) (Qs w os)
theorem qv8(w:World)(os:OsState):Hk.obs ⟨H1 w.2,#[],{},1697,os⟩=Hk.val w:=by kernel_rfl
theorem left:LeftO p q loose Xt Hk.obs Hk.val NN:=
 LeftO.of_pieces (H₀:=boot_heap) (H₁:=H1) (gs₀:=#[]) (gs₁:=#[]) (d₀:=boot_drawn) (d₁:={}) (k₀:=boot_toks) (k₁:=1697) (m₀:=11) (ann:=ann) (M:=12+(1+(391+(315+(362+(214+(214+(388+(170+(11783+(118+(395+(10+(480+(238+(718+(44+(1162+(109+(534+(344+2))))))))))))))))))))) (boot_open QD ⋯ QE) size_eq run_eq ⋯
  λw=>funext λos=>Prod.ext (qwa w os) (Prod.ext (qv9 w os) (qv8 w os))
end
end H44
namespace R
open PySem PySem.Spec PyProof.Rows L2
section
variable {Γ:G}{σ:bw}{M:RM}{Q:ak}{D:RD}{a b c d e t l h o k r it:T}{i n:Nat}{QB:Bool->RM->Prop}{QA:LR->RM->Prop}{QI:LR->(RM->Prop)->(RM->RM)->RM->Prop}{QP:Option Int->RM->Prop}
def Ax(o:Option (Option RV))(Q:RV->Prop):Prop:=match o with|some (some v)=>Q v|_=>False
theorem ql6{v:RV}{Q:RV->Prop}:Ax (some (some v)) Q=Q v:=rfl
theorem t_v:(tr Γ (.v i)).E σ M Q=Ax σ[i]? (λv=>Q v M):=by
 show rA i σ M Q=_;unfold rA Ax;rfl
theorem t_i{n:Int}:(tr Γ (.i n)).E σ M Q=Q (.int n) M:=rfl
theorem t_s{x:Str}:(tr Γ (.s x)).E σ M Q=Q (.str x) M:=rfl
theorem t_b{x:Bool}:(tr Γ (.b x)).E σ M Q=Q (.bl x) M:=rfl
theorem t_n:(tr Γ .n).E σ M Q=Q .aw M:=rfl
theorem js{x:Str}{i:Int}(h:Γ.S.gi.lookup x=some i):(tr Γ (.g x)).E σ M Q=Q (.int i) M:=by
 show(match Γ.S.gi.lookup x with|some i=>rC (.int i)|none=>hO) σ M Q=_
 rw[h];rfl
theorem qB4{x:String}:(tr Γ (.ty x)).E σ M Q=Q (.ty x) M:=rfl
theorem qCe{o:Operator}:(tr Γ (.op o a b)).E σ M Q=(tr Γ a).E σ M λx M1=>(tr Γ b).E σ M1 λy M2=>iX o x y M2 Q:=rfl
theorem qCy{o:CmpOp}:(tr Γ (.cm o a b)).E σ M Q=(tr Γ a).E σ M λx M1=>(tr Γ b).E σ M1 λy M2=>eO o x y M2 Q:=rfl
def kB(Q:Bool->RM->Prop):ak:=λv M=>match v with| .bl k=>Q k M|_=>False
theorem gd{k:Bool}:kB QB (.bl k) M=QB k M:=rfl
noncomputable def Av (p:CmpOp)(Γ:G)(c:T)(σ:bw)(y:RV)(Q:ak):ak:=λz f=>match z with
 | .bl k=>if k=true then(tr Γ c).E σ f λw g=>eO p y w g Q else Q (.bl false) f
 |_=>False
theorem qH{k:Bool}{A B:Prop}:((k=true->A)/\(k=false->B))=if k=true then A else B:=by cases k<;>simp
theorem qCz{o p:CmpOp}:(tr Γ (.ch o p a b c)).E σ M Q=(tr Γ a).E σ M λx M1=>(tr Γ b).E σ M1 λy M2=>eO o x y M2 (Av p Γ c σ y Q):=by
 show sV _ _ _ _ _ σ M Q=_;unfold sV Av;simp only[qH]<;>rfl
theorem qsp{p:CmpOp}{y:RV}{k:Bool}:Av p Γ c σ y Q (.bl k) M=if k=true then(tr Γ c).E σ M λw f=>eO p y w f Q else Q (.bl false) M:=rfl
theorem T_v:(tr Γ (.v i)).T σ M QB=(tr Γ (.v i)).E σ M (kB QB):=rfl
theorem qED{o:CmpOp}:(tr Γ (.cm o a b)).T σ M QB=(tr Γ (.cm o a b)).E σ M (kB QB):=rfl
theorem qEE{o p:CmpOp}:(tr Γ (.ch o p a b c)).T σ M QB=(tr Γ (.ch o p a b c)).E σ M (kB QB):=rfl
theorem qEF:(tr Γ (.ca f a)).T σ M QB=(tr Γ (.ca f a)).E σ M (kB QB):=rfl
theorem qEA:(tr Γ (.me f o a)).T σ M QB=(tr Γ (.me f o a)).E σ M (kB QB):=rfl
theorem qEG:(tr Γ (.bf f a)).T σ M QB=(tr Γ (.bf f a)).E σ M (kB QB):=rfl
theorem qEC:(tr Γ (.dn neg k d)).T σ M QB=(tr Γ (.dn neg k d)).E σ M (kB QB):=rfl
theorem qEB{x:Str}:(tr Γ (.ic neg a x)).T σ M QB=(tr Γ (.ic neg a x)).E σ M (kB QB):=rfl
theorem qEx{x:Str}:(tr Γ (.tn x a)).T σ M QB=(tr Γ (.tn x a)).E σ M (kB QB):=rfl
theorem qEH:(tr Γ (.an a b)).T σ M QB=(tr Γ a).T σ M λc M1=>if c=true then(tr Γ b).T σ M1 QB else QB false M1:=by
 show zh _ _ σ M QB=_;unfold zh;simp only[qH]
theorem qEy:(tr Γ (.or a b)).T σ M QB=(tr Γ a).T σ M λc M1=>if c=true then QB true M1 else(tr Γ b).T σ M1 QB:=by
 show zC _ _ σ M QB=_;unfold zC;simp only[qH]
theorem qEz:(tr Γ (.no a)).T σ M QB=(tr Γ a).T σ M λc M1=>QB (!c) M1:=rfl
def wV(N:RM->Prop)(Q:ak):ak:=λx M=>match x with| .bl c=>if c=true then N M else Q (.bl false) M|_=>False
def wW(N:RM->Prop)(Q:ak):ak:=λx M=>match x with| .bl c=>if c=true then Q (.bl true) M else N M|_=>False
theorem kf{N:RM->Prop}{c:Bool}:wV N Q (.bl c) M=if c=true then N M else Q (.bl false) M:=rfl
theorem B3{N:RM->Prop}{c:Bool}:wW N Q (.bl c) M=if c=true then Q (.bl true) M else N M:=rfl
theorem qCE:(tr Γ (.an a b)).E σ M Q=(tr Γ a).E σ M (wV (λM1=>(tr Γ b).E σ M1 Q) Q):=by
 show yR _ _ σ M Q=_;unfold yR wV;simp only[qH]<;>rfl
theorem qCd:(tr Γ (.or a b)).E σ M Q=(tr Γ a).E σ M (wW (λM1=>(tr Γ b).E σ M1 Q) Q):=by
 show zb _ _ σ M Q=_;unfold zb wW;simp only[qH]<;>rfl
def Ek(Q:ak):ak:=λx M=>match x with| .bl c=>Q (.bl (!c)) M|_=>False
theorem qsn{c:Bool}:Ek Q (.bl c) M=Q (.bl (!c)) M:=rfl
theorem qCf:(tr Γ (.no a)).E σ M Q=(tr Γ a).E σ M (Ek Q):=rfl
theorem qCm:(tr Γ (.ie t a b)).E σ M Q=(tr Γ t).T σ M λc M1=>if c=true then(tr Γ a).E σ M1 Q else(tr Γ b).E σ M1 Q:=by
 show zB _ _ _ σ M Q=_;unfold zB;simp only[qH]
theorem qB6:(tr Γ (.tu a)).E σ M Q=(tr Γ a).A σ M λrs M1=>rs.length<=sizeLine/\Q (.tup rs) M1:=rfl
theorem qCj:(tr Γ (.ll a)).E σ M Q=(tr Γ a).A σ M λrs M1=>rs.length<=sizeLine/\Q (.ls rs) M1:=rfl
theorem qCi:(tr Γ (.lm a)).E σ M Q=(tr Γ a).A σ M λrs M1=>rs.length<=sizeLine/\∀p,M1 p=none->Q (.ref p) (put M1 p (.lst rs)):=rfl
theorem qCp:(tr Γ .e0).A σ M QA=QA [] M:=rfl
theorem qCo:(tr Γ (.ec a r)).A σ M QA=(tr Γ a).E σ M λx M1=>(tr Γ r).A σ M1 λxs M2=>QA (x::xs) M2:=rfl
theorem qCl:(tr Γ (.ix a b)).E σ M Q=(tr Γ a).E σ M λx M1=>(tr Γ b).E σ M1 λy M2=>d7 x y M2 Q:=rfl
theorem qB9:(tr Γ (.sl a l h)).E σ M Q=(tr Γ a).E σ M λx M1=>(tr Γ l).P σ M1 λlo M2=>(tr Γ h).P σ M2 λu f=>tP x lo u f Q:=rfl
theorem qCc:(tr Γ .p0).P σ M QP=QP none M:=rfl
def kP(Q:Option Int->RM->Prop):ak:=λx M=>match x with| .int i=>Q (some i) M|_=>False
theorem qsm{i:Int}:kP QP (.int i) M=QP (some i) M:=rfl
theorem qCb:(tr Γ (.p1 a)).P σ M QP=(tr Γ a).E σ M (kP QP):=rfl
theorem qCn{c:Nat}{f:Str}:(tr Γ (.fl c f a)).E σ M Q=(tr Γ a).E σ M (sj (Γ.C c) f Q):=rfl
theorem qCA:(tr Γ (.ca f a)).E σ M Q=(tr Γ a).A σ M λrs M1=>Γ.fn f rs M1 Q:=rfl
theorem bI{f:Nat}{d:FD}(h:Γ.S.fd[f]? =some d):(tr Γ (.me f o a)).E σ M Q=(tr Γ o).E σ M (qq (Γ.C d.cls) d.name (Γ.fn f) (tr Γ a).A σ Q):=by
 show(match Γ.S.fd[f]? with|some d=>rN (Γ.C d.cls) d.name (Γ.fn f) (tr Γ o).E (tr Γ a).A|none=>hO) σ M Q=_
 rw[h];rfl
theorem t9{f:Nat}{d:FD}(h:Γ.S.fd[f]? =some d):(tr Γ (.mk f a)).E σ M Q=(tr Γ a).A σ M λrs M1=>∀x,M1 x=none->Γ.mW f (.ref x::rs) (put M1 x (.ins (Γ.C d.cls) [])) λv M2=>v= .aw/\Q (.ref x) M2:=by
 show(match Γ.S.fd[f]? with|some d=>tG (Γ.C d.cls) (Γ.mW f) (tr Γ a).A|none=>hO) σ M Q=_
 rw[h];rfl
theorem qCC:(tr Γ (.bf f a)).E σ M Q=(tr Γ a).A σ M λrs M1=>eY f rs M1 Q:=rfl
theorem qCB:(tr Γ (.bt f a)).E σ M Q=(tr Γ a).A σ M λrs M1=>n9 f rs M1 Q:=rfl
theorem qCt:(tr Γ (.dg d k)).E σ M Q=(tr Γ d).E σ M λx M1=>(tr Γ k).E σ M1 λy M2=>vP Q x y M2:=rfl
theorem qCr:(tr Γ (.dn neg k d)).E σ M Q=(tr Γ k).E σ M λy M1=>(tr Γ d).E σ M1 λx M2=>zG neg Q x y M2:=rfl
theorem qCv:(tr Γ (.d1 d k)).E σ M Q=(tr Γ d).E σ M λx M1=>qp M1 x/\(tr Γ k).E σ M1 λy M2=>qV Q x y .aw M2:=rfl
theorem qCs:(tr Γ .dk).E σ M Q= ∀p,M p=none->Q (.ref p) (put M p (.dk [])):=rfl
theorem qCq:(tr Γ .dt).E σ M Q= ∀p,M p=none->Q (.ref p) (put M p (.dt [])):=rfl
theorem q9{x:Str}(h:Γ.S.gt.lookup x=some f):(tr Γ (.ic neg a x)).E σ M Q=(tr Γ a).E σ M λx M1=>bK 15 x=true/\Q (.bl (if neg then !inR x (f.map RV.str)else inR x (f.map RV.str))) M1:=by
 show(match Γ.S.gt.lookup x with|some f=>tQ neg f (tr Γ a).E|none=>hO) σ M Q=_
 rw[h];rfl
theorem Mm:(tr Γ (.se a b)).S D σ M=(tr Γ a).S { D with nx:=(tr Γ b).S D } σ M:=rfl
theorem qzk:(tr Γ .en).S D σ M=D.nx σ M:=rfl
theorem Kr:(tr Γ (.set i a)).S D σ M=(tr Γ a).E σ M λx M1=>D.nx (σ.set i (some x)) M1:=rfl
theorem qC2:(tr Γ (.re a)).S D σ M=(tr Γ a).E σ M D.rt:=rfl
theorem qC5:(tr Γ (.aG t a b)).S D σ M=(tr Γ t).T σ M λc M1=>if c=true then(tr Γ a).S D σ M1 else(tr Γ b).S D σ M1:=by
 show ze _ _ _ D σ M=_;unfold ze;simp only[qH]
theorem qC7:(tr Γ (.ex a)).S D σ M=(tr Γ a).E σ M λ_ M1=>D.nx σ M1:=rfl
theorem qC0{c:Nat}{f:Str}:(tr Γ (.sf c f o a)).S D σ M=(tr Γ a).E σ M λy M1=>(tr Γ o).E σ M1 (sv (Γ.C c) f y (D.nx σ)):=rfl
theorem qC8:(tr Γ (.dp d k a)).S D σ M=(tr Γ a).E σ M λv M1=>(tr Γ d).E σ M1 λx M2=>(tr Γ k).E σ M2 λy f=>uz f x y v (D.nx σ):=rfl
def Em(is:List Nat)(σ:bw)(N:bw->RM->Prop):ak:=λx M=>match x with| .tup xs=>xs.length=is.length/\N (u5 σ is xs) M|_=>False
theorem qoV{is:List Nat}:Em is σ N (.tup xs) M=(xs.length=is.length/\N (u5 σ is xs) M):=rfl
theorem qCY{is:List Nat}:(tr Γ (.un is a)).S D σ M=(tr Γ a).E σ M (Em is σ D.nx):=rfl
theorem vg{i j:Int}:iX .Add (.int i) (.int j) M Q=Q (.int (i+j)) M:=rfl
theorem qvX{i j:Int}:iX .Sub (.int i) (.int j) M Q=Q (.int (i-j)) M:=rfl
theorem qEh{i j:Int}:eO .Lt (.int i) (.int j) M Q=Q (.bl (decide (i<j))) M:=rfl
theorem qEi{i j:Int}:eO .LtE (.int i) (.int j) M Q=Q (.bl (decide (i<=j))) M:=rfl
theorem qEk{i j:Int}:eO .Gt (.int i) (.int j) M Q=Q (.bl (decide (j<i))) M:=rfl
theorem qEl{i j:Int}:eO .GtE (.int i) (.int j) M Q=Q (.bl (decide (j<=i))) M:=rfl
theorem qEj{x:RV}:eO .Is x .aw M Q=Q (.bl (ka x)) M:=rfl
theorem qpE{x:RV}:eO .IsNot x .aw M Q=Q (.bl (!ka x)) M:=rfl
theorem qwU{i j:Int}:eO .Eq (.int i) (.int j) M Q=Q (.bl (i==j)) M:=by
 show(_/\_/\Q (.bl (cK (.int i) (.int j))) M)=_;exact propext ⟨λz=>z.2.2,λz=>⟨rfl,rfl,z⟩⟩
theorem qwT{i j:Str}:eO .Eq (.str i) (.str j) M Q=Q (.bl (i==j)) M:=by
 show(_/\_/\Q (.bl (cK (.str i) (.str j))) M)=_;exact propext ⟨λz=>z.2.2,λz=>⟨rfl,rfl,z⟩⟩
theorem qwQ{i j:Int}:eO .NotEq (.int i) (.int j) M Q=Q (.bl (!(i==j))) M:=by
 show(_/\_/\Q (.bl (!cK (.int i) (.int j))) M)=_;exact propext ⟨λz=>z.2.2,λz=>⟨rfl,rfl,z⟩⟩
theorem qwP{i j:Str}:eO .NotEq (.str i) (.str j) M Q=Q (.bl (!(i==j))) M:=by
 show(_/\_/\Q (.bl (!cK (.str i) (.str j))) M)=_;exact propext ⟨λz=>z.2.2,λz=>⟨rfl,rfl,z⟩⟩
end
section
variable {Γ:G}{σ:bw}{M:RM}{Q:ak}{D:RD}{a b c d e t l h o k r it:T}{i n:Nat}{QB:Bool->RM->Prop}{QA:LR->RM->Prop}{QI:LR->(RM->Prop)->(RM->RM)->RM->Prop}{x:Addr}{f:Str}{C:Addr}{N:RM->Prop}{y v z:RV}
def wO(o:Option α)(Q:α->Prop):Prop:=match o with|some v=>Q v|none=>False
theorem Ub{v:α}{Q:α->Prop}:wO (some v) Q=Q v:=rfl
def fO(C:Addr)(f:Str)(Q:ak)(M:RM)(o:Option RO):Prop:=match o with
 |some (.ins C' fs)=>C'=C/\wO (fs.lookup f) λv=>Q v M
 |_=>False
theorem qo5:sj C f Q (.ref x) M=fO C f Q M (M x):=by
 show(match M x with|some (.ins j g)=>j=C/\(match g.lookup f with|some v=>Q v M|none=>False)|_=>False)=_
 unfold fO;cases M x with
 |none=>rfl
 |some u=>
  cases u<;>first|rfl|skip
  rename_i j g;show(j=C/\(match g.lookup f with|some v=>Q v M|none=>False))=(j=C/\wO (g.lookup f) λv=>Q v M)
  cases g.lookup f<;>rfl
theorem Zf:fO C f Q M (some (.ins C fs))=wO (fs.lookup f) λv=>Q v M:=by
 show(C=C/\_)=_;rw[eq_self_iff_true,true_and]
def sO(C:Addr)(f:Str)(y:RV)(N:RM->Prop)(x:Addr)(M:RM)(o:Option RO):Prop:=match o with
 |some (.ins C' fs)=>C'=C/\fs.length<1000/\N (put M x (.ins C (kl f y fs)))
 |_=>False
theorem qoY:sv C f y N (.ref x) M=sO C f y N x M (M x):=rfl
theorem XQ:sO C f y N x M (some (.ins C fs))=(fs.length<1000/\N (put M x (.ins C (kl f y fs)))):=by
 show(C=C/\_)=_;rw[eq_self_iff_true,true_and]
def mO(C:Addr)(m:Str)(sp:bU)(t:bJ)(σ:bw)(Q:ak)(x:Addr)(M:RM)(o:Option RO):Prop:=match o with
 |some (.ins C' fs)=>C'=C/\fs.lookup m=none/\t σ M λrs M2=>sp (.ref x::rs) M2 Q
 |_=>False
theorem qo1{sp:bU}{t:bJ}:qq C m sp t σ Q (.ref x) M=mO C m sp t σ Q x M (M x):=rfl
theorem Yp{sp:bU}{t:bJ}:mO C m sp t σ Q x M (some (.ins C fs))=(fs.lookup m=none/\t σ M λrs M2=>sp (.ref x::rs) M2 Q):=by
 show(C=C/\_)=_;rw[eq_self_iff_true,true_and]
def gO(Q:ak)(y:RV)(M:RM)(o:Option RO):Prop:=match o.bind (rJ . y)with
 |some (some v)=>Q v M
 |_=>False
theorem qk8:vP Q (.ref x) y M=gO Q y M (M x):=rfl
def iO(neg:Bool)(Q:ak)(y:RV)(M:RM)(o:Option RO):Prop:=match o.bind (rJ . y)with
 |some r=>Q (.bl (if neg then !r.isSome else r.isSome)) M
 |none=>False
theorem qnF:zG neg Q (.ref x) y M=iO neg Q y M (M x):=rfl
def dO(Q:ak)(y z:RV)(M:RM)(o:Option RO):Prop:=match o.bind (rJ . y)with
 |some r=>Q (r.getD z) M
 |none=>False
theorem qiv:qV Q (.ref x) y z M=dO Q y z M (M x):=rfl
def qO(o:Option RO):Prop:=match o with
 |some (.dk _)=>True
 |some (.dt _)=>True
 |some (.fk _)=>True
 |some (.ft _)=>True
 |_=>False
theorem qpl:qp M (.ref x)=qO (M x):=rfl
theorem qvG:qO (some (.dk kvs))=True:=rfl
theorem qvF:qO (some (.dt kvs))=True:=rfl
theorem qws:gO Q (.int m) M (some (.dk kvs))=wO (lk kvs (.inl m)) λv=>Q v M:=by
 show(match some (lk kvs (.inl m))with|some (some v)=>Q v M|_=>False)=_
 cases lk kvs (.inl m)<;>rfl
theorem qwm:iO neg Q (.int m) M (some (.dk kvs))=Q (.bl (if neg then !(lk kvs (.inl m)).isSome else(lk kvs (.inl m)).isSome)) M:=rfl
theorem qwH:dO Q (.int m) z M (some (.dk kvs))=Q ((lk kvs (.inl m)).getD z) M:=rfl
theorem CW{s:TK}(h:fe y=some s):dO Q y z M (some (.dt kvs))=Q ((lk kvs s).getD z) M:=by
 show(match(fe y).map (lk kvs)with|some r=>Q (r.getD z) M|none=>False)=_
 rw[h];rfl
def pO(y v:RV)(N:RM->Prop)(x:Addr)(M:RM)(o:Option RO):Prop:=match o with
 |some (.dk kvs)=>match gh y with
  |some k=>kvs.length<sizeLine/\N (put M x (.dk (pt kvs k v)))
  |none=>False
 |some (.dt kvs)=>match fe y with
  |some k=>kvs.length<sizeLine/\N (put M x (.dt (pt kvs k v)))
  |none=>False
 |_=>False
noncomputable def wR (y:RV)(N:RM->Prop)(x:Addr)(M:RM):Option RO->Prop
 |some (.dk kvs)=>match gh y with
  |some k=>(lk kvs k).isSome=true/\N (put M x (.dk (dr kvs k)))
  |none=>False
 |some (.dt kvs)=>match fe y with
  |some k=>(lk kvs k).isSome=true/\N (put M x (.dt (dr kvs k)))
  |none=>False
 |_=>False
theorem qpy:r8 M (.ref x) y N=wR y N x M (M x):=rfl
theorem qsK:wR (.int m) N x M (some (.dk kvs))=((lk kvs (.inl m)).isSome=true/\N (put M x (.dk (dr kvs (.inl m))))):=rfl
theorem Ct{s:TK}(h:fe y=some s):wR y N x M (some (.dt kvs))=((lk kvs s).isSome=true/\N (put M x (.dt (dr kvs s)))):=by
 unfold wR;simp only[h]
theorem qpt:uz M (.ref x) y v N=pO y v N x M (M x):=rfl
theorem qvR:pO (.int m) v N x M (some (.dk kvs))=(kvs.length<sizeLine/\N (put M x (.dk (pt kvs (.inl m) v)))):=rfl
theorem vB{s:TK}(h:fe y=some s):pO y v N x M (some (.dt kvs))=(kvs.length<sizeLine/\N (put M x (.dt (pt kvs s v)))):=by
 show(match fe y with|some k=>kvs.length<sizeLine/\N (put M x (.dt (pt kvs k v)))|none=>False)=_
 rw[h]
theorem qCu:(tr Γ (.d2 d k c)).E σ M Q=(tr Γ d).E σ M λx M1=>qp M1 x/\(tr Γ k).E σ M1 λy M2=>(tr Γ c).E σ M2 λz g=>qV Q x y z g:=rfl
def aO(t:bJ)(σ:bw)(Q:ak)(x:Addr)(M:RM)(o:Option RO):Prop:=match o with
 |some (.lst _)=>t σ M λrs M2=>∃g y,rs= [y]/\M2 x=some (.lst g)/\g.length<sizeLine/\Q .aw (put M2 x (.lst (g++ [y])))
 |_=>False
def Ei(t:bJ)(σ:bw)(Q:ak):ak:=λv M=>match v with
 | .ref x=>aO t σ Q x M (M x)
 |_=>False
theorem qCD:(tr Γ (.ap o a)).E σ M Q=(tr Γ o).E σ M (Ei (tr Γ a).A σ Q):=by
 show zf _ _ σ M Q=_;unfold zf;congr 1;funext v M1;cases v<;>try rfl
 rename_i p;show((∃g,M1 p=some (.lst g))/\_)=aO _ _ _ p M1 (M1 p);cases e:M1 p with
 |none=>exact propext ⟨λz=>(by obtain⟨⟨_,z⟩,_⟩:=z;cases z),λz=>z.elim⟩
 |some u=>cases u<;>first|exact propext ⟨λz=>(by obtain⟨⟨_,z⟩,_⟩:=z;cases z),λz=>z.elim⟩|exact propext ⟨λz=>z.2,λz=>⟨⟨_,rfl⟩,z⟩⟩
theorem qo6{t:bJ}:Ei t σ Q (.ref x) M=aO t σ Q x M (M x):=rfl
theorem qtr{t:bJ}:aO t σ Q x M (some (.lst xs))=t σ M λrs M2=>∃g y,rs= [y]/\M2 x=some (.lst g)/\g.length<sizeLine/\Q .aw (put M2 x (.lst (g++ [y]))):=rfl
theorem bE:d7 (.tup xs) (.int m) M Q=wO (bT xs m) λv=>Q v M:=by
 show(match bT xs m with|some v=>Q v M|none=>False)=_
 cases bT xs m<;>rfl
theorem Kq:d7 (.ls xs) (.int m) M Q=wO (bT xs m) λv=>Q v M:=by
 show(match bT xs m with|some v=>Q v M|none=>False)=_
 cases bT xs m<;>rfl
def xO(m:Int)(Q:ak)(M:RM)(o:Option RO):Prop:=match o with
 |some (.lst xs)=>wO (bT xs m) λv=>Q v M
 |_=>False
theorem qqd:d7 (.ref x) (.int m) M Q=xO m Q M (M x):=by
 show(match M x with|some (.lst g)=>(match bT g m with|some v=>Q v M|none=>False)|_=>False)=_
 unfold xO;cases M x with
 |none=>rfl
 |some u=>
  cases u<;>first|rfl|skip
  rename_i g;show(match bT g m with|some v=>Q v M|none=>False)=wO (bT g m) λv=>Q v M
  cases bT g m<;>rfl
theorem qqe:xO m Q M (some (.lst xs))=wO (bT xs m) λv=>Q v M:=rfl
theorem qsX{lo hi:Option Int}:tP (.tup xs) lo hi M Q=Q (.tup (gj xs lo hi)) M:=rfl
theorem qwK{lo hi:Option Int}:tP (.ls xs) lo hi M Q=Q (.ls (gj xs lo hi)) M:=rfl
theorem qCg:(tr Γ (.lv md a)).E σ M Q=(tr Γ a).E σ M (uG md Q):=rfl
def vO(md:Bool)(Q:ak)(M:RM)(o:Option RO):Prop:=wO (o.bind vJ) λxs=>nE md xs M Q
theorem qo2:uG md Q (.ref x) M=vO md Q M (M x):=by
 show(match(M x).bind vJ with|some g=>nE md g M Q|none=>False)=_
 unfold vO;cases(M x).bind vJ<;>rfl
theorem quw:vO md Q M (some (.dt kvs))=nE md (kvs.map (·.2)) M Q:=rfl
theorem u6:nE false xs M Q=Q (.ls xs) M:=rfl
def El(i j:Nat)(σ:bw)(N:bw->RM->Prop):LR->RM->Prop:=λrs M1=>match rs with
 | [v,w]=>N ((σ.set i (some v)).set j (some w)) M1
 |_=>False
theorem qC4:(tr Γ (.pr i j a)).S D σ M=(tr Γ a).A σ M (El i j σ D.nx):=rfl
theorem qo0{j:Nat}{N:bw->RM->Prop}:El i j σ N [v,y] M=N ((σ.set i (some v)).set j (some y)) M:=rfl
theorem RT{c:Nat}:(tr Γ (.af c f o a)).S D σ M=(tr Γ o).E σ M (uE (Γ.C c) f (tr Γ a).E σ (D.nx σ)):=rfl
theorem qCZ:(tr Γ (.sp l k a)).S D σ M=(tr Γ a).E σ M λv M1=>(tr Γ l).E σ M1 λo M2=>(tr Γ k).E σ M2 λi M3=>qX o i v M3 λM4=>D.nx σ M4:=rfl
theorem qC6{tup:Bool}{is:List Nat}:(tr Γ (.fo tup is it b)).S D σ M=(tr Γ it).I σ M λxs ok un M1=>jQ (match tup,is with|true,is=>wj is|false,[i]=>jU i|_,_=>λ_ _ _ _=>False) (tr Γ b).S D ok un xs σ M1:=rfl
noncomputable def kS (Q:LR->(RM->Prop)->(RM->RM)->RM->Prop):ak:=λv M1=>match v with
 | .tup xs=>Q xs eE id M1
 | .ls xs=>Q xs eE id M1
 | .ref a=>match M1 a with
  |some (.lst xs)=>Q xs (λM=>M a=some (.lst xs)) id M1
  |_=>False
 |_=>False
theorem qDU:(tr Γ (.is a)).I σ M QI=(tr Γ a).E σ M (kS QI):=rfl
theorem KY:kS QI (.ls xs) M=QI xs eE id M:=rfl
theorem qsl:kS QI (.tup xs) M=QI xs eE id M:=rfl
theorem qDS:(tr Γ (.r1 a)).I σ M QI=(tr Γ a).E σ M λv M1=>vh QI [v] M1:=rfl
theorem qvy:vh QI [.int m] M=(-(2 ^ 62)<=m/\m<2 ^ 62/\QI (nums m.toNat) eE id M):=rfl
theorem qDW:(tr Γ (.ik a)).I σ M QI=(tr Γ a).E σ M (kH true QI):=rfl
theorem qDT:(tr Γ (.iv a)).I σ M QI=(tr Γ a).E σ M (kH false QI):=rfl
theorem qDV:(tr Γ (.im a)).I σ M QI=(tr Γ a).E σ M (tS QI):=rfl
theorem qCx{md tup:Bool}{nm:az}:(tr Γ (.cp md tup nm cap it t a)).E σ M Q=(tr Γ it).I σ M λxs ok un M1=>xs.length<sizeLine/\m4 (gk tup nm.length) md ok un (tr Γ t).T (tr Γ a).E ((cap.map Prod.fst).map λi=>(σ[i]?).join) xs [] M1 Q:=rfl
theorem qC1{g tup:Bool}{nm:az}:(tr Γ (.sc i g tup nm cap it t a)).S D σ M=(tr Γ (.cp g tup nm cap it t a)).E σ M λx M1=>D.nx (σ.set i (some x)) M1:=rfl
theorem jN{un:RM->RM}{tt:dP}{te:aq}{base:List (Option RV)}{Q:ak}(p:RV->Bool)(g:RV->RV)(av:ok M):∀(xs acc:LR),
 (∀x∈xs,∃bs,bd x=some bs/\(∀K:Bool->RM->Prop,K (p x) M->tt (bs.map some++base) M K)/\(p x=true->∀K:ak,K (g x) M->te (bs.map some++base) M K))->
 nE md (acc++(xs.filter p).map g) (un M) Q->m4 bd md ok un tt te base xs acc M Q
 | [],acc,_,h=>⟨av,by simpa using h⟩
 |x::xs,acc,hx,h=>by
  obtain⟨bs,h1,h2,h3⟩:=hx x (.head _);have hx':=λy hy=>hx y (nN x hy)
  refine⟨av,?_⟩;rw[h1];refine h2 _ ⟨λhp=>h3 hp _ (jN p g av xs _ hx' ?_),λhp=>jN p g av xs _ hx' ?_⟩
  . rw[List.filter_cons_of_pos hp,bX]at h
    simpa using h
  . rw[List.filter_cons_of_neg (by simp[hp])]at h
    exact h
theorem Jj{g:jA}{tb:dz}{ok:RM->Prop}{un:RM->RM}(I:LR->bw->RM->Prop)(av:∀xs σ M,I xs σ M->ok M)(hend:∀σ M,I [] σ M->D.nx σ (un M))
 (hstep:∀x xs σ M (W:LR->bw->RM->Prop),I (x::xs) σ M->(∀σ' M',I xs σ' M'->W xs σ' M')->g x σ M λσ2 M2=>tb { D with nx:=W xs,ct:=W xs,bk:=λσ M=>ok M/\D.nx σ (un M),rt:=λv M=>ok M/\D.rt v (un M) } σ2 M2):∀xs σ M,I xs σ M->jQ g tb D ok un xs σ M
 | [],σ,M,h=>⟨av _ _ _ h,hend _ _ h⟩
 |x::xs,σ,M,h=>⟨av _ _ _ h,hstep x xs σ M (λxs=>jQ g tb D ok un xs) h λσ' M' h'=>Jj I av hend hstep xs σ' M' h'⟩
theorem qti{i:Int}:eY "isinstance" [.int i,.ty "int"] M Q=Q (.bl true) M:=rfl
theorem qtj{i:Int}:eY "isinstance" [.int i,.ty "bool"] M Q=Q (.bl false) M:=rfl
theorem qpO{b:Bool}:eY "isinstance" [.bl b,.ty "bool"] M Q=Q (.bl true) M:=rfl
theorem qth{x:Str}:eY "isinstance" [.str x,.ty "str"] M Q=Q (.bl true) M:=rfl
theorem qtg:eY "isinstance" [.tup xs,.ty "tuple"] M Q=Q (.bl true) M:=rfl
theorem qpL:eY "len" [.tup xs] M Q=Q (.int xs.length) M:=rfl
theorem qpM{x:Str}:eY "len" [.str x] M Q=(x.length<=sizeLine/\Q (.int x.length) M):=rfl
theorem qpN:eY "len" [.ls xs] M Q=Q (.int xs.length) M:=rfl
theorem qtf{i j:Int}:eY "max" [.int i,.int j] M Q=Q (.int (if j > i then j else i)) M:=rfl
theorem qte{i j:Int}:eY "min" [.int i,.int j] M Q=Q (.int (if j<i then j else i)) M:=rfl
theorem qtd{x:Str}:eY "ord" [.str x] M Q=(x.length=1/\Q (.int (x.cps.getD 0 0:Nat)) M):=rfl
theorem Cp{bs:List Bool}:eY "all" [.ls (bs.map RV.bl)] M Q=Q (.bl (bs.all id)) M:=by
 refine propext ⟨λh=>?_,λh=>⟨bs,rfl,h⟩⟩
 obtain⟨g,e,h⟩:=h;have e:bs.map RV.bl=g.map RV.bl:=by injection e with e1 _;injection e1
 have:bs=g:=List.map_inj_right (λa b z=>by cases z;rfl)|>.mp e
 subst this;exact h
theorem Md{a b:Bool}:(if a=true then Q (.bl b) M else Q (.bl false) M)=Q (.bl (a&&b)) M:=by cases a<;>rfl
theorem qC3:(tr Γ .ra).S D σ M=False:=rfl
theorem qCk:(tr Γ (.jn o a)).E σ M Q=(tr Γ o).E σ M (CA (tr Γ a).A σ Q):=rfl
theorem qjN{t:bJ}{z:Str}:CA t σ Q (.str z) M=t σ M λrs M2=>∃g:az,rs= [.ls (g.map RV.str)]/\(g.map (·.length)).sum+g.length*z.length<=16777216/\Q (.str (Txt.join z g)) M2:=rfl
theorem ZO{bs:List Bool}:eY "any" [.ls (bs.map RV.bl)] M Q=Q (.bl (bs.any id)) M:=by
 refine propext ⟨λh=>?_,λh=>⟨bs,rfl,h⟩⟩
 obtain⟨g,e,h⟩:=h;have e:bs.map RV.bl=g.map RV.bl:=by injection e with e1 _;injection e1
 have:bs=g:=List.map_inj_right (λa b z=>by cases z;rfl)|>.mp e
 subst this;exact h
theorem qDR:(tr Γ (.st a)).I σ M QI=(tr Γ a).E σ M λv M1=>match v with| .str x=>QI (gI x) eE id M1|_=>False:=rfl
theorem qpi:ka .aw=true:=rfl
theorem qpg{x:Str}:ka (.str x)=false:=rfl
theorem qpj{i:Int}:ka (.int i)=false:=rfl
theorem qph:ka (.ref x)=false:=rfl
theorem qpf:ka (.tup xs)=false:=rfl
theorem i0{g:Type}{xs:List g}{k:Nat}{v:g}(h:xs[k]? =some v):bT xs (k:Int)=some v:=by
 have j:k<xs.length:=(mH.mp h).1;have e:fT xs.length (k:Int)=some k:=by
  unfold fT;simp;lia
 unfold bT;rw[e];exact h
theorem Mo{j:Type}{g:j}{r:List j}:bT (g::r) 0=some g:=i0 (k:=0) rfl
theorem Mn{j:Type}{m g:j}{r:List j}:bT (m::g::r) 1=some g:=i0 (k:=1) rfl
theorem QL{j:Type}{m s g:j}{r:List j}:bT (m::s::g::r) 2=some g:=i0 (k:=2) rfl
theorem Mp{j:Type}{m s u g:j}{r:List j}:bT (m::s::u::g::r) 3=some g:=i0 (k:=3) rfl
theorem QK{j:Type}{m s u w g:j}{r:List j}:bT (m::s::u::w::g::r) 4=some g:=i0 (k:=4) rfl
theorem QJ{j:Type}{m s u w A g:j}{r:List j}:bT (m::s::u::w::A::g::r) 5=some g:=i0 (k:=5) rfl
theorem QH{j:Type}{m s u w A E g:j}{r:List j}:bT (m::s::u::w::A::E::g::r) 6=some g:=i0 (k:=6) rfl
theorem QG{j:Type}{m s u w A E F g:j}{r:List j}:bT (m::s::u::w::A::E::F::g::r) 7=some g:=i0 (k:=7) rfl
theorem z_0:(0<=sizeLine)=True:=eq_true ⋯
theorem qEg:((0:Nat):Int)=0:=rfl
theorem z_1:(1<=sizeLine)=True:=eq_true ⋯
theorem qBQ:(1<sizeLine)=True:=eq_true ⋯
theorem qEf:((1:Nat):Int)=1:=rfl
theorem z_2:(2<=sizeLine)=True:=eq_true ⋯
theorem z_3:(3<=sizeLine)=True:=eq_true ⋯
theorem qEe:((3:Nat):Int)=3:=rfl
theorem z_4:(4<=sizeLine)=True:=eq_true ⋯
theorem qEd:((4:Nat):Int)=4:=rfl
theorem z_5:(5<=sizeLine)=True:=eq_true ⋯
theorem qEc:((5:Nat):Int)=5:=rfl
theorem z_6:(6<=sizeLine)=True:=eq_true ⋯
theorem qEb:((6:Nat):Int)=6:=rfl
theorem z_7:(7<=sizeLine)=True:=eq_true ⋯
theorem qEa:((7:Nat):Int)=7:=rfl
theorem z_8:(8<=sizeLine)=True:=eq_true ⋯
theorem qD9:((8:Nat):Int)=8:=rfl
theorem z_9:(9<=sizeLine)=True:=eq_true ⋯
theorem qD8:((9:Nat):Int)=9:=rfl
theorem Zo{k:Nat}:(((k+1:Nat):Int)==0)=false:=by simp;lia
theorem Fg{x:RV}{r:LR}:gj (x::r) (some 1) none=r:=by
 unfold gj;rw[show HT.aJ (x::r).length 0 (some 1)=1 from by show min 1 (r.length+1)=1;lia,HT.jV]
 simp
def tO(g:Option Key)(kvs:bR)(Q:ak)(M:RM):Prop:=match g with
 |some k=>wO (fb kvs k) λv=>Q v M
 |none=>False
theorem qB5{x:Str}:(tr Γ (.tx x a)).E σ M Q=(tr Γ a).E σ M λy M1=>tO (gh y) (Γ.tb x) Q M1:=by
 show za (Γ.tb x) _ σ M Q=_;unfold za;congr 1;funext y M1;unfold tO wO;generalize gh y=q;cases q with
 |none=>rfl
 |some k=>
  dsimp only;cases fb (Γ.tb x) k<;>rfl
theorem qqv{x:Str}:tO (gh (.str x)) kvs Q M=wO (fb kvs (.inr x)) λv=>Q v M:=rfl
theorem qB7{x:Str}:(tr Γ (.tn x a)).E σ M Q=(tr Γ a).E σ M (yg (Γ.tb x) Q):=rfl
theorem qoW{x:Str}:yg kvs Q (.str x) M=Q (.bl (!(fb kvs (.inr x)).isSome)) M:=rfl
noncomputable def Ej (g:List (Addr×bU))(t:bJ)(σ:bw)(Q:ak):ak:=λv M1=>match v with
 | .ref f=>∃sp,(f,sp)∈g/\t σ M1 λrs M2=>sp rs M2 Q
 |_=>False
theorem qCw:(tr Γ (.cv i a)).E σ M Q=(tr Γ (.v i)).E σ M (Ej Γ.iQ (tr Γ a).A σ Q):=rfl
theorem Up{t:bJ}:Ej iQ t σ Q (.ref x) M= ∃sp,(x,sp)∈iQ/\t σ M λrs M2=>sp rs M2 Q:=rfl
theorem qCh:(tr Γ (.lr a b)).E σ M Q=(tr Γ a).E σ M λx M1=>(tr Γ b).E σ M1 λy M2=>uF Q [x,y] M2:=rfl
theorem qo3{i j:Int}:uF Q [.int i,.int j] M=((-1000000<=i/\i<=1000000/\-1000000<=j/\j<=1000000)/\(j-i).toNat<=1000/\Q (.ls (yo i (j-i).toNat)) M):=rfl
theorem qCa{c:Nat}{f:Str}{a:T}:(tr Γ (.sk c f a)).E σ M Q=(tr Γ a).E σ M (Aw (Γ.C c) f Γ.lP Γ.S.lp Γ.S.lq Q):=rfl
theorem qC9:(tr Γ (.dd d k)).S D σ M=(tr Γ d).E σ M λx M1=>(tr Γ k).E σ M1 λy M2=>r8 M2 x y (D.nx σ):=rfl
theorem qr0:iX .Add (.ls xs) (.ls ys) M Q=(xs.length+ys.length<=sizeLine/\Q (.ls (xs++ys)) M):=rfl
theorem qrZ:iX .Add (.tup xs) (.tup ys) M Q=(xs.length+ys.length<=sizeLine/\Q (.tup (xs++ys)) M):=rfl
theorem XJ:eY "sorted" [.ls xs] M Q=rm xs M Q:=rfl
theorem XM{ns:List Int}(h:M x=some (.dk kvs))(j:kvs.map (·.1)=ns.map Sum.inl)(m:ns.length<64)(s:∀g:List Int,g.Perm ns->g.Pairwise (. <= ·)->Q (.ls (g.map RV.int)) M):eY "sorted" [.ref x] M Q:=by
 show vb [.ref x] M Q;unfold vb;simp only[h];exact⟨x,kvs,ns,rfl,h,j,m,s⟩
theorem Uo{g:List TK}(m:g.length<64)(j:qL g=true)(s:Q (.ls ((l9 g).map cV)) M):rm (g.map cV) M Q:=by
 have e:∀g:List TK,rowsOf (g.map cV)=some g:=by
  intro g
  induction g with
  |nil=>rfl
  |cons r rs ih=>
   have kt:∀k:TK,hZ (k.map oR)=some k:=by
    intro k
    induction k with
    |nil=>rfl
    |cons o k ihk=>
     have e1:nu (oR o)=some o:=by cases o with|none=>rfl|some z=>cases z<;>rfl
     show(match nu (oR o),hZ (k.map oR)with|some k,some ks=>some (k::ks)|_,_=>none)=_
     rw[e1,ihk]
   show(match fe (cV r),rowsOf (rs.map cV)with|some k,some ks=>some (k::ks)|_,_=>none)=_
   rw[show fe (cV r)=some r from kt r,ih]
 unfold rm;rw[e];exact⟨m,j,s⟩
theorem qv0{i j:Int}:iX .Mod (.int i) (.int j) M Q=(0<j/\Q (.int (i % j)) M):=rfl
theorem qv1{i j:Int}:iX .FloorDiv (.int i) (.int j) M Q=((0<j/\j<1073741824)/\Q (.int (i / j)) M):=rfl
theorem qvY{i j:Int}:iX .Pow (.int i) (.int j) M Q=((0<=j/\j<=1000000/\i.natAbs<2 ^ 64)/\Q (.int (i ^ j.toNat)) M):=rfl
theorem qvZ{i j:Int}:iX .Mult (.int i) (.int j) M Q=(iM i j/\Q (.int (i*j)) M):=rfl
def lO(k:Int)(v:RV)(N:RM->Prop)(x:Addr)(M:RM)(o:Option RO):Prop:=match o with
 |some (.lst xs)=>wO (fT xs.length k) λj=>N (put M x (.lst (xs.set j v)))
 |_=>False
theorem qnR:qX (.ref x) (.int m) v M N=lO m v N x M (M x):=by
 show(match M x with|some (.lst g)=>(match fT g.length m with|some j=>N (put M x (.lst (g.set j v)))|none=>False)|_=>False)=_
 unfold lO;cases M x with
 |none=>rfl
 |some u=>
  cases u<;>first|rfl|skip
  rename_i g;show(match fT g.length m with|some j=>N (put M x (.lst (g.set j v)))|none=>False)=wO (fT g.length m) λj=>N (put M x (.lst (g.set j v)))
  cases fT g.length m<;>rfl
theorem qsg:lO m v N x M (some (.lst xs))=wO (fT xs.length m) λj=>N (put M x (.lst (xs.set j v))):=rfl
theorem qwh:fT 3 0=some 0:=rfl
theorem qwg:fT 3 1=some 1:=rfl
theorem qwf:fT 3 2=some 2:=rfl
end
end R
namespace K44
open PySem PySem.Spec PyProof.Rows L2 R
section
local macro_rules | `($a ^ $b) => `(T.ec $a $b)
local macro_rules | `($a >=> $b) => `(T.se $a $b)
noncomputable def AO:FD:=⟨0,0,"is_whole",["thing"],["thing"],.re (.an (.bf "isinstance" (.v 0^.ty "int"^.e0)) (.no (.bf "isinstance" (.v 0^.ty "bool"^.e0))))>=>.en⟩
noncomputable def Bj:FD:=⟨0,0,"is_house",["thing"],["thing"],.re (.ca 60 (.v 0^.i 0^.g "GREATEST_HOUSE"^.e0))>=>.en⟩
noncomputable def Bw:FD:=⟨0,0,"is_door",["thing"],["thing"],.re (.ca 60 (.v 0^.i 1^.g "GREATEST_DOOR"^.e0))>=>.en⟩
noncomputable def Bi:FD:=⟨0,0,"is_place",["thing"],["thing"],.re (.ca 60 (.v 0^.i 0^.g "GREATEST_PLACE"^.e0))>=>.en⟩
noncomputable def AH:FD:=⟨0,0,"is_outer_place",["thing"],["thing"],.re (.ca 60 (.v 0^.i 1^.g "GREATEST_PLACE"^.e0))>=>.en⟩
noncomputable def Bh:FD:=⟨0,0,"is_ticks",["thing"],["thing"],.re (.ca 60 (.v 0^.i 0^.g "GREATEST_TICKS"^.e0))>=>.en⟩
noncomputable def Bu:FD:=⟨0,0,"is_kind",["thing"],["thing"],.re (.ic false (.v 0) "KINDS")>=>.en⟩
noncomputable def Bs:FD:=⟨0,0,"is_sign",["sign"],["sign","at"],.set 1 (.bf "ord" (.v 0^.e0))>=>.re (.an (.ch .LtE .LtE (.g "FIRST_SIGN") (.v 1) (.g "LAST_SIGN")) (.cm .NotEq (.v 1) (.g "PERCENT_SIGN")))>=>.en⟩
noncomputable def Br:FD:=⟨0,0,"is_text",["thing"],["thing"],.aG (.or (.no (.bf "isinstance" (.v 0^.ty "str"^.e0))) (.cm .Gt (.bf "len" (.v 0^.e0)) (.g "MOST_SIGNS"))) (.re (.b false)>=>.en) .en>=>.re (.bf "all" (.cp false false ["sign"] [] (.st (.v 0)) (.b true) (.ca 7 (.v 0^.e0))^.e0))>=>.en⟩
noncomputable def yh:FD:=⟨0,0,"is_out",["parts"],["parts","kind","house","door","place","far","word","text"],.aG (.cm .NotEq (.bf "len" (.v 0^.e0)) (.i 7)) (.re (.b false)>=>.en) .en>=>.un [1,2,3,4,5,6,7] (.v 0)>=>.re (.an (.ca 1 (.v 2^.e0)) (.an (.ca 2 (.v 3^.e0)) (.an (.ca 3 (.v 4^.e0)) (.an (.ca 2 (.v 5^.e0)) (.ca 61 (.v 1^.v 6^.v 7^.e0))))))>=>.en⟩
noncomputable def yc:FD:=⟨0,0,"is_come",["parts"],["parts","kind","place","far","number","word","text"],.aG (.cm .NotEq (.bf "len" (.v 0^.e0)) (.i 6)) (.re (.b false)>=>.en) .en>=>.un [1,2,3,4,5,6] (.v 0)>=>.re (.an (.ca 4 (.v 2^.e0)) (.an (.ca 2 (.v 3^.e0)) (.an (.ca 2 (.v 4^.e0)) (.ca 61 (.v 1^.v 5^.v 6^.e0)))))>=>.en⟩
noncomputable def yb:FD:=⟨0,0,"is_lost",["parts"],["parts","teller","kind","number","place","far"],.aG (.cm .NotEq (.bf "len" (.v 0^.e0)) (.i 5)) (.re (.b false)>=>.en) .en>=>.un [1,2,3,4,5] (.v 0)>=>.re (.an (.ca 4 (.v 1^.e0)) (.an (.ca 6 (.v 2^.e0)) (.an (.ca 2 (.v 3^.e0)) (.an (.ca 4 (.v 4^.e0)) (.ca 2 (.v 5^.e0))))))>=>.en⟩
noncomputable def ya:FD:=⟨0,0,"is_wait",["parts"],["parts"],.re (.an (.cm .Eq (.bf "len" (.v 0^.e0)) (.i 1)) (.ca 5 (.ix (.v 0) (.i 0)^.e0)))>=>.en⟩
noncomputable def A9:FD:=⟨0,0,"name_of",["thing"],["thing"],.aG (.or (.no (.bf "isinstance" (.v 0^.ty "tuple"^.e0))) (.or (.cm .Eq (.bf "len" (.v 0^.e0)) (.i 0)) (.no (.bf "isinstance" (.ix (.v 0) (.i 0)^.ty "str"^.e0))))) (.re .n>=>.en) .en>=>.re (.ix (.v 0) (.i 0))>=>.en⟩
noncomputable def Bx:FD:=⟨0,0,"is_deed",["thing"],["thing","name","has_parts"],.set 1 (.ca 13 (.v 0^.e0))>=>.aG (.tn "DEEDS" (.v 1)) (.re (.b false)>=>.en) .en>=>.set 2 (.tx "DEEDS" (.v 1))>=>.re (.cv 2 (.sl (.v 0) (.p1 (.i 1)) .p0^.e0))>=>.en⟩
noncomputable def AQ:FD:=⟨0,0,"is_times",["thing"],["thing","lives"],.aG (.or (.no (.bf "isinstance" (.v 0^.ty "tuple"^.e0))) (.cm .NotEq (.bf "len" (.v 0^.e0)) (.i 4))) (.re (.b false)>=>.en) .en>=>.set 1 (.bf "all" (.cp false false ["time"] [] (.is (.sl (.v 0) .p0 (.p1 (.i 3)))) (.b true) (.ca 60 (.v 0^.i 1^.g "GREATEST_TIME"^.e0))^.e0))>=>.re (.an (.v 1) (.ca 60 (.ix (.v 0) (.i 3)^.i 0^.g "GREATEST_TIME"^.e0)))>=>.en⟩
noncomputable def E6:T:=.re (.an (.ca 31 (.v 1^.v 2^.e0)) (.ca 15 (.v 8^.e0)))>=>.en
noncomputable def E7:T:=.aG (.or (.no (.ca 60 (.v 6^.i 1^.g "GREATEST_MOST"^.e0))) (.no (.bf "isinstance" (.v 7^.ty "bool"^.e0)))) (.re (.b false)>=>.en) .en>=>E6
noncomputable def E8:T:=.aG (.or (.ic true (.v 3) "LENDINGS") (.or (.ic true (.v 4) "SIEVES") (.ic true (.v 5) "PICKS"))) (.re (.b false)>=>.en) .en>=>E7
noncomputable def E9:T:=.un [1,2,3,4,5,6,7,8] (.v 0)>=>E8
noncomputable def Ew:T:=.aG (.or (.no (.bf "isinstance" (.v 0^.ty "tuple"^.e0))) (.cm .NotEq (.bf "len" (.v 0^.e0)) (.i 8))) (.re (.b false)>=>.en) .en>=>E9
noncomputable def Bv:FD:=⟨0,0,"is_form",["thing"],["thing","low","high","lending","sieve","pick","most","renew","times"],Ew⟩
noncomputable def xC:FD:=⟨2,0,"__init__",["self"],["self"],.sf 0 "many_told" (.v 0) (.i 0)>=>.sf 0 "standing" (.v 0) .dk>=>.en⟩
noncomputable def xq:FD:=⟨1,1,"from_mark",["self"],["self"],.re (.op .Add (.lr (.fl 1 "mark" (.v 0)) (.op .Add (.fl 1 "high" (.v 0)) (.i 1))) (.lr (.fl 1 "low" (.v 0)) (.fl 1 "mark" (.v 0))))>=>.en⟩
noncomputable def sF:FD:=⟨1,3,"living",["self"],["self"],.re (.lv false (.fl 3 "by_inner" (.v 0)))>=>.en⟩
noncomputable def AN:FD:=⟨0,0,"talk_row",["talk"],["talk","kind","house","door","place","far"],.un [1,2,3,4,5] (.fl 2 "inner" (.v 0))>=>.re (.tu (.v 1^.fl 2 "number" (.v 0)^.v 2^.v 3^.v 4^.v 5^.fl 2 "state" (.v 0)^.fl 2 "over" (.v 0)^.e0))>=>.en⟩
noncomputable def xV:FD:=⟨1,4,"moment",["self"],["self"],.re (.fl 3 "now" (.fl 4 "table" (.v 0)))>=>.en⟩
noncomputable def xD:FD:=⟨1,4,"talks",["self"],["self"],.re (.bf "sorted" (.cp false false ["talk"] [] (.is (.me 19 (.fl 4 "table" (.v 0)) .e0)) (.b true) (.ca 20 (.v 0^.e0))^.e0))>=>.en⟩
noncomputable def Bk:FD:=⟨0,0,"is_forms",["thing"],["thing"],.aG (.or (.no (.bf "isinstance" (.v 0^.ty "list"^.e0))) (.no (.ch .LtE .LtE (.i 1) (.bf "len" (.v 0^.e0)) (.g "MOST_COURTS")))) (.re (.b false)>=>.en) .en>=>.re (.bf "all" (.cp false false ["form"] [] (.is (.v 0)) (.b true) (.ca 16 (.v 0^.e0))^.e0))>=>.en⟩
noncomputable def xS:FD:=⟨1,5,"moment",["self"],["self"],.re (.me 21 (.fl 5 "front" (.v 0)) .e0)>=>.en⟩
noncomputable def xW:FD:=⟨1,5,"talks",["self"],["self"],.re (.cp false false ["gate"] [] (.is (.fl 5 "courts" (.v 0))) (.b true) (.me 22 (.v 0) .e0))>=>.en⟩
noncomputable def Mc:T:=.re (.tu (.v 2^.op .Sub (.op .Add (.v 2) (.v 1)) (.i 1)^.v 3^.v 4^.v 5^.v 6^.v 7^.op .Add (.v 9) (.tu (.v 10^.e0))^.e0))>=>.en
noncomputable def FG:T:=.set 10 (.ix (.ll (.i 0^.ca 57 (.v 0^.i 4^.e0)^.ca 57 (.v 0^.i 30^.e0)^.i 1000000^.e0)) (.ca 57 (.v 0^.i 4^.e0)))>=>Mc
noncomputable def FH:T:=.set 9 (.bt "tuple" (.cp false false ["k"] [(0,"bag"),(8,"far")] (.r1 (.i 3)) (.b true) (.op .Add (.i 1) (.ca 57 (.v 1^.v 2^.e0)))^.e0))>=>FG
noncomputable def FI:T:=.set 8 (.ix (.ll (.i 4^.i 12^.i 1000000^.e0)) (.ca 57 (.v 0^.i 3^.e0)))>=>FH
noncomputable def FJ:T:=.set 7 (.cm .Eq (.ca 57 (.v 0^.i 2^.e0)) (.i 1))>=>FI
noncomputable def FK:T:=.set 6 (.ix (.ll (.i 1^.i 2^.i 200^.op .Add (.i 1) (.ca 57 (.v 0^.i 6^.e0))^.e0)) (.ca 57 (.v 0^.i 4^.e0)))>=>FJ
noncomputable def FL:T:=.set 5 (.ix (.ll (.s "next"^.s "keep"^.e0)) (.ca 57 (.v 0^.i 2^.e0)))>=>FK
noncomputable def FN:T:=.set 4 (.ix (.ll (.s "all"^.s "place"^.s "talk"^.e0)) (.ca 57 (.v 0^.i 3^.e0)))>=>FL
noncomputable def FO:T:=.set 3 (.ix (.ll (.s "door"^.s "place"^.s "talk"^.e0)) (.ca 57 (.v 0^.i 3^.e0)))>=>FN
noncomputable def FP:T:=.set 2 (.ix (.ll (.i 1^.op .Sub (.i 10000) (.v 1)^.op .Add (.i 1) (.ca 57 (.v 0^.op .Sub (.i 10000) (.v 1)^.e0))^.e0)) (.ca 57 (.v 0^.i 3^.e0)))>=>FO
noncomputable def FQ:T:=.set 1 (.ix (.ll (.i 1^.i 2^.i 3^.op .Add (.i 1) (.ca 57 (.v 0^.i 12^.e0))^.i 200^.e0)) (.ca 57 (.v 0^.i 5^.e0)))>=>FP
noncomputable def AL:FD:=⟨0,0,"_law_a_form",["bag"],["bag","many","low","lending","sieve","pick","most","renew","far","times","rest"],FQ⟩
noncomputable def AS:FD:=⟨0,0,"_law_said",["bag"],["bag","signs","many","one","step"],.set 1 (.s " !\"#$&'()*+,-./0123456789:;<=>?@ABCDEFGHIJKLMNOPQRSTUVWXYZ[\\]^_`abcdefghijklmnopqrstuvwxyz{|}~")>=>.set 2 (.ix (.ll (.i 0^.i 1^.ca 57 (.v 0^.i 8^.e0)^.i 40^.e0)) (.ca 57 (.v 0^.i 4^.e0)))>=>.set 3 (.ca 57 (.v 0^.i 94^.e0))>=>.set 4 (.ca 57 (.v 0^.i 94^.e0))>=>.re (.jn (.s "") (.cp false false ["k"] [(1,"signs"),(3,"one"),(4,"step")] (.r1 (.v 2)) (.b true) (.ix (.v 1) (.op .Mod (.op .Add (.v 2) (.op .Mult (.v 0) (.v 3))) (.i 94)))^.e0))>=>.en⟩
noncomputable def EI:T:=.re (.op .Add (.op .Add (.tu (.v 3^.op .Sub (.op .Add (.v 3) (.v 2)) (.i 1)^.e0)) (.sl (.v 1) (.p1 (.i 2)) (.p1 (.i 7)))) (.tu (.v 4^.e0)))>=>.en
noncomputable def EJ:T:=.set 4 (.op .Add (.bt "tuple" (.cp false false ["one"] [] (.is (.sl (.ix (.v 1) (.i 7)) .p0 (.p1 (.i 3)))) (.b true) (.op .Add (.i 1) (.op .Mod (.v 0) (.i 400)))^.e0)) (.tu (.op .Mod (.ix (.ix (.v 1) (.i 7)) (.i 3)) (.i 200)^.e0)))>=>EI
noncomputable def EK:T:=.set 3 (.bf "min" (.ix (.v 1) (.i 0)^.i 9960^.e0))>=>EJ
noncomputable def EL:T:=.set 2 (.ix (.ll (.i 1^.i 2^.i 3^.i 12^.i 40^.e0)) (.ca 57 (.v 0^.i 5^.e0)))>=>EK
noncomputable def EM:T:=.set 1 (.ca 26 (.v 0^.e0))>=>EL
noncomputable def AZ:FD:=⟨0,0,"_law_drawn",["bag"],["bag","form","many","low","times"],EM⟩
noncomputable def Di:T:=.re (.b true)>=>.en
noncomputable def Cq:T:=.aG (.or (.cm .NotEq (.ix (.me 25 (.v 2) .e0) (.i 0)) (.me 22 (.v 3) .e0)) (.cm .NotEq (.me 24 (.v 2) .e0) (.me 21 (.v 3) .e0))) (.re (.b false)>=>.en) .en>=>.en
noncomputable def qE:T:=.aG (.no (.ca 84 (.v 4^.v 7^.ca 78 (.v 3^.v 4^.v 7^.e0)^.v 8^.e0))) (.re (.b false)>=>.en) .en>=>.en
noncomputable def nk:T:=.aG (.cm .Eq (.ix (.v 7) (.i 0)) (.s "wait")) (.ex (.me 45 (.v 3) (.ix (.v 7) (.i 1)^.e0))>=>.en) qE>=>Cq
noncomputable def lW:T:=.set 8 (.me 51 (.v 2) (.v 7^.e0))>=>nk
noncomputable def Cr:T:=.set 7 (.ca 59 (.ca 58 (.v 5^.v 6^.e0)^.v 4^.e0))>=>lW
noncomputable def Ds:T:=.fo false [6] (.r1 (.bf "max" (.i 16^.bf "len" (.v 5^.e0)^.e0))) Cr>=>Di
noncomputable def Dt:T:=.set 5 (.op .Add (.sl (.v 0) (.p1 (.i 1)) (.p1 (.i 60))) (.ll (.i 0^.e0)))>=>Ds
noncomputable def FC:T:=.set 4 .dk>=>Dt
noncomputable def FE:T:=.set 3 (.mk 43 (.v 1^.e0))>=>FC
noncomputable def EG:T:=.set 2 (.mk 76 (.tu (.i 5000^.i 5199^.s "door"^.s "all"^.s "next"^.i 200^.b true^.tu (.i 1000000^.i 1000000^.i 1000000^.i 0^.e0)^.e0)^.ll (.v 1^.e0)^.e0))>=>FE
noncomputable def EH:T:=.set 1 (.ca 28 (.ca 56 (.ca 55 (.v 0^.i 0^.e0)^.i 0^.e0)^.e0))>=>EG
noncomputable def vI:FD:=⟨0,0,"law",["script"],["script","form","yard","gate","names","cells","k","deed","found"],EH⟩
noncomputable def Ba:FD:=⟨0,0,"is_word",["kind","thing"],["kind","thing"],.aG (.cm .Eq (.v 0) (.s "note")) (.re (.ic false (.v 1) "NOTE_WORDS")>=>.en) .en>=>.re (.ic false (.v 1) "LINE_WORDS")>=>.en⟩
noncomputable def Bt:FD:=⟨0,0,"is_pool",["low","high"],["low","high"],.re (.an (.ca 2 (.v 0^.e0)) (.an (.ca 2 (.v 1^.e0)) (.ch .LtE .LtE (.v 0) (.v 1) (.op .Add (.v 0) (.g "WIDEST_STEP")))))>=>.en⟩
noncomputable def FR:T:=.re (.tu (.v 3^.v 4^.v 5^.v 6^.v 7^.e0))>=>.en
noncomputable def FT:T:=.aG (.cm .Eq (.v 2) (.s "place")) (.re (.tu (.v 3^.v 4^.v 5^.v 6^.n^.e0))>=>.en) .en>=>FR
noncomputable def FU:T:=.aG (.cm .Eq (.v 2) (.s "door")) (.re (.tu (.v 3^.v 4^.v 5^.n^.n^.e0))>=>.en) .en>=>FT
noncomputable def FV:T:=.set 2 (.ix (.v 0) (.i 2))>=>FU
noncomputable def FW:T:=.un [3,4,5,6,7] (.v 1)>=>FV
noncomputable def A5:FD:=⟨0,0,"holder_of",["form","inner"],["form","inner","lending","kind","house","door","place","far"],FW⟩
noncomputable def A8:FD:=⟨0,0,"time_of",["form","state"],["form","state","times"],.set 2 (.ix (.v 0) (.i 7))>=>.re (.ix (.v 2) (.tx "TIME_AT" (.v 1)))>=>.en⟩
noncomputable def AW:FD:=⟨0,0,"note_state",["state","word"],["state","word"],.aG (.an (.cm .Eq (.v 1) (.s "say")) (.or (.cm .Is (.v 0) .n) (.cm .Eq (.v 0) (.s "note")))) (.re (.s "note")>=>.en) .en>=>.re .n>=>.en⟩
noncomputable def yd:FD:=⟨1,1,"has",["self","number"],["self","number"],.re (.ch .LtE .LtE (.fl 1 "low" (.v 0)) (.v 1) (.fl 1 "high" (.v 0)))>=>.en⟩
noncomputable def xH:FD:=⟨1,1,"take",["self","number"],["self","number"],.dp (.fl 1 "taken" (.v 0)) (.v 1) (.b true)>=>.aG (.dn false (.v 1) (.fl 1 "until" (.v 0))) (.dd (.fl 1 "until" (.v 0)) (.v 1)>=>.en) .en>=>.sf 1 "mark" (.v 0) (.ie (.cm .Eq (.v 1) (.fl 1 "high" (.v 0))) (.fl 1 "low" (.v 0)) (.op .Add (.v 1) (.i 1)))>=>.en⟩
noncomputable def ED:T:=.sf 3 "numbers" (.v 0) .dt>=>.en
noncomputable def EE:T:=.sf 3 "holders" (.v 0) .dk>=>ED
noncomputable def EF:T:=.sf 3 "by_number" (.v 0) .dk>=>EE
noncomputable def FX:T:=.sf 3 "by_inner" (.v 0) .dt>=>EF
noncomputable def FY:T:=.sf 3 "now" (.v 0) (.i 0)>=>FX
noncomputable def FZ:T:=.sf 3 "pool" (.v 0) (.mk 63 (.ix (.v 1) (.i 0)^.ix (.v 1) (.i 1)^.e0))>=>FY
noncomputable def Ga:T:=.sf 3 "form" (.v 0) (.v 1)>=>FZ
noncomputable def xZ:FD:=⟨2,3,"__init__",["self","form"],["self","form"],Ga⟩
noncomputable def xn:FD:=⟨1,3,"of_inner",["self","inner"],["self","inner"],.re (.d1 (.fl 3 "by_inner" (.v 0)) (.v 1))>=>.en⟩
noncomputable def xk:FD:=⟨1,3,"holder_at",["self","number"],["self","number"],.re (.d1 (.fl 3 "holders" (.v 0)) (.v 1))>=>.en⟩
noncomputable def xj:FD:=⟨1,3,"number_of",["self","inner"],["self","inner"],.re (.d1 (.fl 3 "numbers" (.v 0)) (.ca 32 (.fl 3 "form" (.v 0)^.v 1^.e0)))>=>.en⟩
noncomputable def xB:FD:=⟨1,3,"held",["self","house"],["self","house"],.re (.cp false true ["number","holder"] [(1,"house")] (.im (.fl 3 "holders" (.v 0))) (.cm .Eq (.ix (.v 1) (.i 1)) (.v 2)) (.v 0))>=>.en⟩
noncomputable def aN:FD:=⟨1,3,"pass_by",["self","ticks"],["self","ticks","ended","talk"],.af 3 "now" (.v 0) (.v 1)>=>.sc 2 false false ["talk"] [(0,"self")] (.is (.me 19 (.v 0) .e0)) (.cm .LtE (.fl 2 "over" (.v 0)) (.fl 3 "now" (.v 1))) (.v 0)>=>.fo false [3] (.is (.sk 2 "over" (.v 2))) (.ex (.me 70 (.v 0) (.v 3^.fl 2 "over" (.v 3)^.e0))>=>.en)>=>.en⟩
noncomputable def EN:T:=.sf 4 "wish" (.v 0) .n>=>.en
noncomputable def EO:T:=.sf 4 "done" (.v 0) (.lm .e0)>=>EN
noncomputable def ER:T:=.sf 4 "strangers" (.v 0) (.mk 17 .e0)>=>EO
noncomputable def ES:T:=.sf 4 "table" (.v 0) (.mk 37 (.v 1^.e0))>=>ER
noncomputable def ET:T:=.sf 4 "form" (.v 0) (.v 1)>=>ES
noncomputable def EU:T:=.aG (.no (.ca 16 (.v 1^.e0))) (.ra>=>.en) .en>=>ET
noncomputable def xP:FD:=⟨2,4,"__init__",["self","form"],["self","form"],EU⟩
noncomputable def xQ:FD:=⟨1,4,"deed",["self","deed"],["self","deed","answer"],.aG (.no (.ca 14 (.v 1^.e0))) (.ra>=>.en) .en>=>.set 2 (.me 71 (.v 0) (.ix (.v 1) (.i 0)^.sl (.v 1) (.p1 (.i 1)) .p0^.e0))>=>.ex (.ap (.fl 4 "done" (.v 0)) (.tu (.v 1^.v 2^.e0)^.e0))>=>.re (.v 2)>=>.en⟩
noncomputable def xK:FD:=⟨1,4,"wait",["self","ticks"],["self","ticks"],.re (.me 44 (.v 0) (.tu (.s "wait"^.v 1^.e0)^.e0))>=>.en⟩
noncomputable def xM:FD:=⟨1,4,"sent",["self","parts"],["self","parts","answer","number","kind","house","door","place","far","word","text"],.un [4,5,6,7,8,9,10] (.v 1)>=>.set 2 (.me 72 (.v 0) (.tu (.v 4^.v 5^.v 6^.v 7^.v 8^.e0)^.v 9^.e0))>=>.aG (.or (.cm .NotEq (.v 7) (.i 0)) (.cm .Eq (.ix (.v 2) (.i 0)) (.s "kept"))) (.re (.v 2)>=>.en) .en>=>.ra⟩
noncomputable def xl:FD:=⟨1,4,"picked_for",["self","door"],["self","door","pool","now"],.pr 2 3 (.fl 3 "pool" (.fl 4 "table" (.v 0))^.fl 3 "now" (.fl 4 "table" (.v 0))^.e0)>=>.aG (.an (.cm .IsNot (.fl 4 "wish" (.v 0)) .n) (.me 64 (.v 2) (.fl 4 "wish" (.v 0)^.v 3^.e0))) (.re (.fl 4 "wish" (.v 0))>=>.en) .en>=>.re (.me 81 (.v 2) (.ix (.fl 4 "form" (.v 0)) (.i 4)^.v 1^.v 3^.e0))>=>.en⟩
noncomputable def Ex:T:=.re (.tu (.s "told"^.ix (.fl 2 "inner" (.v 2)) (.i 1)^.ix (.fl 2 "inner" (.v 2)) (.i 2)^.e0))>=>.en
noncomputable def Dv:T:=.aG (.cm .Is (.v 2) .n) (.re (.tu (.s "kept"^.s "nobody"^.e0))>=>.en) .en>=>Ex
noncomputable def Ey:T:=.set 2 (.me 86 (.fl 4 "table" (.v 0)) (.v 4^.v 5^.v 6^.v 7^.e0))>=>Dv
noncomputable def Ez:T:=.un [3,4,5,6,7] (.v 1)>=>Ey
noncomputable def xr:FD:=⟨1,4,"told_lost",["self","parts"],["self","parts","talk","teller","kind","number","place","far"],Ez⟩
noncomputable def uO:FD:=⟨0,0,"is_yard_deed",["thing","many_courts"],["thing","many_courts","name"],.set 2 (.ca 13 (.v 0^.e0))>=>.aG (.cm .Eq (.v 2) (.s "out")) (.re (.an (.cm .Gt (.bf "len" (.v 0^.e0)) (.i 1)) (.an (.ca 60 (.ix (.v 0) (.i 1)^.i 0^.op .Sub (.v 1) (.i 1)^.e0)) (.ca 9 (.sl (.v 0) (.p1 (.i 2)) .p0^.e0))))>=>.en) .en>=>.re (.an (.cm .In (.v 2) (.tu (.s "come"^.s "lost"^.s "wait"^.e0))) (.ca 14 (.v 0^.e0)))>=>.en⟩
noncomputable def qC:FD:=⟨0,0,"court_answer",["court","answer"],["court","answer","led_in","house","door"],.aG (.cm .Eq (.ix (.v 1) (.i 0)) (.s "kept")) (.re (.tu (.s "stopped"^.v 0^.ix (.v 1) (.i 1)^.e0))>=>.en) .en>=>.un [2,3,4] (.v 1)>=>.re (.tu (.v 2^.v 0^.v 3^.v 4^.e0))>=>.en⟩
noncomputable def L0:T:=.re (.me 54 (.v 0) (.v 1^.e0))>=>.en
noncomputable def CN:T:=.aG (.cm .Eq (.ix (.v 1) (.i 0)) (.s "lost")) (.re (.me 53 (.v 0) (.v 1^.e0))>=>.en) .en>=>L0
noncomputable def yT:T:=.aG (.cm .Eq (.ix (.v 1) (.i 0)) (.s "come")) (.re (.me 52 (.v 0) (.v 1^.e0))>=>.en) .en>=>CN
noncomputable def vF:T:=.aG (.cm .Eq (.ix (.v 1) (.i 0)) (.s "out")) (.re (.me 77 (.v 0) (.ix (.v 1) (.i 1)^.sl (.v 1) (.p1 (.i 2)) .p0^.e0))>=>.en) .en>=>yT
noncomputable def vG:T:=.aG (.no (.ca 49 (.v 1^.bf "len" (.fl 5 "courts" (.v 0)^.e0)^.e0))) .ra .en>=>vF
noncomputable def kc:FD:=⟨1,5,"deed",["self","deed"],["self","deed"],vG⟩
noncomputable def LW:T:=.re (.ca 50 (.v 4^.me 90 (.ix (.fl 5 "courts" (.v 0)) (.v 4)) (.v 7^.v 8^.v 9^.v 5^.v 11^.v 12^.e0)^.e0))>=>.en
noncomputable def LX:T:=.un [6,7,8,9,10,11,12] (.v 1)>=>LW
noncomputable def LY:T:=.un [3,4,5] (.v 2)>=>LX
noncomputable def CM:T:=.aG (.cm .Eq (.ix (.v 2) (.i 0)) (.s "kept")) (.re (.v 2)>=>.en) .en>=>LY
noncomputable def LZ:T:=.set 2 (.me 44 (.fl 5 "front" (.v 0)) (.v 1^.e0))>=>CM
noncomputable def xf:FD:=⟨1,5,"lead_on",["self","deed"],["self","deed","answer","led_in","court","number","name","kind","place","far","outer","word","text"],LZ⟩
noncomputable def Ml:T:=.re (.ca 50 (.v 4^.me 87 (.ix (.fl 5 "courts" (.v 0)) (.v 4)) (.v 7^.v 8^.v 5^.v 10^.v 11^.e0)^.e0))>=>.en
noncomputable def LQ:T:=.un [6,7,8,9,10,11] (.v 1)>=>Ml
noncomputable def LS:T:=.un [3,4,5] (.v 2)>=>LQ
noncomputable def CL:T:=.aG (.cm .Eq (.ix (.v 2) (.i 0)) (.s "kept")) (.re (.v 2)>=>.en) .en>=>LS
noncomputable def LU:T:=.set 2 (.me 44 (.fl 5 "front" (.v 0)) (.v 1^.e0))>=>CL
noncomputable def xc:FD:=⟨1,5,"tell_on",["self","deed"],["self","deed","answer","told","court","number","name","teller","kind","outer","place","far"],LU⟩
noncomputable def xX:FD:=⟨1,5,"go_by",["self","deed"],["self","deed","gate"],.ex (.me 44 (.fl 5 "front" (.v 0)) (.v 1^.e0))>=>.fo false [2] (.is (.fl 5 "courts" (.v 0))) (.ex (.me 44 (.v 2) (.v 1^.e0))>=>.en)>=>.re .n>=>.en⟩
noncomputable def AV:FD:=⟨0,0,"_law_cell",["script","k"],["script","k"],.aG (.cm .Lt (.v 1) (.bf "len" (.v 0^.e0))) (.re (.ix (.v 0) (.v 1))>=>.en) .en>=>.re (.i 0)>=>.en⟩
noncomputable def AR:FD:=⟨0,0,"_law_well",["cell","turn"],["cell","turn"],.aG (.cm .GtE (.v 0) (.op .Pow (.i 10) (.i 18))) (.re (.lm (.op .Sub (.v 0) (.op .Pow (.i 10) (.i 18))^.op .Mod (.v 0) (.i 2305843009213693951)^.v 1^.e0))>=>.en) .en>=>.re (.lm (.i 0^.op .Mod (.v 0) (.i 2305843009213693951)^.v 1^.e0))>=>.en⟩
noncomputable def uR:FD:=⟨0,0,"_law_take",["bag","many"],["bag","many","p","n","found"],.aG (.cm .Gt (.ix (.v 0) (.i 0)) (.i 0)) (.set 4 (.op .Mod (.ix (.v 0) (.i 0)) (.v 1))>=>.sp (.v 0) (.i 0) (.op .FloorDiv (.ix (.v 0) (.i 0)) (.v 1))>=>.re (.v 4)>=>.en) .en>=>.sp (.v 0) (.i 2) (.op .Add (.ix (.v 0) (.i 2)) (.i 1))>=>.set 2 (.i 2305843009213693951)>=>.set 3 (.op .Mod (.op .Add (.ix (.v 0) (.i 1)) (.op .Mult (.i 1000003) (.ix (.v 0) (.i 2)))) (.v 2))>=>.set 3 (.op .Mod (.op .Add (.op .Add (.op .Mult (.v 3) (.v 3)) (.op .Mult (.i 7919) (.op .Pow (.ix (.v 0) (.i 2)) (.i 2)))) (.i 5)) (.v 2))>=>.re (.op .Mod (.op .FloorDiv (.op .Mod (.op .Pow (.v 3) (.i 3)) (.v 2)) (.i 13)) (.v 1))>=>.en⟩
noncomputable def AK:FD:=⟨0,0,"_law_bag_at",["cells","k"],["cells","k","bag"],.aG (.cm .Lt (.v 1) (.bf "len" (.v 0^.e0))) (.re (.ca 56 (.ix (.v 0) (.v 1)^.i 0^.e0))>=>.en) .en>=>.set 2 (.ca 56 (.op .Mod (.ix (.v 0) (.op .Mod (.v 1) (.bf "len" (.v 0^.e0)))) (.op .Pow (.i 10) (.i 18))^.i 0^.e0))>=>.sp (.v 2) (.i 1) (.op .Mod (.op .Add (.op .Add (.ix (.v 2) (.i 1)) (.op .Mult (.op .Mult (.i 7919) (.v 1)) (.v 1))) (.op .Mult (.i 31) (.v 1))) (.i 2305843009213693951))>=>.re (.v 2)>=>.en⟩
noncomputable def Fn:T:=.re (.tu (.s "wait"^.ca 57 (.v 0^.ix (.ll (.i 4^.i 60^.i 500^.e0)) (.ca 57 (.v 0^.i 3^.e0))^.e0)^.e0))>=>.en
noncomputable def Fp:T:=.aG (.cm .Eq (.v 2) (.i 10)) (.re (.tu (.s "lost"^.i 4^.s "note"^.v 6^.v 3^.v 4^.e0))>=>.en) .en>=>Fn
noncomputable def Fq:T:=.aG (.cm .Lt (.v 2) (.i 10)) (.re (.tu (.s "come"^.s "note"^.v 3^.v 4^.v 6^.s "say"^.ca 27 (.v 0^.e0)^.e0))>=>.en) .en>=>Fp
noncomputable def Ft:T:=.set 6 (.ix (.v 5) (.ca 57 (.v 0^.bf "len" (.v 5^.e0)^.e0)))>=>Fq
noncomputable def Fu:T:=.set 5 (.op .Add (.bf "sorted" (.v 1^.e0)) (.ll (.op .Add (.i 5000) (.ca 57 (.v 0^.i 200^.e0))^.e0)))>=>Ft
noncomputable def JL:T:=.re (.tu (.s "out"^.i 0^.s "note"^.ca 57 (.v 0^.i 3^.e0)^.v 7^.v 3^.v 4^.s "say"^.ca 27 (.v 0^.e0)^.e0))>=>.en
noncomputable def JM:T:=.set 7 (.ix (.ll (.i 1^.i 5300^.i 9999^.e0)) (.ca 57 (.v 0^.i 3^.e0)))>=>JL
noncomputable def Fv:T:=.aG (.cm .Lt (.v 2) (.i 6)) JM .en>=>Fu
noncomputable def Fw:T:=.set 4 (.ix (.ll (.i 7^.i 80^.e0)) (.ca 57 (.v 0^.i 2^.e0)))>=>Fv
noncomputable def Fx:T:=.set 3 (.ix (.ll (.i 1^.i 2^.i 1000000^.e0)) (.ca 57 (.v 0^.i 3^.e0)))>=>Fw
noncomputable def Fy:T:=.set 2 (.ca 57 (.v 0^.i 12^.e0))>=>Fx
noncomputable def AU:FD:=⟨0,0,"_law_note",["bag","names"],["bag","names","way","place","far","numbers","number","door"],Fy⟩
noncomputable def AI:FD:=⟨0,0,"is_whole_within",["thing","least","greatest"],["thing","least","greatest"],.re (.an (.ca 0 (.v 0^.e0)) (.ch .LtE .LtE (.v 1) (.v 0) (.v 2)))>=>.en⟩
noncomputable def A4:FD:=⟨0,0,"is_letter",["kind","word","text"],["kind","word","text"],.re (.an (.ca 6 (.v 0^.e0)) (.an (.ca 30 (.v 0^.v 1^.e0)) (.ca 8 (.v 2^.e0))))>=>.en⟩
noncomputable def AY:FD:=⟨0,0,"line_state",["state","side","word"],["state","side","word"],.aG (.cm .Eq (.v 2) (.s "break")) (.re (.ie (.ic false (.v 0) "BREAKABLE") (.s "shut") .n)>=>.en) .en>=>.re (.tg "LINE_STEPS" (.tu (.v 1^.v 0^.v 2^.e0)))>=>.en⟩
noncomputable def xI:FD:=⟨2,1,"__init__",["self","low","high"],["self","low","high"],.sf 1 "low" (.v 0) (.v 1)>=>.sf 1 "high" (.v 0) (.v 2)>=>.sf 1 "mark" (.v 0) (.v 1)>=>.sf 1 "taken" (.v 0) .dk>=>.sf 1 "until" (.v 0) .dk>=>.en⟩
noncomputable def xg:FD:=⟨1,1,"is_free",["self","number","moment"],["self","number","moment"],.aG (.or (.no (.me 35 (.v 0) (.v 1^.e0))) (.dn false (.v 1) (.fl 1 "taken" (.v 0)))) (.re (.b false)>=>.en) .en>=>.re (.or (.dn true (.v 1) (.fl 1 "until" (.v 0))) (.cm .LtE (.dg (.fl 1 "until" (.v 0)) (.v 1)) (.v 2)))>=>.en⟩
noncomputable def xJ:FD:=⟨1,1,"give",["self","number","until"],["self","number","until"],.dd (.fl 1 "taken" (.v 0)) (.v 1)>=>.dp (.fl 1 "until" (.v 0)) (.v 1) (.v 2)>=>.en⟩
noncomputable def xu:FD:=⟨1,3,"is_with",["self","number","place"],["self","number","place"],.re (.bf "any" (.cp false false ["talk"] [(2,"place")] (.iv (.dg (.fl 3 "by_number" (.v 0)) (.v 1))) (.b true) (.cm .Eq (.ix (.fl 2 "inner" (.v 0)) (.i 3)) (.v 1))^.e0))>=>.en⟩
noncomputable def EA:T:=.dp (.fl 3 "numbers" (.v 0)) (.v 3) (.v 1)>=>.en
noncomputable def Dw:T:=.dp (.fl 3 "holders" (.v 0)) (.v 1) (.v 3)>=>EA
noncomputable def EB:T:=.ex (.me 36 (.fl 3 "pool" (.v 0)) (.v 1^.e0))>=>Dw
noncomputable def EC:T:=.set 3 (.ca 32 (.fl 3 "form" (.v 0)^.v 2^.e0))>=>EB
noncomputable def xY:FD:=⟨1,3,"lend",["self","number","inner"],["self","number","inner","holder"],EC⟩
noncomputable def sH:FD:=⟨1,3,"lead",["self","talk","state"],["self","talk","state"],.aG (.cm .Eq (.v 2) (.s "shut")) (.ex (.me 70 (.v 0) (.v 1^.fl 3 "now" (.v 0)^.e0))>=>.r0>=>.en) .en>=>.sf 2 "state" (.v 1) (.v 2)>=>.sf 2 "over" (.v 1) (.op .Add (.fl 3 "now" (.v 0)) (.ca 33 (.fl 3 "form" (.v 0)^.v 2^.e0)))>=>.en⟩
noncomputable def xo:FD:=⟨1,3,"end_lend",["self","number","moment"],["self","number","moment"],.dd (.fl 3 "numbers" (.v 0)) (.dg (.fl 3 "holders" (.v 0)) (.v 1))>=>.dd (.fl 3 "holders" (.v 0)) (.v 1)>=>.ex (.me 65 (.fl 3 "pool" (.v 0)) (.v 1^.op .Add (.v 2) (.ix (.ix (.fl 3 "form" (.v 0)) (.i 7)) (.i 3))^.e0))>=>.en⟩
noncomputable def Gv:T:=.aG (.dn false (.v 3) (.fl 3 "holders" (.v 0))) (.ex (.me 69 (.v 0) (.v 3^.v 2^.e0))>=>.en) .en>=>.en
noncomputable def Gw:T:=.dd (.fl 3 "by_number" (.v 0)) (.v 3)>=>Gv
noncomputable def zA:T:=.aG (.cm .Gt (.bf "len" (.dg (.fl 3 "by_number" (.v 0)) (.v 3)^.e0)) (.i 0)) (.r0>=>.en) .en>=>Gw
noncomputable def Gx:T:=.dd (.dg (.fl 3 "by_number" (.v 0)) (.v 3)) (.tu (.v 4^.v 7^.v 8^.e0))>=>zA
noncomputable def Gy:T:=.dd (.fl 3 "by_inner" (.v 0)) (.fl 2 "inner" (.v 1))>=>Gx
noncomputable def Gz:T:=.set 3 (.fl 2 "number" (.v 1))>=>Gy
noncomputable def GA:T:=.un [4,5,6,7,8] (.fl 2 "inner" (.v 1))>=>Gz
noncomputable def xG:FD:=⟨1,3,"end",["self","talk","moment"],["self","talk","moment","number","kind","house","door","place","far"],GA⟩
noncomputable def Gj:T:=.aG (.cm .Eq (.v 1) (.s "wait")) (.ex (.me 42 (.fl 4 "table" (.v 0)) (.ix (.v 2) (.i 0)^.e0))>=>.re .n>=>.en) .en>=>.ra
noncomputable def zx:T:=.aG (.cm .Eq (.v 1) (.s "lost")) (.re (.me 48 (.v 0) (.v 2^.e0))>=>.en) .en>=>Gj
noncomputable def DA:T:=.aG (.cm .Eq (.v 1) (.s "come")) (.un [3,4,5,6,7,8] (.v 2)>=>.re (.me 88 (.v 0) (.v 3^.v 4^.v 5^.v 6^.v 7^.e0))>=>.en) .en>=>zx
noncomputable def zy:T:=.aG (.cm .Eq (.v 1) (.s "out")) (.re (.me 46 (.v 0) (.v 2^.e0))>=>.en) .en>=>DA
noncomputable def mY:FD:=⟨1,4,"answered",["self","name","parts"],["self","name","parts","kind","place","far","number","word","text"],zy⟩
noncomputable def Gb:T:=.re (.tu (.s "led"^.fl 2 "number" (.v 3)^.e0))>=>.en
noncomputable def Gg:T:=.ex (.me 68 (.fl 4 "table" (.v 0)) (.v 3^.v 4^.e0))>=>Gb
noncomputable def Dx:T:=.aG (.cm .Is (.v 3) .n) (.re (.me 73 (.v 0) (.v 1^.v 4^.e0))>=>.en) .en>=>Gg
noncomputable def vZ:T:=.aG (.cm .Is (.v 4) .n) (.re (.tu (.s "kept"^.s "astray"^.e0))>=>.en) .en>=>Dx
noncomputable def Dy:T:=.set 4 (.ca 79 (.ix (.v 1) (.i 0)^.ie (.cm .Is (.v 3) .n) .n (.fl 2 "state" (.v 3))^.s "house"^.v 2^.e0))>=>vZ
noncomputable def Gh:T:=.set 3 (.me 38 (.fl 4 "table" (.v 0)) (.v 1^.e0))>=>Dy
noncomputable def xx:FD:=⟨1,4,"lead_out",["self","inner","word"],["self","inner","word","talk","state"],Gh⟩
noncomputable def DC:T:=.re (.tu (.s "led"^.v 3^.e0))>=>.en
noncomputable def DE:T:=.ex (.me 82 (.fl 4 "table" (.v 0)) (.v 1^.v 3^.v 2^.e0))>=>DC
noncomputable def DG:T:=.aG (.cm .Is (.v 3) .n) (.aG (.cm .GtE (.bf "len" (.me 41 (.fl 4 "table" (.v 0)) (.ix (.v 1) (.i 1)^.e0)^.e0)) (.ix (.fl 4 "form" (.v 0)) (.i 5))) (.re (.tu (.s "kept"^.s "most"^.e0))>=>.en) .en>=>.set 3 (.me 47 (.v 0) (.ix (.v 1) (.i 2)^.e0))>=>.aG (.cm .Is (.v 3) .n) (.re (.tu (.s "kept"^.s "full"^.e0))>=>.en) .en>=>.ex (.me 67 (.fl 4 "table" (.v 0)) (.v 3^.v 1^.e0))>=>.en) .en>=>DE
noncomputable def Gu:T:=.set 3 (.me 40 (.fl 4 "table" (.v 0)) (.v 1^.e0))>=>DG
noncomputable def xt:FD:=⟨1,4,"begin_out",["self","inner","state"],["self","inner","state","number"],Gu⟩
noncomputable def Gk:T:=.re (.tu (.s "in"^.v 6^.v 7^.e0))>=>.en
noncomputable def Gm:T:=.aG (.or (.v 4) (.cm .NotEq (.v 3) (.fl 2 "state" (.v 1)))) (.ex (.me 68 (.fl 4 "table" (.v 0)) (.v 1^.v 3^.e0))>=>.en) .en>=>Gk
noncomputable def Gp:T:=.set 4 (.ix (.fl 4 "form" (.v 0)) (.i 6))>=>Gm
noncomputable def DB:T:=.aG (.cm .Is (.v 3) .n) (.re (.tu (.s "kept"^.s "astray"^.e0))>=>.en) .en>=>Gp
noncomputable def Gq:T:=.set 3 (.ca 79 (.v 5^.fl 2 "state" (.v 1)^.s "far"^.v 2^.e0))>=>DB
noncomputable def Gr:T:=.un [5,6,7,8,9] (.fl 2 "inner" (.v 1))>=>Gq
noncomputable def xh:FD:=⟨1,4,"lead_in",["self","talk","word"],["self","talk","word","state","renew","kind","house","door","place","far"],Gr⟩
noncomputable def xy:FD:=⟨1,4,"lets_note_in",["self","place","number"],["self","place","number","sieve"],.set 3 (.ix (.fl 4 "form" (.v 0)) (.i 3))>=>.re (.or (.cm .Eq (.v 3) (.s "all")) (.an (.cm .Eq (.v 3) (.s "place")) (.me 66 (.fl 4 "table" (.v 0)) (.v 2^.v 1^.e0))))>=>.en⟩
noncomputable def CO:T:=.sf 5 "courts" (.v 0) (.cp false false ["court_form"] [] (.is (.v 2)) (.b true) (.mk 43 (.v 0^.e0)))>=>.en
noncomputable def L4:T:=.sf 5 "front" (.v 0) (.mk 43 (.v 1^.e0))>=>CO
noncomputable def L5:T:=.aG (.or (.no (.ca 16 (.v 1^.e0))) (.no (.ca 23 (.v 2^.e0)))) .ra .en>=>L4
noncomputable def xF:FD:=⟨2,5,"__init__",["self","form","forms"],["self","form","forms"],L5⟩
noncomputable def Me:T:=.re (.tu (.s "led"^.v 4^.ix (.v 5) (.i 1)^.e0))>=>.en
noncomputable def Mf:T:=.aG (.cm .Eq (.ix (.v 5) (.i 0)) (.s "kept")) (.re (.tu (.s "stopped"^.v 4^.ix (.v 5) (.i 1)^.e0))>=>.en) .en>=>Me
noncomputable def Mg:T:=.set 5 (.me 91 (.fl 5 "front" (.v 0)) (.v 6^.v 1^.v 4^.v 9^.v 10^.v 11^.v 12^.e0))>=>Mf
noncomputable def Mh:T:=.un [6,7,8,9,10,11,12] (.v 2)>=>Mg
noncomputable def Mi:T:=.set 4 (.ix (.v 3) (.i 1))>=>Mh
noncomputable def CK:T:=.aG (.cm .NotEq (.ix (.v 3) (.i 0)) (.s "led")) (.re (.v 3)>=>.en) .en>=>Mi
noncomputable def Mj:T:=.set 3 (.me 44 (.ix (.fl 5 "courts" (.v 0)) (.v 1)) (.op .Add (.tu (.s "out"^.e0)) (.v 2)^.e0))>=>CK
noncomputable def xm:FD:=⟨1,5,"write_out",["self","court","parts"],["self","court","parts","answer","number","further","kind","house","door","place","far","word","text"],Mj⟩
noncomputable def Fl:T:=.re (.me 44 (.v 0) (.op .Add (.op .Add (.sl (.v 2) .p0 (.p1 (.i 3))) (.tu (.v 3^.e0))) (.sl (.v 2) (.p1 (.i 4)) .p0)^.e0))>=>.en
noncomputable def Df:T:=.aG (.cm .Eq (.ix (.v 2) (.i 0)) (.s "come")) (.re (.me 44 (.v 0) (.op .Add (.op .Add (.sl (.v 2) .p0 (.p1 (.i 4))) (.tu (.v 3^.e0))) (.sl (.v 2) (.p1 (.i 5)) .p0)^.e0))>=>.en) .en>=>Fl
noncomputable def wg:T:=.aG (.cm .Is (.v 3) .n) (.re (.tu (.s "none"^.e0))>=>.en) .en>=>Df
noncomputable def Dg:T:=.set 3 (.d2 (.v 1) (.ie (.cm .Eq (.ix (.v 2) (.i 0)) (.s "come")) (.ix (.v 2) (.i 4)) (.ix (.v 2) (.i 3))) .n)>=>wg
noncomputable def JJ:T:=.re (.v 4)>=>.en
noncomputable def JK:T:=.set 4 (.me 44 (.v 0) (.op .Add (.tu (.s "out"^.e0)) (.sl (.v 2) (.p1 (.i 2)) .p0)^.e0))>=>JJ
noncomputable def zq:T:=.aG (.cm .Eq (.ix (.v 2) (.i 0)) (.s "out")) JK .en>=>Dg
noncomputable def qB:FD:=⟨0,0,"_law_alone",["gate","names","deed"],["gate","names","deed","number","answer"],zq⟩
noncomputable def AX:FD:=⟨0,0,"next_state",["kind","state","side","word"],["kind","state","side","word"],.aG (.cm .Eq (.v 0) (.s "note")) (.re (.ca 34 (.v 1^.v 3^.e0))>=>.en) .en>=>.re (.ca 62 (.v 1^.v 2^.v 3^.e0))>=>.en⟩
noncomputable def xp:FD:=⟨1,0,"door_for",["self","kind","number","place"],["self","kind","number","place","rule_kind","rule_number","rule_place","house","door","fits_place"],.fo true [4,5,6,7,8] (.iv (.fl 0 "standing" (.v 0))) (.set 9 (.or (.cm .Is (.v 6) .n) (.cm .Eq (.v 6) (.v 3)))>=>.aG (.an (.cm .Eq (.v 4) (.v 1)) (.an (.cm .Eq (.v 5) (.v 2)) (.v 9))) (.re (.tu (.v 7^.v 8^.e0))>=>.en) .en>=>.en)>=>.re .n>=>.en⟩
noncomputable def xT:FD:=⟨1,1,"picked",["self","pick","door","moment"],["self","pick","door","moment","number"],.aG (.an (.cm .Eq (.v 1) (.s "keep")) (.me 64 (.v 0) (.v 2^.v 3^.e0))) (.re (.v 2)>=>.en) .en>=>.fo false [4] (.is (.me 18 (.v 0) .e0)) (.aG (.me 64 (.v 0) (.v 4^.v 3^.e0)) (.re (.v 4)>=>.en) .en>=>.en)>=>.re .n>=>.en⟩
noncomputable def DH:T:=.dp (.dg (.fl 3 "by_number" (.v 0)) (.v 2)) (.tu (.v 5^.v 8^.v 9^.e0)) (.v 4)>=>.en
noncomputable def DI:T:=.aG (.dn true (.v 2) (.fl 3 "by_number" (.v 0))) (.dp (.fl 3 "by_number" (.v 0)) (.v 2) .dt>=>.en) .en>=>DH
noncomputable def DJ:T:=.dp (.fl 3 "by_inner" (.v 0)) (.v 1) (.v 4)>=>DI
noncomputable def DK:T:=.set 4 (.mk 85 (.v 1^.v 2^.v 3^.op .Add (.fl 3 "now" (.v 0)) (.ca 33 (.fl 3 "form" (.v 0)^.v 3^.e0))^.e0))>=>DJ
noncomputable def DL:T:=.un [5,6,7,8,9] (.v 1)>=>DK
noncomputable def sG:FD:=⟨1,3,"begin",["self","inner","number","state"],["self","inner","number","state","talk","kind","house","door","place","far"],DL⟩
noncomputable def GF:T:=.re (.tu (.s "in"^.ix (.v 4) (.i 1)^.ix (.v 4) (.i 2)^.e0))>=>.en
noncomputable def GG:T:=.aG (.or (.cm .Eq (.v 1) (.s "line")) (.no (.me 75 (.v 0) (.v 2^.v 3^.e0)))) (.re (.tu (.s "kept"^.s "sieve"^.e0))>=>.en) .en>=>GF
noncomputable def DN:T:=.aG (.or (.cm .Is (.v 4) .n) (.cm .NotEq (.ix (.v 4) (.i 0)) (.v 1))) (.re (.tu (.s "kept"^.s "nobody"^.e0))>=>.en) .en>=>GG
noncomputable def FF:T:=.set 4 (.me 39 (.fl 4 "table" (.v 0)) (.v 3^.e0))>=>DN
noncomputable def xU:FD:=⟨1,4,"sifted",["self","kind","place","number"],["self","kind","place","number","holder"],FF⟩
noncomputable def Dh:T:=.re (.cm .Eq (.v 3) (.op .Add (.op .Add (.sl (.v 2) .p0 (.p1 (.i 1))) (.tu (.i 0^.e0))) (.sl (.v 2) (.p1 (.i 1)) .p0)))>=>.en
noncomputable def zr:T:=.aG (.cm .Eq (.ix (.v 2) (.i 0)) (.s "kept")) (.re (.cm .Eq (.v 3) (.tu (.s "stopped"^.i 0^.ix (.v 2) (.i 1)^.e0)))>=>.en) .en>=>Dh
noncomputable def vX:T:=.aG (.an (.cm .Eq (.ix (.v 1) (.i 0)) (.s "lost")) (.cm .Eq (.ix (.v 2) (.i 0)) (.s "kept"))) (.re (.cm .In (.v 3) (.ll (.tu (.s "kept"^.s "nobody"^.e0)^.tu (.s "stopped"^.i 0^.s "nobody"^.e0)^.e0)))>=>.en) .en>=>zr
noncomputable def rG:T:=.aG (.cm .Eq (.v 2) (.tu (.s "none"^.e0))) (.re (.cm .Eq (.v 3) (.tu (.s "kept"^.s "nobody"^.e0)))>=>.en) .en>=>vX
noncomputable def JN:T:=.re (.or (.cm .Eq (.v 4) (.ll .e0)) (.cm .Eq (.v 4) (.ll (.ix (.v 3) (.i 2)^.e0))))>=>.en
noncomputable def BF:T:=.dp (.v 0) (.ix (.v 3) (.i 2)) (.ix (.v 2) (.i 1))>=>JN
noncomputable def JO:T:=.sc 4 false false ["outer"] [(0,"names"),(2,"alone")] (.ik (.v 0)) (.cm .Eq (.dg (.v 1) (.v 0)) (.ix (.v 2) (.i 1))) (.v 0)>=>BF
noncomputable def JP:T:=.aG (.or (.cm .NotEq (.sl (.v 3) .p0 (.p1 (.i 2))) (.v 2)) (.or (.cm .NotEq (.bf "len" (.v 3^.e0)) (.i 3)) (.cm .NotEq (.d2 (.v 0) (.ix (.v 3) (.i 2)) (.ix (.v 2) (.i 1))) (.ix (.v 2) (.i 1))))) (.re (.b false)>=>.en) .en>=>JO
noncomputable def BG:T:=.aG (.cm .NotEq (.ix (.v 2) (.i 0)) (.s "led")) (.re (.cm .Eq (.v 3) (.v 2))>=>.en) .en>=>JP
noncomputable def mw:T:=.aG (.cm .Eq (.ix (.v 1) (.i 0)) (.s "out")) BG .en>=>rG
noncomputable def gA:FD:=⟨0,0,"_law_fits_form",["names","deed","alone","found"],["names","deed","alone","found","there"],mw⟩
noncomputable def sE:FD:=⟨2,2,"__init__",["self","inner","number","state","over"],["self","inner","number","state","over"],.sf 2 "inner" (.v 0) (.v 1)>=>.sf 2 "number" (.v 0) (.v 2)>=>.sf 2 "state" (.v 0) (.v 3)>=>.sf 2 "over" (.v 0) (.v 4)>=>.en⟩
noncomputable def sI:FD:=⟨1,3,"of_outer",["self","kind","number","place","far"],["self","kind","number","place","far"],.aG (.dn true (.v 2) (.fl 3 "by_number" (.v 0))) (.re .n>=>.en) .en>=>.re (.d1 (.dg (.fl 3 "by_number" (.v 0)) (.v 2)) (.tu (.v 1^.v 3^.v 4^.e0)))>=>.en⟩
noncomputable def xN:FD:=⟨1,4,"lost",["self","teller","kind","number","place","far"],["self","teller","kind","number","place","far"],.re (.me 44 (.v 0) (.tu (.s "lost"^.v 1^.v 2^.v 3^.v 4^.v 5^.e0)^.e0))>=>.en⟩
noncomputable def GB:T:=.re (.me 89 (.v 0) (.v 1^.v 2^.v 3^.v 4^.v 5^.e0))>=>.en
noncomputable def GC:T:=.aG (.me 35 (.fl 3 "pool" (.fl 4 "table" (.v 0))) (.v 4^.e0)) (.re (.me 83 (.v 0) (.v 1^.v 2^.v 4^.e0))>=>.en) .en>=>GB
noncomputable def DM:T:=.aG (.cm .IsNot (.v 6) .n) (.re (.me 74 (.v 0) (.v 6^.v 5^.e0))>=>.en) .en>=>GC
noncomputable def GD:T:=.set 6 (.me 86 (.fl 4 "table" (.v 0)) (.v 1^.v 4^.v 2^.v 3^.e0))>=>DM
noncomputable def xi:FD:=⟨1,4,"come_in",["self","kind","place","far","number","word"],["self","kind","place","far","number","word","talk"],GD⟩
noncomputable def xA:FD:=⟨1,4,"come_by_rule",["self","kind","place","far","number","word"],["self","kind","place","far","number","word","to","state","inner","house","door"],.set 6 (.me 80 (.fl 4 "strangers" (.v 0)) (.v 1^.v 4^.v 2^.e0))>=>.aG (.cm .Is (.v 6) .n) (.re (.tu (.s "kept"^.s "nobody"^.e0))>=>.en) .en>=>.ra⟩
noncomputable def xR:FD:=⟨1,4,"come",["self","kind","place","far","number","word","text"],["self","kind","place","far","number","word","text"],.re (.me 44 (.v 0) (.tu (.s "come"^.v 1^.v 2^.v 3^.v 4^.v 5^.v 6^.e0)^.e0))>=>.en⟩
noncomputable def ye:FD:=⟨1,4,"out",["self","kind","house","door","place","far","word","text"],["self","kind","house","door","place","far","word","text"],.re (.me 44 (.v 0) (.tu (.s "out"^.v 1^.v 2^.v 3^.v 4^.v 5^.v 6^.v 7^.e0)^.e0))>=>.en⟩
end
noncomputable def S:SI where
 gi:=[("GREATEST_HOUSE",99),("GREATEST_DOOR",9999),("GREATEST_PLACE",1000000),("GREATEST_TICKS",1000000),("MOST_SIGNS",40),("FIRST_SIGN",32),("LAST_SIGN",126),("PERCENT_SIGN",37),("WIDEST_STEP",199),("GREATEST_MOST",200),("GREATEST_TIME",1000000),("MOST_COURTS",20)]
 gt:=[("KINDS",["note","line"]),("NOTE_WORDS",["say"]),("LINE_WORDS",["open","say","close","break"]),("LENDINGS",["door","place","talk"]),("SIEVES",["all","place","talk"]),("PICKS",["next","keep"]),("BREAKABLE",["asked","called","up","near","far"])]
 tb:=["DEEDS","TIME_AT"]
 tt:=[("LINE_STEPS",[([some (.inr "house"),none,some (.inr "open")],"asked"),([some (.inr "house"),some (.inr "asked"),some (.inr "open")],"asked"),([some (.inr "house"),some (.inr "called"),some (.inr "open")],"up"),([some (.inr "house"),some (.inr "up"),some (.inr "say")],"up"),([some (.inr "house"),some (.inr "far"),some (.inr "say")],"far"),([some (.inr "house"),some (.inr "up"),some (.inr "close")],"near"),([some (.inr "house"),some (.inr "far"),some (.inr "close")],"shut"),([some (.inr "far"),none,some (.inr "open")],"called"),([some (.inr "far"),some (.inr "called"),some (.inr "open")],"called"),([some (.inr "far"),some (.inr "asked"),some (.inr "open")],"up"),([some (.inr "far"),some (.inr "up"),some (.inr "say")],"up"),([some (.inr "far"),some (.inr "near"),some (.inr "say")],"near"),([some (.inr "far"),some (.inr "up"),some (.inr "close")],"far"),([some (.inr "far"),some (.inr "near"),some (.inr "close")],"shut")])]
 cl:=["Rules","Pool","Talk","Talks","Gate","Yard"]
 fs:=[(0,"many_told"),(0,"standing"),(1,"low"),(1,"high"),(1,"mark"),(1,"taken"),(1,"until"),(2,"inner"),(2,"number"),(2,"state"),(2,"over"),(3,"form"),(3,"pool"),(3,"now"),(3,"by_inner"),(3,"by_number"),(3,"holders"),(3,"numbers"),(4,"form"),(4,"table"),(4,"strangers"),(4,"done"),(4,"wish"),(5,"front"),(5,"courts")]
 bl:=["all","any","bool","int","isinstance","len","list","max","min","ord","range","sorted","str","tuple"]
 fd:=[AO,Bj,Bw,Bi,AH,Bh,Bu,Bs,Br,yh,yc,yb,ya,A9,Bx,AQ,Bv,xC,xq,sF,AN,xV,xD,Bk,xS,xW,AL,AS,AZ,vI,Ba,Bt,A5,A8,AW,yd,xH,xZ,xn,xk,xj,xB,aN,xP,xQ,xK,xM,xl,xr,uO,qC,kc,xf,xc,xX,AV,AR,uR,AK,AU,AI,A4,AY,xI,xg,xJ,xu,xY,sH,xo,xG,mY,xx,xt,xh,xy,xF,xm,qB,AX,xp,xT,sG,xU,gA,sE,sI,xN,xi,xA,xR,ye]
 ln:=aN.N
 lp:=⟨302,38,302,58⟩
 lq:="Talks.pass_by.<locals>.<lambda>"
structure Env where
 tb:Str->bR
 C:Nat->Addr
 cv:List (Addr×Nat)
 lP:Addr:=0
noncomputable def P (e:Env):jc:=⟨S,e.tb,e.C,e.cv,e.lP⟩
noncomputable def rd (Q:ak):RD:={ nx:=λ_ a=>Q .aw a,rt:=Q }
section
variable {e:Env}{n:Nat}{M:RM}{Q:ak}{σ:bw}{rs:LR}
theorem qvl{x:RV}:jj (y::N) (x::rs)=some x::jj N rs:=by unfold jj;rw[bW,bW,Nat.add_sub_add_right];rfl
theorem qvj:jj (y::N) []=none::jj N []:=rfl
theorem qvk:jj [] []= []:=rfl
theorem K4{A B C:Prop}(h:A)(k:B=C):(A/\B)=C:=by rw[eq_true h,true_and,k]
theorem qvv:(rd Q).nx σ M=Q .aw M:=rfl
theorem qvu:(rd Q).rt=Q:=rfl
theorem qD1{i:Nat}:((P e).Gn n).fn i rs M Q=ao (P e) n i rs M Q:=rfl
theorem qDZ{x:Str}:((P e).Gn n).tb x=e.tb x:=rfl
theorem qwr:((P e).Gn n).iQ=e.cv.map λq=>(q.1,ao (P e) n q.2):=rfl
theorem g_C{i:Nat}:((P e).Gn n).C i=e.C i:=rfl
theorem qD0:((P e).Gn n).lP=e.lP:=rfl
theorem us{i:Nat}{rs:LR}(h:S.fd[i]? =some d):ao (P e) (n+1) i rs M Q=(rs.length=d.ps.length/\(tr ((P e).Gn n) d.body).S (rd Q) (jj d.N rs) M):=by rw[Iu (p:=P e) h];rfl
end
noncomputable def lS (e:Env)(a b:RV):RO:=.ins (e.C 0) [("many_told",a),("standing",b)]
noncomputable def dW (e:Env)(a b c d f:RV):RO:=.ins (e.C 1) [("low",a),("high",b),("mark",c),("taken",d),("until",f)]
noncomputable def fV (e:Env)(a b c d:RV):RO:=.ins (e.C 2) [("inner",a),("number",b),("state",c),("over",d)]
noncomputable def bN (e:Env)(a b c d f g h:RV):RO:=.ins (e.C 3) [("form",a),("pool",b),("now",c),("by_inner",d),("by_number",f),("holders",g),("numbers",h)]
noncomputable def bF (e:Env)(a b c d f:RV):RO:=.ins (e.C 4) [("form",a),("table",b),("strangers",c),("done",d),("wish",f)]
noncomputable def hE (e:Env)(a b:RV):RO:=.ins (e.C 5) [("front",a),("courts",b)]
section
variable {e:Env}{n:Nat}{M:RM}{Q:ak}{σ:bw}{rs:LR}{x:Addr}{y:RV}{N:RM->Prop}{t:bJ}{sp:bU}{o a:T}
theorem lI{e:Env}{v:RV}{b:List (Str×RV)}(h:b.lookup f=some v):fO (e.C c) f Q M (some (.ins (e.C c) b))=Q v M:=by rw[Zf,h];rfl
theorem wI{b:List (Str×RV)}(h:Nat.ble (b.length+1) 1000=true):sO (e.C c) f y N x M (some (.ins (e.C c) b))=N (put M x (.ins (e.C c) (kl f y b))):=by rw[XQ];exact K4 (Nat.le_of_ble_eq_true h) rfl
theorem mI{b:List (Str×RV)}(h:b.lookup f=none):mO (e.C c) f sp t σ Q x M (some (.ins (e.C c) b))=t σ M λrs M2=>sp (.ref x::rs) M2 Q:=by rw[Yp];exact K4 h rfl
abbrev lT(e:Env)(c:Nat)(r:RO)(f:Str)(v:RV):Prop:=∀{Q:ak} {M:RM},fO (e.C c) f Q M (some r)=Q v M
abbrev wT(e:Env)(c:Nat)(y:RV)(r r1:RO)(f:Str):Prop:=∀{N:RM->Prop} {x:Addr} {M:RM},sO (e.C c) f y N x M (some r)=N (put M x r1)
abbrev mT(e:Env)(c:Nat)(r:RO)(f:Str):Prop:=∀{sp:bU} {t:bJ} {σ:bw} {Q:ak} {x:Addr} {M:RM},mO (e.C c) f sp t σ Q x M (some r)=t σ M λrs M2=>sp (.ref x::rs) M2 Q
abbrev tT(i c:Nat)(f:Str):Prop:=∀{e:Env} {n:Nat} {M:RM} {Q:ak} {σ:bw} {o a:T},(tr ((P e).Gn n) (.me i o a)).E σ M Q=(tr ((P e).Gn n) o).E σ M (qq (e.C c) f (ao (P e) n i) (tr ((P e).Gn n) a).A σ Q)
abbrev kT(i c:Nat):Prop:=∀{e:Env} {n:Nat} {M:RM} {Q:ak} {σ:bw} {a:T},(tr ((P e).Gn (n+1)) (.mk i a)).E σ M Q=(tr ((P e).Gn (n+1)) a).A σ M λrs M1=>∀x,M1 x=none->ao (P e) n i (.ref x::rs) (put M1 x (.ins (e.C c) [])) λv M2=>v= .aw/\Q (.ref x) M2
abbrev gT(f:Str)(i:Int):Prop:=∀{e:Env} {n:Nat} {M:RM} {Q:ak} {σ:bw},(tr ((P e).Gn n) (.g f)).E σ M Q=Q (.int i) M
abbrev cT(f:Str)(l:az):Prop:=∀{e:Env} {n:Nat} {M:RM} {Q:ak} {σ:bw} {a:T} {neg:Bool},(tr ((P e).Gn n) (.ic neg a f)).E σ M Q=(tr ((P e).Gn n) a).E σ M λx M1=>bK 15 x=true/\Q (.bl (if neg then !inR x (l.map RV.str)else inR x (l.map RV.str))) M1
class cl0 (e:Env) (v0 v1:RV):Prop where
 f0:lT e 0 (lS e v0 v1) "many_told" v0
 f1:lT e 0 (lS e v0 v1) "standing" v1
 f2:mT e 0 (lS e v0 v1) "door_for"
instance {e:Env} {v0 v1:RV}:cl0 e v0 v1:=⟨lI rfl,lI rfl,mI rfl⟩
class cw0 (e:Env) (v0 v1 y:RV):Prop where
 f0:wT e 0 y (lS e v0 v1) (lS e y v1) "many_told"
 f1:wT e 0 y (lS e v0 v1) (lS e v0 y) "standing"
instance {e:Env} {v0 v1 y:RV}:cw0 e v0 v1 y:=⟨wI rfl,wI rfl⟩
class cx0 (e:Env) (y:RV):Prop where
 f0:wT e 0 y (.ins (e.C 0) []) (.ins (e.C 0) [("many_told",y)]) "many_told"
 f1:∀{v0:RV},wT e 0 y (.ins (e.C 0) [("many_told",v0)]) (lS e v0 y) "standing"
instance {e:Env} {y:RV}:cx0 e y:=⟨wI rfl,wI rfl⟩
theorem SJ:mT e 1 (dW e v0 v1 v2 v3 v4) "from_mark":=mI rfl
class cl1 (e:Env) (v0 v1 v2 v3 v4:RV):Prop where
 f0:lT e 1 (dW e v0 v1 v2 v3 v4) "low" v0
 f1:lT e 1 (dW e v0 v1 v2 v3 v4) "high" v1
 f2:lT e 1 (dW e v0 v1 v2 v3 v4) "mark" v2
 f3:lT e 1 (dW e v0 v1 v2 v3 v4) "taken" v3
 f4:lT e 1 (dW e v0 v1 v2 v3 v4) "until" v4
 f5:mT e 1 (dW e v0 v1 v2 v3 v4) "from_mark"
 f6:mT e 1 (dW e v0 v1 v2 v3 v4) "has"
 f7:mT e 1 (dW e v0 v1 v2 v3 v4) "take"
 f8:mT e 1 (dW e v0 v1 v2 v3 v4) "is_free"
 f9:mT e 1 (dW e v0 v1 v2 v3 v4) "give"
 f10:mT e 1 (dW e v0 v1 v2 v3 v4) "picked"
instance {e:Env} {v0 v1 v2 v3 v4:RV}:cl1 e v0 v1 v2 v3 v4:=⟨lI rfl,lI rfl,lI rfl,lI rfl,lI rfl,mI rfl,mI rfl,mI rfl,mI rfl,mI rfl,mI rfl⟩
class cw1 (e:Env) (v0 v1 v2 v3 v4 y:RV):Prop where
 f0:wT e 1 y (dW e v0 v1 v2 v3 v4) (dW e y v1 v2 v3 v4) "low"
 f1:wT e 1 y (dW e v0 v1 v2 v3 v4) (dW e v0 y v2 v3 v4) "high"
 f2:wT e 1 y (dW e v0 v1 v2 v3 v4) (dW e v0 v1 y v3 v4) "mark"
 f3:wT e 1 y (dW e v0 v1 v2 v3 v4) (dW e v0 v1 v2 y v4) "taken"
 f4:wT e 1 y (dW e v0 v1 v2 v3 v4) (dW e v0 v1 v2 v3 y) "until"
instance {e:Env} {v0 v1 v2 v3 v4 y:RV}:cw1 e v0 v1 v2 v3 v4 y:=⟨wI rfl,wI rfl,wI rfl,wI rfl,wI rfl⟩
class cx1 (e:Env) (y:RV):Prop where
 f0:wT e 1 y (.ins (e.C 1) []) (.ins (e.C 1) [("low",y)]) "low"
 f1:∀{v0:RV},wT e 1 y (.ins (e.C 1) [("low",v0)]) (.ins (e.C 1) [("low",v0),("high",y)]) "high"
 f2:∀{v0 v1:RV},wT e 1 y (.ins (e.C 1) [("low",v0),("high",v1)]) (.ins (e.C 1) [("low",v0),("high",v1),("mark",y)]) "mark"
 f3:∀{v0 v1 v2:RV},wT e 1 y (.ins (e.C 1) [("low",v0),("high",v1),("mark",v2)]) (.ins (e.C 1) [("low",v0),("high",v1),("mark",v2),("taken",y)]) "taken"
 f4:∀{v0 v1 v2 v3:RV},wT e 1 y (.ins (e.C 1) [("low",v0),("high",v1),("mark",v2),("taken",v3)]) (dW e v0 v1 v2 v3 y) "until"
instance {e:Env} {y:RV}:cx1 e y:=⟨wI rfl,wI rfl,wI rfl,wI rfl,wI rfl⟩
class cl2 (e:Env) (v0 v1 v2 v3:RV):Prop where
 f0:lT e 2 (fV e v0 v1 v2 v3) "inner" v0
 f1:lT e 2 (fV e v0 v1 v2 v3) "number" v1
 f2:lT e 2 (fV e v0 v1 v2 v3) "state" v2
 f3:lT e 2 (fV e v0 v1 v2 v3) "over" v3
instance {e:Env} {v0 v1 v2 v3:RV}:cl2 e v0 v1 v2 v3:=⟨lI rfl,lI rfl,lI rfl,lI rfl⟩
class cw2 (e:Env) (v0 v1 v2 v3 y:RV):Prop where
 f0:wT e 2 y (fV e v0 v1 v2 v3) (fV e y v1 v2 v3) "inner"
 f1:wT e 2 y (fV e v0 v1 v2 v3) (fV e v0 y v2 v3) "number"
 f2:wT e 2 y (fV e v0 v1 v2 v3) (fV e v0 v1 y v3) "state"
 f3:wT e 2 y (fV e v0 v1 v2 v3) (fV e v0 v1 v2 y) "over"
instance {e:Env} {v0 v1 v2 v3 y:RV}:cw2 e v0 v1 v2 v3 y:=⟨wI rfl,wI rfl,wI rfl,wI rfl⟩
class cx2 (e:Env) (y:RV):Prop where
 f0:wT e 2 y (.ins (e.C 2) []) (.ins (e.C 2) [("inner",y)]) "inner"
 f1:∀{v0:RV},wT e 2 y (.ins (e.C 2) [("inner",v0)]) (.ins (e.C 2) [("inner",v0),("number",y)]) "number"
 f2:∀{v0 v1:RV},wT e 2 y (.ins (e.C 2) [("inner",v0),("number",v1)]) (.ins (e.C 2) [("inner",v0),("number",v1),("state",y)]) "state"
 f3:∀{v0 v1 v2:RV},wT e 2 y (.ins (e.C 2) [("inner",v0),("number",v1),("state",v2)]) (fV e v0 v1 v2 y) "over"
instance {e:Env} {y:RV}:cx2 e y:=⟨wI rfl,wI rfl,wI rfl,wI rfl⟩
class cl3 (e:Env) (v0 v1 v2 v3 v4 v5 v6:RV):Prop where
 f0:lT e 3 (bN e v0 v1 v2 v3 v4 v5 v6) "form" v0
 f1:lT e 3 (bN e v0 v1 v2 v3 v4 v5 v6) "pool" v1
 f2:lT e 3 (bN e v0 v1 v2 v3 v4 v5 v6) "now" v2
 f3:lT e 3 (bN e v0 v1 v2 v3 v4 v5 v6) "by_inner" v3
 f4:lT e 3 (bN e v0 v1 v2 v3 v4 v5 v6) "by_number" v4
 f5:lT e 3 (bN e v0 v1 v2 v3 v4 v5 v6) "holders" v5
 f6:lT e 3 (bN e v0 v1 v2 v3 v4 v5 v6) "numbers" v6
 f7:mT e 3 (bN e v0 v1 v2 v3 v4 v5 v6) "living"
 f8:mT e 3 (bN e v0 v1 v2 v3 v4 v5 v6) "of_inner"
 f9:mT e 3 (bN e v0 v1 v2 v3 v4 v5 v6) "holder_at"
 f10:mT e 3 (bN e v0 v1 v2 v3 v4 v5 v6) "number_of"
 f11:mT e 3 (bN e v0 v1 v2 v3 v4 v5 v6) "held"
 f12:mT e 3 (bN e v0 v1 v2 v3 v4 v5 v6) "pass_by"
 f13:mT e 3 (bN e v0 v1 v2 v3 v4 v5 v6) "is_with"
 f14:mT e 3 (bN e v0 v1 v2 v3 v4 v5 v6) "lend"
 f15:mT e 3 (bN e v0 v1 v2 v3 v4 v5 v6) "lead"
 f16:mT e 3 (bN e v0 v1 v2 v3 v4 v5 v6) "end_lend"
 f17:mT e 3 (bN e v0 v1 v2 v3 v4 v5 v6) "end"
 f18:mT e 3 (bN e v0 v1 v2 v3 v4 v5 v6) "begin"
 f19:mT e 3 (bN e v0 v1 v2 v3 v4 v5 v6) "of_outer"
instance {e:Env} {v0 v1 v2 v3 v4 v5 v6:RV}:cl3 e v0 v1 v2 v3 v4 v5 v6:=⟨lI rfl,lI rfl,lI rfl,lI rfl,lI rfl,lI rfl,lI rfl,mI rfl,mI rfl,mI rfl,mI rfl,mI rfl,mI rfl,mI rfl,mI rfl,mI rfl,mI rfl,mI rfl,mI rfl,mI rfl⟩
class cw3 (e:Env) (v0 v1 v2 v3 v4 v5 v6 y:RV):Prop where
 f0:wT e 3 y (bN e v0 v1 v2 v3 v4 v5 v6) (bN e y v1 v2 v3 v4 v5 v6) "form"
 f1:wT e 3 y (bN e v0 v1 v2 v3 v4 v5 v6) (bN e v0 y v2 v3 v4 v5 v6) "pool"
 f2:wT e 3 y (bN e v0 v1 v2 v3 v4 v5 v6) (bN e v0 v1 y v3 v4 v5 v6) "now"
 f3:wT e 3 y (bN e v0 v1 v2 v3 v4 v5 v6) (bN e v0 v1 v2 y v4 v5 v6) "by_inner"
 f4:wT e 3 y (bN e v0 v1 v2 v3 v4 v5 v6) (bN e v0 v1 v2 v3 y v5 v6) "by_number"
 f5:wT e 3 y (bN e v0 v1 v2 v3 v4 v5 v6) (bN e v0 v1 v2 v3 v4 y v6) "holders"
 f6:wT e 3 y (bN e v0 v1 v2 v3 v4 v5 v6) (bN e v0 v1 v2 v3 v4 v5 y) "numbers"
instance {e:Env} {v0 v1 v2 v3 v4 v5 v6 y:RV}:cw3 e v0 v1 v2 v3 v4 v5 v6 y:=⟨wI rfl,wI rfl,wI rfl,wI rfl,wI rfl,wI rfl,wI rfl⟩
class cx3 (e:Env) (y:RV):Prop where
 f0:wT e 3 y (.ins (e.C 3) []) (.ins (e.C 3) [("form",y)]) "form"
 f1:∀{v0:RV},wT e 3 y (.ins (e.C 3) [("form",v0)]) (.ins (e.C 3) [("form",v0),("pool",y)]) "pool"
 f2:∀{v0 v1:RV},wT e 3 y (.ins (e.C 3) [("form",v0),("pool",v1)]) (.ins (e.C 3) [("form",v0),("pool",v1),("now",y)]) "now"
 f3:∀{v0 v1 v2:RV},wT e 3 y (.ins (e.C 3) [("form",v0),("pool",v1),("now",v2)]) (.ins (e.C 3) [("form",v0),("pool",v1),("now",v2),("by_inner",y)]) "by_inner"
 f4:∀{v0 v1 v2 v3:RV},wT e 3 y (.ins (e.C 3) [("form",v0),("pool",v1),("now",v2),("by_inner",v3)]) (.ins (e.C 3) [("form",v0),("pool",v1),("now",v2),("by_inner",v3),("by_number",y)]) "by_number"
 f5:∀{v0 v1 v2 v3 v4:RV},wT e 3 y (.ins (e.C 3) [("form",v0),("pool",v1),("now",v2),("by_inner",v3),("by_number",v4)]) (.ins (e.C 3) [("form",v0),("pool",v1),("now",v2),("by_inner",v3),("by_number",v4),("holders",y)]) "holders"
 f6:∀{v0 v1 v2 v3 v4 v5:RV},wT e 3 y (.ins (e.C 3) [("form",v0),("pool",v1),("now",v2),("by_inner",v3),("by_number",v4),("holders",v5)]) (bN e v0 v1 v2 v3 v4 v5 y) "numbers"
instance {e:Env} {y:RV}:cx3 e y:=⟨wI rfl,wI rfl,wI rfl,wI rfl,wI rfl,wI rfl,wI rfl⟩
class cl4 (e:Env) (v0 v1 v2 v3 v4:RV):Prop where
 f0:lT e 4 (bF e v0 v1 v2 v3 v4) "form" v0
 f1:lT e 4 (bF e v0 v1 v2 v3 v4) "table" v1
 f2:lT e 4 (bF e v0 v1 v2 v3 v4) "strangers" v2
 f3:lT e 4 (bF e v0 v1 v2 v3 v4) "done" v3
 f4:lT e 4 (bF e v0 v1 v2 v3 v4) "wish" v4
 f5:mT e 4 (bF e v0 v1 v2 v3 v4) "moment"
 f6:mT e 4 (bF e v0 v1 v2 v3 v4) "talks"
 f7:mT e 4 (bF e v0 v1 v2 v3 v4) "deed"
 f8:mT e 4 (bF e v0 v1 v2 v3 v4) "wait"
 f9:mT e 4 (bF e v0 v1 v2 v3 v4) "sent"
 f10:mT e 4 (bF e v0 v1 v2 v3 v4) "picked_for"
 f11:mT e 4 (bF e v0 v1 v2 v3 v4) "told_lost"
 f12:mT e 4 (bF e v0 v1 v2 v3 v4) "answered"
 f13:mT e 4 (bF e v0 v1 v2 v3 v4) "lead_out"
 f14:mT e 4 (bF e v0 v1 v2 v3 v4) "begin_out"
 f15:mT e 4 (bF e v0 v1 v2 v3 v4) "lead_in"
 f16:mT e 4 (bF e v0 v1 v2 v3 v4) "lets_note_in"
 f17:mT e 4 (bF e v0 v1 v2 v3 v4) "sifted"
 f18:mT e 4 (bF e v0 v1 v2 v3 v4) "lost"
 f19:mT e 4 (bF e v0 v1 v2 v3 v4) "come_in"
 f20:mT e 4 (bF e v0 v1 v2 v3 v4) "come_by_rule"
 f21:mT e 4 (bF e v0 v1 v2 v3 v4) "come"
 f22:mT e 4 (bF e v0 v1 v2 v3 v4) "out"
instance {e:Env} {v0 v1 v2 v3 v4:RV}:cl4 e v0 v1 v2 v3 v4:=⟨lI rfl,lI rfl,lI rfl,lI rfl,lI rfl,mI rfl,mI rfl,mI rfl,mI rfl,mI rfl,mI rfl,mI rfl,mI rfl,mI rfl,mI rfl,mI rfl,mI rfl,mI rfl,mI rfl,mI rfl,mI rfl,mI rfl,mI rfl⟩
class cw4 (e:Env) (v0 v1 v2 v3 v4 y:RV):Prop where
 f0:wT e 4 y (bF e v0 v1 v2 v3 v4) (bF e y v1 v2 v3 v4) "form"
 f1:wT e 4 y (bF e v0 v1 v2 v3 v4) (bF e v0 y v2 v3 v4) "table"
 f2:wT e 4 y (bF e v0 v1 v2 v3 v4) (bF e v0 v1 y v3 v4) "strangers"
 f3:wT e 4 y (bF e v0 v1 v2 v3 v4) (bF e v0 v1 v2 y v4) "done"
 f4:wT e 4 y (bF e v0 v1 v2 v3 v4) (bF e v0 v1 v2 v3 y) "wish"
instance {e:Env} {v0 v1 v2 v3 v4 y:RV}:cw4 e v0 v1 v2 v3 v4 y:=⟨wI rfl,wI rfl,wI rfl,wI rfl,wI rfl⟩
class cx4 (e:Env) (y:RV):Prop where
 f0:wT e 4 y (.ins (e.C 4) []) (.ins (e.C 4) [("form",y)]) "form"
 f1:∀{v0:RV},wT e 4 y (.ins (e.C 4) [("form",v0)]) (.ins (e.C 4) [("form",v0),("table",y)]) "table"
 f2:∀{v0 v1:RV},wT e 4 y (.ins (e.C 4) [("form",v0),("table",v1)]) (.ins (e.C 4) [("form",v0),("table",v1),("strangers",y)]) "strangers"
 f3:∀{v0 v1 v2:RV},wT e 4 y (.ins (e.C 4) [("form",v0),("table",v1),("strangers",v2)]) (.ins (e.C 4) [("form",v0),("table",v1),("strangers",v2),("done",y)]) "done"
 f4:∀{v0 v1 v2 v3:RV},wT e 4 y (.ins (e.C 4) [("form",v0),("table",v1),("strangers",v2),("done",v3)]) (bF e v0 v1 v2 v3 y) "wish"
instance {e:Env} {y:RV}:cx4 e y:=⟨wI rfl,wI rfl,wI rfl,wI rfl,wI rfl⟩
class cl5 (e:Env) (v0 v1:RV):Prop where
 f0:lT e 5 (hE e v0 v1) "front" v0
 f1:lT e 5 (hE e v0 v1) "courts" v1
 f2:mT e 5 (hE e v0 v1) "moment"
 f3:mT e 5 (hE e v0 v1) "talks"
 f4:mT e 5 (hE e v0 v1) "deed"
 f5:mT e 5 (hE e v0 v1) "lead_on"
 f6:mT e 5 (hE e v0 v1) "tell_on"
 f7:mT e 5 (hE e v0 v1) "go_by"
 f8:mT e 5 (hE e v0 v1) "write_out"
instance {e:Env} {v0 v1:RV}:cl5 e v0 v1:=⟨lI rfl,lI rfl,mI rfl,mI rfl,mI rfl,mI rfl,mI rfl,mI rfl,mI rfl⟩
class cw5 (e:Env) (v0 v1 y:RV):Prop where
 f0:wT e 5 y (hE e v0 v1) (hE e y v1) "front"
 f1:wT e 5 y (hE e v0 v1) (hE e v0 y) "courts"
instance {e:Env} {v0 v1 y:RV}:cw5 e v0 v1 y:=⟨wI rfl,wI rfl⟩
class cx5 (e:Env) (y:RV):Prop where
 f0:wT e 5 y (.ins (e.C 5) []) (.ins (e.C 5) [("front",y)]) "front"
 f1:∀{v0:RV},wT e 5 y (.ins (e.C 5) [("front",v0)]) (hE e v0 y) "courts"
instance {e:Env} {y:RV}:cx5 e y:=⟨wI rfl,wI rfl⟩
class cm0:Prop where
 f0:kT 17 0
 f1:tT 80 0 "door_for"
 f2:tT 18 1 "from_mark"
 f3:tT 35 1 "has"
 f4:tT 36 1 "take"
 f5:kT 63 1
 f6:tT 64 1 "is_free"
 f7:tT 65 1 "give"
 f8:tT 81 1 "picked"
 f9:kT 85 2
 f10:tT 19 3 "living"
 f11:kT 37 3
 f12:tT 38 3 "of_inner"
 f13:tT 39 3 "holder_at"
 f14:tT 40 3 "number_of"
 f15:tT 41 3 "held"
 f16:tT 42 3 "pass_by"
 f17:tT 66 3 "is_with"
 f18:tT 67 3 "lend"
 f19:tT 68 3 "lead"
 f20:tT 69 3 "end_lend"
 f21:tT 70 3 "end"
 f22:tT 82 3 "begin"
 f23:tT 86 3 "of_outer"
 f24:tT 21 4 "moment"
 f25:tT 22 4 "talks"
 f26:kT 43 4
 f27:tT 44 4 "deed"
 f28:tT 45 4 "wait"
 f29:tT 46 4 "sent"
 f30:tT 47 4 "picked_for"
 f31:tT 48 4 "told_lost"
 f32:tT 71 4 "answered"
 f33:tT 72 4 "lead_out"
 f34:tT 73 4 "begin_out"
 f35:tT 74 4 "lead_in"
 f36:tT 75 4 "lets_note_in"
 f37:tT 83 4 "sifted"
 f38:tT 87 4 "lost"
 f39:tT 88 4 "come_in"
 f40:tT 89 4 "come_by_rule"
 f41:tT 90 4 "come"
 f42:tT 91 4 "out"
 f43:tT 24 5 "moment"
 f44:tT 25 5 "talks"
 f45:tT 51 5 "deed"
 f46:tT 52 5 "lead_on"
 f47:tT 53 5 "tell_on"
 f48:tT 54 5 "go_by"
 f49:kT 76 5
 f50:tT 77 5 "write_out"
 f51:gT "GREATEST_HOUSE" 99
 f52:gT "GREATEST_DOOR" 9999
 f53:gT "GREATEST_PLACE" 1000000
 f54:gT "GREATEST_TICKS" 1000000
 f55:gT "MOST_SIGNS" 40
 f56:gT "FIRST_SIGN" 32
 f57:gT "LAST_SIGN" 126
 f58:gT "PERCENT_SIGN" 37
 f59:gT "WIDEST_STEP" 199
 f60:gT "GREATEST_MOST" 200
 f61:gT "GREATEST_TIME" 1000000
 f62:gT "MOST_COURTS" 20
 f63:cT "KINDS" ["note","line"]
 f64:cT "NOTE_WORDS" ["say"]
 f65:cT "LINE_WORDS" ["open","say","close","break"]
 f66:cT "LENDINGS" ["door","place","talk"]
 f67:cT "SIEVES" ["all","place","talk"]
 f68:cT "PICKS" ["next","keep"]
 f69:cT "BREAKABLE" ["asked","called","up","near","far"]
instance:cm0:=⟨t9 (d:=xC) rfl,bI (d:=xp) rfl,bI (d:=xq) rfl,bI (d:=yd) rfl,bI (d:=xH) rfl,t9 (d:=xI) rfl,bI (d:=xg) rfl,bI (d:=xJ) rfl,bI (d:=xT) rfl,t9 (d:=sE) rfl,bI (d:=sF) rfl,t9 (d:=xZ) rfl,bI (d:=xn) rfl,bI (d:=xk) rfl,bI (d:=xj) rfl,bI (d:=xB) rfl,bI (d:=aN) rfl,bI (d:=xu) rfl,bI (d:=xY) rfl,bI (d:=sH) rfl,bI (d:=xo) rfl,bI (d:=xG) rfl,bI (d:=sG) rfl,bI (d:=sI) rfl,bI (d:=xV) rfl,bI (d:=xD) rfl,t9 (d:=xP) rfl,bI (d:=xQ) rfl,bI (d:=xK) rfl,bI (d:=xM) rfl,bI (d:=xl) rfl,bI (d:=xr) rfl,bI (d:=mY) rfl,bI (d:=xx) rfl,bI (d:=xt) rfl,bI (d:=xh) rfl,bI (d:=xy) rfl,bI (d:=xU) rfl,bI (d:=xN) rfl,bI (d:=xi) rfl,bI (d:=xA) rfl,bI (d:=xR) rfl,bI (d:=ye) rfl,bI (d:=xS) rfl,bI (d:=xW) rfl,bI (d:=kc) rfl,bI (d:=xf) rfl,bI (d:=xc) rfl,bI (d:=xX) rfl,t9 (d:=xF) rfl,bI (d:=xm) rfl,js rfl,js rfl,js rfl,js rfl,js rfl,js rfl,js rfl,js rfl,js rfl,js rfl,js rfl,js rfl,q9 rfl,q9 rfl,q9 rfl,q9 rfl,q9 rfl,q9 rfl,q9 rfl⟩
end
local macro_rules|`(tactic|fail $w:str)=>do
 let e:=w.getString
 unless e.startsWith "ev" do Lean.Macro.throwUnsupported
 let f:=fun(t:String)=>(t.splitOn "|").toArray.map fun s=>Lean.mkIdent s.toName
 let g(s:Lean.Ident):Lean.MacroM _:=`(Lean.Parser.Tactic.simpLemma| $s:ident)
 let a<-(f "cl0.f0|cl0.f1|cl0.f2|cw0.f0|cw0.f1|cx0.f0|cx0.f1|cl1.f0|cl1.f1|cl1.f2|cl1.f3|cl1.f4|cl1.f5|cl1.f6|cl1.f7|cl1.f8|cl1.f9|cl1.f10|cw1.f0|cw1.f1|cw1.f2|cw1.f3|cw1.f4|cx1.f0|cx1.f1|cx1.f2|cx1.f3|cx1.f4|cl2.f0|cl2.f1|cl2.f2|cl2.f3|cw2.f0|cw2.f1|cw2.f2|cw2.f3|cx2.f0|cx2.f1|cx2.f2|cx2.f3|cl3.f0|cl3.f1|cl3.f2|cl3.f3|cl3.f4|cl3.f5|cl3.f6|cl3.f7|cl3.f8|cl3.f9|cl3.f10|cl3.f11|cl3.f12|cl3.f13|cl3.f14|cl3.f15|cl3.f16|cl3.f17|cl3.f18|cl3.f19|cw3.f0|cw3.f1|cw3.f2|cw3.f3|cw3.f4|cw3.f5|cw3.f6|cx3.f0|cx3.f1|cx3.f2|cx3.f3|cx3.f4|cx3.f5|cx3.f6|cl4.f0|cl4.f1|cl4.f2|cl4.f3|cl4.f4|cl4.f5|cl4.f6|cl4.f7|cl4.f8|cl4.f9|cl4.f10|cl4.f11|cl4.f12|cl4.f13|cl4.f14|cl4.f15|cl4.f16|cl4.f17|cl4.f18|cl4.f19|cl4.f20|cl4.f21|cl4.f22|cw4.f0|cw4.f1|cw4.f2|cw4.f3|cw4.f4|cx4.f0|cx4.f1|cx4.f2|cx4.f3|cx4.f4|cl5.f0|cl5.f1|cl5.f2|cl5.f3|cl5.f4|cl5.f5|cl5.f6|cl5.f7|cl5.f8|cw5.f0|cw5.f1|cx5.f0|cx5.f1|cm0.f0|cm0.f1|cm0.f2|cm0.f3|cm0.f4|cm0.f5|cm0.f6|cm0.f7|cm0.f8|cm0.f9|cm0.f10|cm0.f11|cm0.f12|cm0.f13|cm0.f14|cm0.f15|cm0.f16|cm0.f17|cm0.f18|cm0.f19|cm0.f20|cm0.f21|cm0.f22|cm0.f23|cm0.f24|cm0.f25|cm0.f26|cm0.f27|cm0.f28|cm0.f29|cm0.f30|cm0.f31|cm0.f32|cm0.f33|cm0.f34|cm0.f35|cm0.f36|cm0.f37|cm0.f38|cm0.f39|cm0.f40|cm0.f41|cm0.f42|cm0.f43|cm0.f44|cm0.f45|cm0.f46|cm0.f47|cm0.f48|cm0.f49|cm0.f50|cm0.f51|cm0.f52|cm0.f53|cm0.f54|cm0.f55|cm0.f56|cm0.f57|cm0.f58|cm0.f59|cm0.f60|cm0.f61|cm0.f62|cm0.f63|cm0.f64|cm0.f65|cm0.f66|cm0.f67|cm0.f68|cm0.f69|qvl|qvj|qvk|qvv|qvu|qD1|g_C|qD0|qDZ|qwr|Ub|qo5|qoY|qo1|qk8|qnF|qiv|qpl|qvG|qvF|qws|qwm|qwH|qpt|qvR|qpy|qsK|qCa|qCD|qo6|qtr|bE|Kq|qqd|qqe|qsX|qwK|qCg|qo2|quw|u6|qC4|qo0|qCZ|qC6|qDU|KY|qsl|qDS|qvy|qDW|qDV|qte|qCx|qC1|qti|qtj|qpO|qth|qtg|qpL|qpM|qpN|qtf|qtd|qC3|qDR|qpi|qpg|qpj|qph|qpf|Mo|Mn|QL|Mp|QK|QJ|QH|QG|qB5|qqv|qB7|qoW|qCw|Up|qCh|qo3|qC9|qr0|qrZ|qv0|qv1|qvY|qvZ|qnR|qsg|qwh|qwg|qwf|reduceIte|qDT|qCk|qjN|qCu|ql6|t_v|t_i|t_s|t_b|t_n|qB4|qCe|qCy|gd|qCz|qsp|T_v|qED|qEE|qEF|qEA|qEG|qEC|qEB|qEx|qEH|qEy|qEz|kf|B3|qCE|qCd|qsn|qCf|qCm|qB6|qCj|qCi|qCp|qCo|qCl|qB9|qCc|qsm|qCb|qCn|qCA|qCC|qCB|qCt|qCr|qCv|qCs|qCq|qzk|Kr|qC2|qC5|qC7|qC0|qC8|qoV|qCY|vg|qvX|qEh|qEi|qEk|qEl|qEj|qpE|qwU|qwT|qwQ|qwP|Mm").mapM fun s=>`(Lean.Parser.Tactic.simpLemma| ↓$s:ident)
 let b<-(f "List.getElem?_cons_zero|List.getElem?_cons_succ|true_and|Bool.not_true|Bool.not_false|kK|Bool.true_and|Bool.false_and|Bool.and_true|Bool.true_or|Bool.false_or|List.set_cons_zero|List.set_cons_succ|u5|bW|List.length_nil|bX|ui|List.cons_append|kL|Option.join_some|Option.isSome_some|Option.isSome_none|bo|fK|Nat.reduceAdd|iH|Int.reduceBEq|beq_self_eq_true|Int.reduceLE|Int.reduceLT|decide_true|decide_false|z_0|qEg|z_1|qBQ|qEf|z_2|z_3|qEe|z_4|qEd|z_5|qEc|z_6|qEb|z_7|qEa|z_8|qD9|z_9|qD8|and_true").mapM g
 let x<-(f (if e=="evl"then"lg|lp|lo|lop|Nat.reduceLT|put_ne|ne_eq|not_false_eq_true"else"put_ne|ne_eq|not_false_eq_true")).mapM g
 let c:=a++b
 let d:=x++c
 if e=="ev"then`(tactic|simp -implicitDefEqProofs only[$c,*])else`(tactic|simp -implicitDefEqProofs only[*,$d,*])
section
variable {e:Env}{n:Nat}{M:RM}{Q:ak}
theorem T3{i:Int}:ao (P e) (n+1) 0 [.int i] M Q=Q (.bl true) M:=by
 rw[us (i:=0) (d:=AO) rfl];simp only[AO];fail"ev"
theorem lQ{i j k:Int}:ao (P e) (n+2) 60 [.int i,.int j,.int k] M Q=Q (.bl (decide (j<=i)&&decide (i<=k))) M:=by
 rw[us (i:=60) (d:=AI) rfl];simp only[AI];fail"ev";simp only[↓T3];fail"ev";simp only[Md]
theorem T5{i:Int}:ao (P e) (n+3) 1 [.int i] M Q=Q (.bl (decide (0<=i)&&decide (i<=99))) M:=by
 rw[us (i:=1) (d:=Bj) rfl];simp only[Bj];fail"ev";rw[lQ]
theorem uZ{i:Int}:ao (P e) (n+3) 2 [.int i] M Q=Q (.bl (decide (1<=i)&&decide (i<=9999))) M:=by
 rw[us (i:=2) (d:=Bw) rfl];simp only[Bw];fail"ev";rw[lQ]
theorem T4{i:Int}:ao (P e) (n+3) 3 [.int i] M Q=Q (.bl (decide (0<=i)&&decide (i<=1000000))) M:=by
 rw[us (i:=3) (d:=Bi) rfl];simp only[Bi];fail"ev";rw[lQ]
theorem G9{i:Int}:ao (P e) (n+3) 4 [.int i] M Q=Q (.bl (decide (1<=i)&&decide (i<=1000000))) M:=by
 rw[us (i:=4) (d:=AH) rfl];simp only[AH];fail"ev";rw[lQ]
theorem eQ{x:Str}:(bK k (.str x)=true)=True:=by cases k<;>exact eq_true rfl
def Kd(k:Str):Prop:=k= "note"∨k= "line"
def Kw(k w:Str):Prop:=k= "note"/\w= "say"∨k= "line"/\(w= "open"∨w= "say"∨w= "close"∨w= "break")
theorem Kw.kd(h:Kw k w):Kd k:=h.elim (λh=>.inl h.1) λh=>.inr h.1
theorem HE(h:Kd k):ao (P e) (n+1) 6 [.str k] M Q=Q (.bl true) M:=by
 rw[us (i:=6) (d:=Bu) rfl];simp only[Bu];fail"ev";rw[show inR (.str k) [.str "note",.str "line"]=true by rcases h with rfl|rfl<;>decide+kernel,eQ,true_and]
theorem TR(h:Kw k w):ao (P e) (n+1) 30 [.str k,.str w] M Q=Q (.bl true) M:=by
 rw[us (i:=30) (d:=Ba) rfl];simp only[Ba];fail"ev";rcases h with⟨rfl,rfl⟩|⟨rfl,h⟩
 . rw[ag (by decide+kernel),show inR (.str "say") [.str "say"]=true by decide+kernel,eQ,true_and]
 . rw[ab (by decide+kernel),show inR (.str w) [.str "open",.str "say",.str "close",.str "break"]=true by rcases h with rfl|rfl|rfl|rfl<;>decide+kernel,eQ,true_and]
theorem fW:eE M:=trivial
def Tx(x:Str):Prop:=x.length<=40/\(gI x).length<=40/\∀y∈gI x,∃s:Str,y= .str s/\s.length=1/\32<=s.cps.getD 0 0/\s.cps.getD 0 0<=126/\s.cps.getD 0 0≠37
theorem TU{x:Str}(t:Tx x)(h:Q (.bl true) M):ao (P e) (n+2) 8 [.str x] M Q:=by
 obtain⟨b,f,c⟩:=t;rw[us (i:=8) (d:=Br) rfl];simp only[Br];fail"ev";refine⟨bQ b ⋯,?_⟩
 rw[ab (by simp;lia)]
 refine⟨iJ f ⋯,jN (bd:=gk false 1) (λ_=>true) (λ_=>.bl true) fW _ _ (λy a=>⟨[y],rfl,λK h=>h,λ_ K h=>?_⟩) ?_⟩
 . obtain⟨z,rfl,g,k,l,j⟩:=c y a
   fail"ev";rw[us (i:=7) (d:=Bs) rfl];simp only[Bs];fail"ev";refine⟨g,?_⟩;simp only[show(32:Int)<=(z.cps.getD 0 0:Nat) by lia,show((z.cps.getD 0 0:Nat):Int)<=126 by lia,decide_true,↓reduceIte]
   rw[show(((z.cps.getD 0 0:Nat):Int)==37)=false by simpa usingλq:((z.cps.getD 0 0:Nat):Int)=37=>j ∅]
   exact h
 . rw[kL,show((gI x).filter λ_=>true).map (λ_=>RV.bl true)=(List.replicate (gI x).length true).map RV.bl by rw[mF.mpr λ_ _=>rfl,List.map_const',List.map_replicate]]
   refine(Cp (bs:=List.replicate (gI x).length true)).mpr ?_;rw[show(List.replicate (gI x).length true).all id=true by simp]
   exact h
theorem GN{k w x:Str}(l:Kw k w)(hx:Tx x)(h:Q (.bl true) M):ao (P e) (n+3) 61 [.str k,.str w,.str x] M Q:=by
 rw[us (i:=61) (d:=A4) rfl];simp only[A4];fail"ev";rw[HE l.kd,kf,ag rfl,TR l,kf,ag rfl];exact TU hx h
theorem gK{a b c d:Int}(f:a<=b)(g:c<=d):(decide (a<=b)&&decide (c<=d))=true:=by simp[f,g]
theorem By{x:Str}:ao (P e) (n+1) 13 [.tup (.str x::r)] M Q=Q (.str x) M:=by
 rw[us (i:=13) (d:=A9) rfl];simp only[A9];fail"ev";simp only[Zo,kK,↓reduceIte]
def Dd(e:Env)(x:Str)(i:Nat):Prop:=∃a,fb (e.tb "DEEDS") (.inr x)=some (.ref a)/\(a,i)∈e.cv
structure Tb(e:Env):Prop where
 out:Dd e "out" 9
 come:Dd e "come" 10
 lost:Dd e "lost" 11
 wait:Dd e "wait" 12
 t0:fb (e.tb "TIME_AT") (.inr "note")=some (.int 0)
 t1:fb (e.tb "TIME_AT") (.inr "asked")=some (.int 1)
 t2:fb (e.tb "TIME_AT") (.inr "called")=some (.int 1)
 t3:fb (e.tb "TIME_AT") (.inr "up")=some (.int 2)
 t4:fb (e.tb "TIME_AT") (.inr "near")=some (.int 2)
 t5:fb (e.tb "TIME_AT") (.inr "far")=some (.int 2)
theorem qM{x:Str}{i:Nat}(d:Dd e x i)(h:ao (P e) (n+4) i [.tup ps] M Q):ao (P e) (n+5) 14 [.tup (.str x::ps)] M Q:=by
 rw[us (i:=14) (d:=Bx) rfl];simp only[Bx];fail"ev";rw[By];fail"ev";obtain⟨f,a,b⟩:=d;rw[a,Ub,Up,ab (by simp)]
 refine⟨_,aA.mpr ⟨_,b,rfl⟩,?_⟩;fail"ev";rw[Fg];exact h
theorem IF{a b c d:Int}{k w x:Str}(l:Kw k w)(hx:Tx x)(f:0<=a/\a<=99)(g:1<=b/\b<=9999)(j:0<=c/\c<=1000000)(m:1<=d/\d<=9999)(h:Q (.bl true) M):ao (P e) (n+4) 9 [.tup [.str k,.int a,.int b,.int c,.int d,.str w,.str x]] M Q:=by
 rw[us (i:=9) (d:=yh) rfl];simp only[yh];fail"ev";simp only[↓T5,↓uZ,↓T4,↓kf,gK f.1 f.2,gK g.1 g.2,gK j.1 j.2,gK m.1 m.2,↓reduceIte];exact GN l hx h
theorem HF{a b c:Int}{k w x:Str}(l:Kw k w)(hx:Tx x)(f:1<=a/\a<=1000000)(g:1<=b/\b<=9999)(j:1<=c/\c<=9999)(h:Q (.bl true) M):ao (P e) (n+4) 10 [.tup [.str k,.int a,.int b,.int c,.str w,.str x]] M Q:=by
 rw[us (i:=10) (d:=yc) rfl];simp only[yc];fail"ev";simp only[↓G9,↓uZ,↓kf,gK f.1 f.2,gK g.1 g.2,gK j.1 j.2,↓reduceIte];exact GN l hx h
theorem HC{a b c d:Int}(l:Kd k)(f:1<=a/\a<=1000000)(g:1<=b/\b<=9999)(j:1<=c/\c<=1000000)(m:1<=d/\d<=9999)(h:Q (.bl true) M):ao (P e) (n+4) 11 [.tup [.int a,.str k,.int b,.int c,.int d]] M Q:=by
 rw[us (i:=11) (d:=yb) rfl];simp only[yb];fail"ev";simp only[↓G9,↓uZ,↓kf,gK f.1 f.2,gK g.1 g.2,gK j.1 j.2,gK m.1 m.2,↓HE l,↓reduceIte];exact h
theorem HB(a:0<=k)(b:k<=1000000)(h:Q (.bl true) M):ao (P e) (n+4) 12 [.tup [.int k]] M Q:=by
 rw[us (i:=12) (d:=ya) rfl];simp only[ya];fail"ev";rw[us (i:=5) (d:=Bh) rfl];simp only[Bh];fail"ev";rw[lQ];simp only[a,b,decide_true,Bool.and_true];exact h
def Ws(s:Str):Prop:=s= "note"∨s= "asked"∨s= "called"∨s= "up"∨s= "near"∨s= "far"
noncomputable def DR (a b c:Int)(s:Str):Int:=if s= "note" then a else if s= "asked"∨s= "called" then b else c
theorem XC(tb:Tb e){l h le f c b re:RV}{st:Str}(z:Ws st)(a:Q (.int (DR t0 t1 t2 st)) M):ao (P e) (n+1) 33 [.tup [l,h,le,f,c,b,re,.tup [.int t0,.int t1,.int t2,.int t3]],.str st] M Q:=by
 rw[us (i:=33) (d:=A8) rfl];simp only[A8];fail"ev";rcases z with rfl|rfl|rfl|rfl|rfl|rfl
 . rw[tb.t0];fail"ev";exact a
 . rw[tb.t1];fail"ev";exact a
 . rw[tb.t2];fail"ev";exact a
 . rw[tb.t3];fail"ev";exact a
 . rw[tb.t4];fail"ev";exact a
 . rw[tb.t5];fail"ev";exact a
noncomputable def oS:Option Str->RV
 |some x=>.str x
 |none=>.aw
noncomputable def steps:List (TK×Str):=(S.tt.lookup ("LINE_STEPS":Str)).getD []
noncomputable def uL (st:Option Str)(a w:Str):Option Str:=if w= "break" then(if inR (oS st) [.str "asked",.str "called",.str "up",.str "near",.str "far"]=true then some ("shut":Str)else none)else(steps.find? λp=>decide (p.1= [some (.inr a),st.map Sum.inr,some (.inr w)])).map (·.2)
theorem WO{l:List (TK×Str)}:kn l k=oS ((l.find? λp=>decide (p.1=k)).map (·.2)):=by unfold kn;split<;>rename_i h<;>rw[h]<;>rfl
theorem QR{b:G}{x:Str}{a:T}{l:List (TK×Str)}(h:b.S.tt.lookup x=some l):(tr b (.tg x a)).E σ M Q=(tr b a).E σ M (yy l Q):=by
 show(match b.S.tt.lookup x with|some l=>yp l (tr b a).E|none=>hO) σ M Q=_
 rw[h];rfl
theorem SS{st:Option Str}:ao (P e) (n+1) 62 [oS st,.str sd,.str w] M Q=Q (oS (uL st sd w)) M:=by
 rw[us (i:=62) (d:=AY) rfl];simp only[AY];fail"ev";have o1:bK 15 (oS st)=true:=by cases st<;>rfl
 have a:hZ [.str sd,oS st,.str w]=some [some (.inr sd),st.map Sum.inr,some (.inr w)]:=by cases st<;>rfl
 unfold uL
 by_cases h:w= "break"
 . rw[ag (by simpa using h),ag h,o1,eq_self_iff_true,true_and]
   split<;>rfl
 . rw[ab (by simpa using h),ab h]
   rw[QR (l:=steps) (by rfl)]
   fail"ev";show(match hZ [.str sd,oS st,.str w]with|some ks=>Q (kn steps ks) M|none=>False)=_
   rw[a];dsimp only;rw[WO]
noncomputable def nx (k:Str)(st:Option Str)(a w:Str):Option Str:=if k= "note" then(if w=("say":Str)/\(st=none∨st=some ("note":Str))then some ("note":Str)else none)else uL st a w
theorem GV{st:Option Str}:ao (P e) (n+2) 79 [.str k,oS st,.str sd,.str w] M Q=Q (oS (nx k st sd w)) M:=by
 rw[us (i:=79) (d:=AX) rfl];simp only[AX];fail"ev";unfold nx
 by_cases h:k= "note"
 . rw[ag (by simpa using h),ag h];rw[us (i:=34) (d:=AW) rfl];simp only[AW];fail"ev"
   by_cases a:w= "say"
   . subst a
     cases st with
     |none=>rw[show oS none= .aw from rfl];fail"ev";rw[ag (Or.inl trivial)];rfl
     |some s=>
      rw[show oS (some s)= .str s from rfl];fail"ev"
      by_cases b:s= "note"
      . subst b;fail"ev";rw[ag (Or.inr trivial)];rfl
      . rw[ab (by simpa using b),ab (λz=>z.elim (λz=>by cases z) λz=>b (eV z))];rfl
   . rw[ab (by simpa using a),ab (λz=>a z.1)];rfl
 . rw[ab (by simpa using h),ab h]
   exact SS
theorem qwA:ao (P e) (n+2) 79 [.str k,.aw,.str sd,.str w] M Q=Q (oS (nx k none sd w)) M:=GV (st:=none)
theorem LD{k st a w:Str}:ao (P e) (n+2) 79 [.str k,.str st,.str a,.str w] M Q=Q (oS (nx k (some st) a w)) M:=GV (st:=some st)
theorem UJ{l h:Int}(a:1<=l)(b:l<=h)(c:h<=9999)(f:h<=l+199):ao (P e) (n+4) 31 [.int l,.int h] M Q=Q (.bl true) M:=by
 rw[us (i:=31) (d:=Bt) rfl];simp only[Bt];fail"ev";rw[uZ,gK a ∅,kf,ag rfl,uZ,gK ∅ c,kf,ag rfl]
 rw[cu b,cu f];rfl
theorem Tw{a b c d:Int}(k:1<=a/\a<=1000000)(l:1<=b/\b<=1000000)(m:1<=c/\c<=1000000)(f:0<=d/\d<=1000000)(h:Q (.bl true) M):ao (P e) (n+3) 15 [.tup [.int a,.int b,.int c,.int d]] M Q:=by
 rw[us (i:=15) (d:=AQ) rfl];simp only[AQ];fail"ev";rw[show gj [RV.int a,RV.int b,RV.int c,RV.int d] none (some 3)= [RV.int a,RV.int b,RV.int c]from rfl]
 refine⟨(by decide:3<sizeLine),jN (bd:=gk false 1) (λ_=>true) (λ_=>.bl true) fW _ _ (λx hx=>⟨[x],rfl,λK h=>h,λ_ K h=>?_⟩) ?_⟩
 . have:∃i:Int,x= .int i/\1<=i/\i<=1000000:=by
    simp only[fC,List.not_mem_nil,or_false]at hx;rcases hx with rfl|rfl|rfl
    . exact⟨a,rfl,k⟩
    . exact⟨b,rfl,l⟩
    . exact⟨c,rfl,m⟩
   obtain⟨i,rfl,g,j⟩:=this;fail"ev";rw[lQ,gK g j];exact h
 . refine(Cp (bs:=[true,true,true])).mpr ?_
   show wV _ Q (.bl true) M;rw[kf,ag rfl,lQ,gK f.1 f.2];exact h
theorem WR{x:Str}(h:x= "door"∨x= "place"∨x= "talk"):inR (.str x) [.str "door",.str "place",.str "talk"]=true:=by rcases h with rfl|rfl|rfl<;>decide+kernel
theorem Vx{x:Str}(h:x= "all"∨x= "place"∨x= "talk"):inR (.str x) [.str "all",.str "place",.str "talk"]=true:=by rcases h with rfl|rfl|rfl<;>decide+kernel
theorem W9{x:Str}(h:x= "next"∨x= "keep"):inR (.str x) [.str "next",.str "keep"]=true:=by rcases h with rfl|rfl<;>decide+kernel
structure Fm where
 low:Int
 high:Int
 lend:Str
 sieve:Str
 pick:Str
 most:Int
 renew:Bool
 t0:Int
 t1:Int
 t2:Int
 t3:Int
noncomputable def Fm.times (f:Fm):RV:=.tup [.int f.t0,.int f.t1,.int f.t2,.int f.t3]
noncomputable def Fm.r (f:Fm):RV:=.tup [.int f.low,.int f.high,.str f.lend,.str f.sieve,.str f.pick,.int f.most,.bl f.renew,f.times]
structure Fm.Ok(f:Fm):Prop where
 lo:1<=f.low
 le:f.low<=f.high
 hi:f.high<=9999
 wide:f.high<=f.low+199
 lend:f.lend= "door"∨f.lend= "place"∨f.lend= "talk"
 sieve:f.sieve= "all"∨f.sieve= "place"∨f.sieve= "talk"
 pick:f.pick= "next"∨f.pick= "keep"
 most:1<=f.most/\f.most<=200
 t0:1<=f.t0/\f.t0<=1000000
 t1:1<=f.t1/\f.t1<=1000000
 t2:1<=f.t2/\f.t2<=1000000
 t3:0<=f.t3/\f.t3<=1000000
theorem Bf{f:Fm}(a:f.Ok)(h:Q (.bl true) M):ao (P e) (n+5) 16 [f.r] M Q:=by
 unfold Fm.r;rw[us (i:=16) (d:=Bv) rfl];simp only[Bv];unfold Ew;fail"ev";unfold E9;fail"ev";unfold E8;fail"ev";simp only[WR a.lend,Vx a.sieve,W9 a.pick,eQ,↓reduceIte,Bool.not_true,kK,true_and];unfold E7;fail"ev";rw[lQ,gK a.most.1 a.most.2];fail"ev";unfold E6;fail"ev";rw[UJ a.lo a.le a.hi a.wide,kf,ag rfl];exact Tw a.t0 a.t1 a.t2 a.t3 h
theorem VS{a:Str}{l h o m k re r ki f g pl j:RV}:ao (P e) (n+1) 32 [.tup [l,h,.str a,o,m,k,re,r],.tup [ki,f,g,pl,j]] M Q=
 Q (if a= "door" then .tup [ki,f,g,.aw,.aw]else if a= "place" then .tup [ki,f,g,pl,.aw]else .tup [ki,f,g,pl,j]) M:=by
 rw[us (i:=32) (d:=A5) rfl];simp only[A5];unfold FW;fail"ev";unfold FV;fail"ev";unfold FU;fail"ev";simp only[eW]
 by_cases b:a= "door"
 . rw[ag b,ag b]
 . rw[ab b,ab b]
   unfold FT;fail"ev";simp only[eW]
   by_cases c:a= "place"
   . rw[ag c,ag c]
   . rw[ab c,ab c]
     unfold FR;fail"ev"
end
section
variable {M:RM}
theorem qwu{x a:Addr}(hx:M x=none)(h:M a=some o):a≠x:=λz=>by
 rw[z,hx]at h;cases h
theorem Bn{x a:Addr}(h:put M a o x=none):M x=none/\x≠a:=by
 unfold put at h
 by_cases z:x=a
 . rw[ag z]at h;cases h
 . rw[ab z]at h;exact⟨h,z⟩
theorem ym{a b:Addr}(h:a≠b):put (put M a o) b o'=put (put M b o') a o:=by
 funext c;unfold put
 by_cases d:c=b
 . rw[ag d,ab (by rw[d];exactλz=>h z.symm),ag d]
 . rw[ab d,ab d]
end
section
noncomputable def lay (ad:Nat->Addr):Nat->List RO->RM->RM
 |_,[],M=>M
 |k,o::r,M=>put (lay ad (k+1) r M) (ad k) o
def Ij(ad:Nat->Addr)(n:Nat):Prop:=∀i j,i<n->j<n->ad i=ad j->i=j
variable {ad:Nat->Addr}{M:RM}{os:List RO}{o:RO}{i k:Nat}{x:Addr}
theorem Jl:∀{os k i},Ij ad (k+os.length)->i<os.length->lay ad k os M (ad (k+i))=os[i]?
 |o::r,k,0,_,_=>bo
 |o::r,k,i+1,H,h=>by
  have h:i<r.length:=Nat.lt_of_succ_lt_succ h;have e1:k+(i+1)=k+1+i:=by lia
  have a:Ij ad (k+1+r.length):=by rw[bW]at H;rwa [show k+1+r.length=k+(r.length+1) by lia]
  rw[e1];refine(put_ne λz=>?_).trans ((Jl a h).trans rfl)
  have:=a _ _ ∅ ∅ z
  lia
theorem Jk:∀{os k i},Ij ad (k+os.length)->i<os.length->put (lay ad k os M) (ad (k+i)) o=lay ad k (os.set i o) M
 |_::r,k,0,_,_=>fK
 |u::r,k,i+1,H,h=>by
  have h:i<r.length:=Nat.lt_of_succ_lt_succ h;have e1:k+(i+1)=k+1+i:=by lia
  have a:Ij ad (k+1+r.length):=by rw[bW]at H;rwa [show k+1+r.length=k+(r.length+1) by lia]
  rw[e1];show put (put (lay ad (k+1) r M) (ad k) u) (ad (k+1+i)) o=put (lay ad (k+1) (r.set i o) M) (ad k) u;rw[ym λz=>by have:=a _ _ ∅ ∅ z;lia,Jk a h]
theorem Kx:∀{os k},(∀i,i<os.length->ad (k+i)≠x)->lay ad k os M x=M x
 | [],_,_=>rfl
 |o::r,k,h=>(put_ne (cx (h 0 (Nat.succ_pos _)))).trans (Kx λi hi=>by
  have:=h (i+1) (Nat.succ_lt_succ hi)
  rwa [show k+1+i=k+(i+1) by lia])
noncomputable abbrev laid (ad:Nat->Addr) (os:List RO) (M:RM):RM:=lay ad 0 os M
theorem lg(H:Ij ad os.length)(h:i<os.length):lay ad 0 os M (ad i)=os[i]?:=by
 have:=Jl (M:=M) (k:=0) (i:=i) (by rwa [iH]) h
 rwa [iH]at this
theorem lp(H:Ij ad os.length)(h:i<os.length):put (lay ad 0 os M) (ad i) o=lay ad 0 (os.set i o) M:=by
 have:=Jk (M:=M) (o:=o) (k:=0) (i:=i) (by rwa [iH]) h
 rwa [iH]at this
theorem Cc:∀{os k},(∀j,j<k+os.length->ad j=ad' j)->lay ad k os M=lay ad' k os M
 | [],_,_=>rfl
 |o::r,k,h=>by
  show put (lay ad (k+1) r M) (ad k) o=put (lay ad' (k+1) r M) (ad' k) o;rw[Cc (os:=r) (k:=k+1) λj a=>h j (by rw[bW];lia),h k (by rw[bW];lia)]
theorem m7:∀{os k},lay ad k (os++ [o]) M=lay ad k os (put M (ad (k+os.length)) o)
 | [],_=>rfl
 |u::r,k=>by
  show put (lay ad (k+1) (r++ [o]) M) (ad k) u=put (lay ad (k+1) r (put M (ad (k+(r.length+1))) o)) (ad k) u;rw[m7,show k+1+r.length=k+(r.length+1) by lia]
theorem BM:∀{os k},(∀i,i<os.length->ad (k+i)≠x)->put (lay ad k os M) x o=lay ad k os (put M x o)
 | [],_,_=>rfl
 |u::r,k,h=>by
  show put (put (lay ad (k+1) r M) (ad k) u) x o=put (lay ad (k+1) r (put M x o)) (ad k) u;rw[ym (a:=ad k) (h 0 (Nat.succ_pos _)),BM λi hi=>by
   have:=h (i+1) (Nat.succ_lt_succ hi)
   rwa [show k+1+i=k+(i+1) by lia]]
theorem BA:∀{os k},lay ad k os M x=none->M x=none
 | [],_,h=>h
 |_::_,_,h=>BA (Bn h).1
theorem Cd(H:Ij ad os.length)(h:i<os.length):∃u,lay ad 0 os M (ad i)=some u:=⟨os[i],by rw[lg H h];simp[h]⟩
theorem Qt(H:Ij ad k)(g:os.length=k)(hx:lay ad 0 os M x=none):∃a,(∀j,j<k->ad j=a j)/\a k=x/\Ij a (k+1)/\∀o,put (lay ad 0 os M) x o=lay a 0 (os++ [o]) M:=by
 subst g;have c:∀j,j<os.length->ad j≠x:=λj b z=>by
  obtain⟨u,e⟩:=Cd (M:=M) H b;rw[z,hx]at e;cases e
 have d:∀j,j<os.length->ad j=(λj=>if j=os.length then x else ad j) j:=λj b=>by
  show _=if j=os.length then x else ad j
  rw[ab ∅]
 have f:(λj=>if j=os.length then x else ad j) os.length=x:=ag rfl
 refine⟨λj=>if j=os.length then x else ad j,d,f,λi j hi b z=>?_,λo=>?_⟩
 . dsimp only at z
   by_cases p:i=os.length<;>by_cases q:j=os.length
   . lia
   . rw[ag p,ab q]at z;exact aU z.symm (c j ∅)
   . rw[ab p,ag q]at z;exact aU z (c i ∅)
   . rw[ab p,ab q]at z;exact H i j ∅ ∅ z
 . rw[m7,iH,ag rfl,BM λj b=>by rw[iH];exact c j b]
   exact Cc λj b=>d j ∅
end
section
variable {κ κ' β:Type}[DecidableEq κ][DecidableEq κ']{g:κ->κ'}{v:β->RV}
noncomputable def enc (g:κ->κ')(v:β->RV)(l:List (κ×β)):List (κ'×RV):=l.map λx=>(g x.1,v x.2)
theorem qP(c:∀a b,g a=g b->a=b):∀{l:List (κ×β)},lk (enc g v l) (g k)=(lk l k).map v
 | []=>rfl
 |(j,x)::r=>by
  show lk ((g j,v x)::enc g v r) (g k)=_;rw[fM,fM]
  by_cases h:j=k
  . rw[ag h,ag (by rw[h])];rfl
  . rw[ab h,ab (λz=>h (c _ _ z))];exact qP c
theorem lX(hg:∀a b,g a=g b->a=b){l:List (κ×β)}:pt (enc g v l) (g k) (v y)=enc g v (pt l k y):=by
 have e1:((enc g v l).any λkv=>decide (kv.1=g k))=(l.any λkv=>decide (kv.1=k)):=by
  unfold enc;rw[List.any_map];congr 1;funext x;exact kM.mpr ⟨λz=>hg _ _ z,λz=>by show g x.1=g k;rw[z]⟩
 unfold pt;rw[e1];split
 . unfold enc
   rw[bp,bp];refine jx λx _=>?_
   show(if g x.1=g k then(g x.1,v y)else(g x.1,v x.2))=(g (if x.1=k then(x.1,y)else x).1,v (if x.1=k then(x.1,y)else x).2)
   by_cases h:x.1=k
   . rw[ag h,ag (by rw[h])]
   . rw[ab h,ab (λz=>h (hg _ _ z))]
 . unfold enc;rw[eC];rfl
theorem qQ(c:∀a b,g a=g b->a=b){l:List (κ×β)}:dr (enc g v l) (g k)=enc g v (dr l k):=by
 unfold dr enc;rw[nO];congr 2;funext x;exact kM.mpr ⟨λz q=>z (by rw[<-q]),λz q=>z (c _ _ q)⟩
theorem JU{l:List (κ×β)}(h:lk l k=none):dr l k=l:=by
 unfold dr;refine mF.mpr λx hx=>?_
 unfold lk at h;rw[Option.map_eq_none_iff,jZ]at h;have:=h x hx;simpa using this
theorem jM{l:List (κ×β)}:(enc g v l).length=l.length:=by simp[enc]
theorem YR{l:List (κ×β)}:(pt l k y).length<=l.length+1:=by
 unfold pt;split<;>simp
theorem m9{l:List (κ×β)}(h:lk l k=none):pt l k y=l++ [(k,y)]:=by
 unfold pt;rw[ab];intro z;obtain⟨x,hx,e⟩:=List.any_eq_true.mp z;unfold lk at h;rw[Option.map_eq_none_iff,jZ]at h;exact h x hx e
theorem iZ(a b)(h:(Sum.inl a:Key)= .inl b):a=b:=Sum.inl.inj h
theorem lZ(a b:TK)(h:id a=id b):a=b:=h
end
section
variable {e:Env}{n:Nat}{M:RM}{Q:ak}
structure aI where
 low:Int
 high:Int
 mark:Int
 taken:List (Int×Unit)
 rO:List (Int×Int)
noncomputable def eT (l:List (Int×Unit)):bR:=enc Sum.inl (λ_=>.bl true) l
noncomputable def eU (l:List (Int×Int)):bR:=enc Sum.inl RV.int l
structure yJ(e:Env)(M:RM)(a ta un:Addr)(p:aI):Prop where
 o:M a=some (dW e (.int p.low) (.int p.high) (.int p.mark) (.ref ta) (.ref un))
 t:M ta=some (.dk (eT p.taken))
 u:M un=some (.dk (eU p.rO))
noncomputable def aI.has (p:aI)(i:Int):Bool:=decide (p.low<=i)&&decide (i<=p.high)
noncomputable def aI.free (p:aI)(i m:Int):Bool:=p.has i&& !(lk p.taken i).isSome&&(match lk p.rO i with|none=>true|some u=>decide (u<=m))
theorem Lm{l:List (Int×Unit)}{i:Int}:(lk (eT l) (.inl i)).isSome=(lk l i).isSome:=by
 unfold eT;rw[qP iZ];simp
theorem tj{l:List (Int×Int)}{i:Int}:lk (eU l) (.inl i)=(lk l i).map RV.int:=qP iZ
theorem LF{a:Addr}{l h i:Int}{mk b un:RV}(o:M a=some (dW e (.int l) (.int h) mk b un)):ao (P e) (n+1) 35 [.ref a,.int i] M Q=Q (.bl (decide (l<=i)&&decide (i<=h))) M:=by
 rw[us (i:=35) (d:=yd) rfl];simp only[yd];fail"ev";rw[o];fail"ev";rw[o];fail"ev";exact Md
theorem Hm{a c un:Addr}{p:aI}{i m:Int}(h:yJ e M a c un p):ao (P e) (n+2) 64 [.ref a,.int i,.int m] M Q=Q (.bl (p.free i m)) M:=by
 obtain⟨b,f,g⟩:=h;rw[us (i:=64) (d:=xg) rfl];simp only[xg];fail"evs";rw[LF b];fail"evs";rw[Lm,tj];unfold aI.free aI.has;cases(decide (p.low<=i)&&decide (i<=p.high))<;>cases(lk p.taken i).isSome<;>cases lk p.rO i<;>simp[wO,B3,eO]<;>rfl
noncomputable def aI.line (p:aI):List Int:=(List.range (p.high+1-p.mark).toNat).map (λ(i:Nat)=>p.mark+(i:Int))++(List.range (p.mark-p.low).toNat).map λ(i:Nat)=>p.low+(i:Int)
structure aI.Ok(p:aI):Prop where
 lo:1<=p.low
 mlo:p.low<=p.mark
 mhi:p.mark<=p.high
 hi:p.high<=9999
 wide:p.high<=p.low+199
theorem IL{a:Int}:yo a k=((List.range k).map λ(i:Nat)=>a+(i:Int)).map RV.int:=by unfold yo;rw[bp];rfl
theorem Vo(p:aI)(a:p.Ok):p.line.length<=200:=by
 obtain⟨o1,b,c,d,f⟩:=a;unfold aI.line;simp;lia
theorem Ta{a g un:Addr}{p:aI}(c:p.Ok)(h:yJ e M a g un p)(f:Q (.ls (p.line.map RV.int)) M):ao (P e) (n+1) 18 [.ref a] M Q:=by
 have b:=Vo p c;obtain⟨j,k,l⟩:=h;obtain⟨o1,m,o,r,s⟩:=c;rw[us (i:=18) (d:=xq) rfl];simp only[xq];fail"evs";rw[IL,IL,<-eC];refine⟨∅,∅,∅,∅,?_,f⟩
 unfold aI.line at b;simp only[aW,fF]at b ⊢;exact bQ b ⋯
noncomputable def aI.pick (p:aI)(a:Bool)(door m:Int):Option Int:=if(a&&p.free door m)=true then some door else p.line.find? λi=>p.free i m
noncomputable def rD:Option Int->RV
 |some i=>.int i
 |none=>.aw
theorem VD{a ta un:Addr}{p:aI}{pick:Str}(ok:p.Ok)(h:yJ e M a ta un p)(hq:Q (rD (p.pick (pick== "keep") d m)) M):ao (P e) (n+3) 81 [.ref a,.str pick,.int d,.int m] M Q:=by
 obtain⟨ho,ht,hu⟩:=id h;have rest:∀(xs:List Int) (z:Option RV),Q (rD (xs.find? λi=>p.free i m)) M->jQ (jU 4) (tr ((P e).Gn (n+2)) (.se (.aG (.me 64 (.v 0) (.ec (.v 4) (.ec (.v 3) .e0))) (.se (.re (.v 4)) .en) .en) .en)).S
  { nx:=(tr ((P e).Gn (n+2)) (.se (.re .n) .en)).S (rd Q),rt:=Q,bk:=(rd Q).bk,ct:=(rd Q).ct } eE id (xs.map RV.int) [some (.ref a),some (.str pick),some (.int d),some (.int m),z] M:=by
  intro xs
  induction xs with
  |nil=>intro z hq;refine⟨fW,?_⟩;show Q .aw M;exact hq
  |cons x xs ih=>
   intro z hq;refine⟨fW,?_⟩;unfold jU;fail"evs";rw[Hm h,gd];rw[mM]at hq;cases e1:p.free x m with
   |true=>rw[e1]at hq;rw[ag rfl];first|exact hq|exact And.intro fW hq
   |false=>rw[e1]at hq;rw[ab (by simp)];exact ih _ hq
 have tail:Q (rD (p.line.find? λi=>p.free i m)) M->ao (P e) (n+2) 18 [.ref a] M (kS λxs ok un M1=>jQ (jU 4) (tr ((P e).Gn (n+2)) (.se (.aG (.me 64 (.v 0) (.ec (.v 4) (.ec (.v 3) .e0))) (.se (.re (.v 4)) .en) .en) .en)).S
  { nx:=(tr ((P e).Gn (n+2)) (.se (.re .n) .en)).S (rd Q),rt:=Q,bk:=(rd Q).bk,ct:=(rd Q).ct } ok un xs [some (.ref a),some (.str pick),some (.int d),some (.int m),none] M1):=λhq=>Ta ok h (rest _ _ hq)
 rw[us (i:=81) (d:=xT) rfl];simp only[xT];fail"evs";unfold aI.pick at hq;cases e1:(pick== "keep")with
 |false=>
  rw[e1]at hq;simp only[Bool.false_and,kK,↓reduceIte]at hq ⊢;exact tail hq
 |true=>
  rw[e1]at hq;simp only[Bool.true_and,↓reduceIte]at hq ⊢;rw[Hm h,gd];cases e2:p.free d m with
  |true=>rw[e2]at hq;rw[ag rfl];exact hq
  |false=>
   rw[e2]at hq;simp only[kK,↓reduceIte]at hq ⊢;rw[ho,SJ];exact tail hq
theorem uU{a:Addr}(h:M a=some o):put M a o=M:=by
 funext b;unfold put;by_cases z:b=a
 . rw[ag z,z,h]
 . rw[ab z]
end
section
theorem CG[DecidableEq κ]{l:List (κ×β)}:lk (pt l k y) k=some y:=by
 induction l with
 |nil=>show lk [(k,y)] k=_;rw[fM,ag rfl]
 |cons x r ih=>
  obtain⟨j,z⟩:=x;unfold pt at ih ⊢;rw[kN]
  by_cases h:j=k
  . rw[ag (by simp[h])]
    show lk ((if(j,z).1=k then((j,z).1,y)else(j,z))::_) k=_
    rw[ag h,fM,ag h]
  . rw[show(decide ((j,z).1=k)||r.any λkv=>decide (kv.1=k))=r.any λkv=>decide (kv.1=k) by simp[h]]
    split
    . rename_i h2
      rw[ag h2]at ih;show lk ((if(j,z).1=k then((j,z).1,y)else(j,z))::_) k=_
      rw[ab h,fM,ab h];exact ih
    . rename_i h2
      rw[ab h2]at ih;show lk ((j,z)::(r++ [(k,y)])) k=_;rw[fM,ab h];exact ih
theorem Cm[DecidableEq κ]:∀{l:List (κ×β)},(lk l k).isSome=decide (k∈l.map (·.1))
 | []=>by simp[lk]
 |(j,y)::l=>by
  rw[fM]
  by_cases h:j=k
  . rw[ag h];simp[h]
  . rw[ab h,Cm (l:=l)]
    simp[cx h]
theorem ml[DecidableEq κ]:∀{l:List (κ×β)} {x:κ×β},(l.map (·.1)).Nodup->x∈l->lk l x.1=some x.2
 |(j,y)::l,x,nd,hx=>by
  rw[fM];rw[bX,iL]at nd;rcases fC.mp hx with rfl|hx
  . rw[ag rfl]
  . have a:j∉l.map (·.1):=nd.1
    rw[ab (λ(z:j=x.1)=>a (by rw[z];exact wt (f:=(·.1)) hx)),ml nd.2 hx]
theorem et{g:α->β}:∀{l:List α} {a b:α},(l.map g).Nodup->a∈l->b∈l->g a=g b->a=b
 |z::l,a,b,nd,c,d,h=>by
  rw[bX,iL]at nd;rcases fC.mp c with e|c<;>rcases fC.mp d with f|d
  . rw[e,f]
  . exact aU (aA.mpr ⟨b,d,by rw[<-h,e]⟩) nd.1
  . exact aU (aA.mpr ⟨a,c,by rw[h,f]⟩) nd.1
  . exact et nd.2 c d h
theorem aQ[DecidableEq κ]{l:List (κ×β)}:lk l k=none↔k∉l.map (·.1):=by
 have:=Cm (l:=l) (k:=k);cases e:lk l k with
 |none=>rw[e]at this;simpa using this.symm
 |some y=>rw[e]at this;simpa using this.symm
theorem gB[DecidableEq κ]:∀{l:List (κ×β)},lk l k=some y->(k,y)∈l
 |(j,z)::l,h=>by
  rw[fM]at h
  by_cases q:j=k
  . rw[ag q]at h;cases h;rw[q];exact .head _
  . rw[ab q]at h;exact .tail _ (gB h)
theorem Co[DecidableEq κ]:∀{l:List (κ×β)} {r:List (κ×β)},lk (l++r) k=match lk l k with|some y=>some y|none=>lk r k
 | [],r=>rfl
 |(j,y)::l,r=>by
  show lk ((j,y)::(l++r)) k=_;rw[fM,fM]
  by_cases h:j=k
  . rw[ag h,ag h]
  . rw[ab h,ab h];exact Co
theorem sL{l:List α}{a:α}(h:l.Nodup)(b:a∉l):(l++ [a]).Nodup:=by
 rw[List.nodup_append];refine⟨h,by simp,λx hx y c=>?_⟩
 cases eG.mp c;exactλz=>b (z ▸ hx)
theorem yI{κ b c:Type}[DecidableEq κ]{a:Type}[DecidableEq a]{g:b->a}{h:b->c}{l:List b}{k:a}:dr (l.map λx=>(g x,h x)) k=(l.filter λx=>decide (g x≠k)).map λx=>(g x,h x):=by
 unfold dr;rw[nO];rfl
theorem yK[DecidableEq κ]{l:List (κ×β)}(h:k∈l.map (·.1)):(lk l k).isSome=true:=by
 cases q:lk l k with
 |none=>exact aU h (aQ.mp q)
 |some _=>rfl
theorem sJ{g:α->β}{l:List α}{p:α->Bool}(h:(l.map g).Nodup):((l.filter p).map g).Nodup:=h.sublist (List.filter_sublist.map _)
theorem qwc[DecidableEq κ]{l:List (κ×β)}(h:j≠k):lk (dr l k) j=lk l j:=by
 unfold dr
 induction l with
 |nil=>rfl
 |cons p l ih=>
  rw[ju];split
  . rw[fM,fM,ih]
  . rename_i z
    have:p.1=k:=by simpa using z
    rw[fM,ab (λq=>h (q.symm.trans this)),ih]
theorem GO{g:α->β}:∀{c:List β} {l:List α},c.Perm (l.map g)->∃l2:List α,l2.Perm l/\l2.map g=c
 | [],l,h=>by
  have:l= []:=by simpa using h.nil_eq
  exact⟨[],by rw[this],rfl⟩
 |b::c,l,h=>by
  obtain⟨a,e,rfl⟩:=aA.mp (h.mem_iff.mp (.head _));obtain⟨s,t,rfl⟩:=List.append_of_mem e;have d:c.Perm ((s++t).map g):=by
   refine List.Perm.cons_inv (a:=g a) (h.trans ?_);rw[eC,bX,eC];exact List.perm_middle
  obtain⟨l2,f,rfl⟩:=GO d;exact⟨a::l2,(f.cons a).trans List.perm_middle.symm,rfl⟩
theorem sub_len:∀{l r:List Int},l.Nodup->(∀x∈l,x∈r)->l.length<=r.length
 | [],_,_,_=>j3 _
 |x::l,r,nd,h=>by
  rw[iL]at nd;have d:=sub_len (l:=l) (r:=r.erase x) nd.2 λy c=>(List.mem_erase_of_ne (a:=y) (b:=x) (λ(z:y=x)=>nd.1 (z ▸ c))).mpr (h y (.tail _ c))
  have e:=List.length_erase_of_mem (h x (.head _));have f:=List.length_pos_of_mem (h x (.head _));rw[bW];lia
theorem qv3{a:Int}{n:Nat}:((List.range n).map λ(j:Nat)=>a+(j:Int)).Nodup:=by
 rw[List.nodup_iff_pairwise_ne,nR];refine List.nodup_range.imp λh z=>h ?_
 lia
theorem Vn[DecidableEq κ](h:j≠k):∀{l:List (κ×β)},lk (pt l k y) j=lk l j:=by
 intro l;unfold pt;split
 . rename_i a
   clear a
   induction l with
   |nil=>rfl
   |cons p l ih=>
    rw[bX,fM]
    by_cases z:p.1=k
    . rw[ag z]
      show(if p.1=j then _ else _)=_
      rw[ab (λq=>h (q.symm.trans z)),fM,ab (λq=>h (q.symm.trans z))]
      exact ih
    . rw[ab z,fM]
      split
      . rfl
      . exact ih
 . rw[Co]
   cases lk l j with
   |some y=>rfl
   |none=>show lk [(k,y)] j=none;rw[fM,ab (cx h)];rfl
end
section
structure ba where
 kind:Str
 house:Int
 door:Int
 place:Int
 far:Int
noncomputable def ba.k (i:ba):TK:=[some (.inr i.kind),some (.inl i.house),some (.inl i.door),some (.inl i.place),some (.inl i.far)]
noncomputable def ba.r (i:ba):RV:=.tup [.str i.kind,.int i.house,.int i.door,.int i.place,.int i.far]
noncomputable def oK (k:Str)(p f:Int):TK:=[some (.inr k),some (.inl p),some (.inl f)]
noncomputable abbrev bA (i:ba):TK:=oK i.kind i.place i.far
noncomputable def bD (f:Fm)(i:ba):TK:=if f.lend= "door" then [some (.inr i.kind),some (.inl i.house),some (.inl i.door),none,none]else if f.lend= "place" then [some (.inr i.kind),some (.inl i.house),some (.inl i.door),some (.inl i.place),none]else i.k
theorem JA:∀k,hZ (k.map oR)=some k
 | []=>rfl
 |x::r=>by
  have e1:nu (oR x)=some x:=by cases x with|none=>rfl|some k=>cases k<;>rfl
  show(match nu (oR x),hZ (r.map oR)with|some k,some ks=>some (k::ks)|_,_=>none)=_
  rw[e1,JA r]
theorem A7(k):fe (cV k)=some k:=JA k
variable {e:Env}{n:Nat}{M:RM}{Q:ak}{ad:Nat->Addr}{f:Fm}{i j:ba}{now mk ov u m:Int}{st sr:RV}{ds:LR}{os:List RO}{o:RO}{x:Addr}
theorem Hb:ao (P e) (n+1) 32 [f.r,i.r] M Q=Q (cV (bD f i)) M:=by
 unfold Fm.r ba.r bD;rw[VS]
 by_cases a:f.lend= "door"
 . rw[ag a,ag a];rfl
 . rw[ab a,ab a]
   by_cases b:f.lend= "place"
   . rw[ag b,ag b];rfl
   . rw[ab b,ab b];rfl
def Of(ad:Nat->Addr)(n:Nat)(x:Addr):Prop:=∀j,j<n->ad j≠x
theorem lo(h:Of ad os.length x):lay ad 0 os M x=M x:=Kx λi hi=>by rw[iH];exact h i hi
theorem lop(h:Of ad os.length x):put (lay ad 0 os M) x o=lay ad 0 os (put M x o):=BM λi hi=>by rw[iH];exact h i hi
theorem of_none(H:Ij ad k)(c:os.length=k)(hx:lay ad 0 os M x=none):Of ad k x/\M x=none:=by
 subst c;refine⟨λj b z=>?_,BA hx⟩
 obtain⟨u,a⟩:=Cd (M:=M) H b;rw[z,hx]at a;cases a
noncomputable abbrev cG (e:Env) (ad:Nat->Addr) (f:Fm):RO:=bF e f.r (.ref (ad 1)) (.ref (ad 10)) (.ref (ad 9)) .aw
noncomputable abbrev cA (e:Env) (ad:Nat->Addr) (f:Fm) (now:Int):RO:=bN e f.r (.ref (ad 2)) (.int now) (.ref (ad 5)) (.ref (ad 6)) (.ref (ad 7)) (.ref (ad 8))
noncomputable abbrev cP (e:Env) (ad:Nat->Addr) (f:Fm) (mk:Int):RO:=dW e (.int f.low) (.int f.high) (.int mk) (.ref (ad 3)) (.ref (ad 4))
noncomputable abbrev cR (e:Env) (ad:Nat->Addr):RO:=lS e (.int 0) (.ref (ad 11))
noncomputable def eA (l:List (TK×Addr)):List (TK×RV):=enc id RV.ref l
noncomputable def eB (l:List (Int×Addr)):bR:=enc Sum.inl RV.ref l
noncomputable def eH (l:List (Int×TK)):bR:=enc Sum.inl cV l
noncomputable def eN (l:List (TK×Int)):List (TK×RV):=enc id RV.int l
theorem yO{l:List (TK×Addr)}:lk (eA l) k=(lk l k).map RV.ref:=qP (g:=id) lZ
theorem mh{l:List (Int×Addr)}{i:Int}:lk (eB l) (.inl i)=(lk l i).map RV.ref:=qP iZ
theorem LN{l:List (TK×Int)}:lk (eN l) k=(lk l k).map RV.int:=qP (g:=id) lZ
theorem LO{l:List (Int×TK)}{i:Int}:lk (eH l) (.inl i)=(lk l i).map cV:=qP iZ
noncomputable def vR:Option Addr->RV
 |some a=>.ref a
 |none=>.aw
theorem Ci{a:Addr}:vR (some a)= .ref a:=rfl
theorem Cj:vR none= .aw:=rfl
theorem J4{a:Int}:rD (some a)= .int a:=rfl
theorem J5:rD none= .aw:=rfl
structure Cn where
 now:Int
 mr:Int
 T:List (Int×Unit)
 U:List (Int×Int)
 B:List (TK×Addr)
 N:List (Int×Addr)
 H:List (Int×TK)
 K:List (TK×Int)
 ds:LR
noncomputable abbrev LG (e:Env) (ad:Nat->Addr) (f:Fm) (c:Cn) (M:RM):RM:=laid ad [cG e ad f,cA e ad f c.now,cP e ad f c.mr,.dk (eT c.T),.dk (eU c.U),.dt (eA c.B),.dk (eB c.N),.dk (eH c.H),.dt (eN c.K),.lst c.ds,cR e ad,.dk []] M
variable {c:Cn}
theorem RL:fe i.r=some i.k:=rfl
theorem Ed:d7 i.r (.int 0) M Q=Q (.str i.kind) M:=bE.trans (by rw[Mo];rfl)
theorem Ee:d7 i.r (.int 1) M Q=Q (.int i.house) M:=bE.trans (by rw[Mn];rfl)
theorem Ef:d7 i.r (.int 2) M Q=Q (.int i.door) M:=bE.trans (by rw[QL];rfl)
theorem P5:d7 f.r (.int 0) M Q=Q (.int f.low) M:=bE.trans (by rw[Mo];rfl)
theorem P6:d7 f.r (.int 1) M Q=Q (.int f.high) M:=bE.trans (by rw[Mn];rfl)
theorem P8:d7 f.r (.int 4) M Q=Q (.str f.pick) M:=bE.trans (by rw[QK];rfl)
theorem P9:d7 f.r (.int 5) M Q=Q (.int f.most) M:=bE.trans (by rw[QJ];rfl)
theorem Qa:d7 f.r (.int 6) M Q=Q (.bl f.renew) M:=bE.trans (by rw[QH];rfl)
theorem Qb:d7 f.r (.int 7) M Q=Q f.times M:=bE.trans (by rw[QG];rfl)
theorem Rq:d7 f.times (.int 3) M Q=Q (.int f.t3) M:=bE.trans (by rw[Mp];rfl)
theorem TZ(H:Ij ad 12):ao (P e) (n+1) 38 [.ref (ad 1),i.r] (LG e ad f c M) Q=Q (vR (lk c.B i.k)) (LG e ad f c M):=by
 rw[us (i:=38) (d:=xn) rfl];simp only[xn];fail"evl";rw[CW RL,yO];cases lk c.B i.k<;>rfl
theorem S7{k p q:RV}(H:Ij ad 12)(h:lk c.N m=none):ao (P e) (n+1) 86 [.ref (ad 1),k,.int m,p,q] (LG e ad f c M) Q=Q .aw (LG e ad f c M):=by
 have a:lk (eB c.N) (.inl m)=none:=by rw[mh,h];rfl
 rw[us (i:=86) (d:=sI) rfl];simp only[sI];fail"evl"
theorem S6{p q:Int}{b:Addr}(H:Ij ad 12)(h:lk c.N m=some b)(ob:Of ad 12 b)(g:M b=some (.dt (eA D))):ao (P e) (n+1) 86 [.ref (ad 1),.str k,.int m,.int p,.int q] (LG e ad f c M) Q=Q (vR (lk D (oK k p q))) (LG e ad f c M):=by
 have a:lk (eB c.N) (.inl m)=some (.ref b):=by rw[mh,h];rfl
 rw[us (i:=86) (d:=sI) rfl];simp only[sI];fail"evl";rw[CW (show _=some (oK k p q)from rfl),yO];cases lk D (oK k p q)<;>rfl
theorem S9(H:Ij ad 12):ao (P e) (n+1) 39 [.ref (ad 1),.int m] (LG e ad f c M) Q=Q (match lk c.H m with|some k=>cV k|none=>.aw) (LG e ad f c M):=by
 rw[us (i:=39) (d:=xk) rfl];simp only[xk];fail"evl";rw[LO];cases lk c.H m<;>rfl
theorem S8(H:Ij ad 12):ao (P e) (n+2) 40 [.ref (ad 1),i.r] (LG e ad f c M) Q=Q (rD (lk c.K (bD f i))) (LG e ad f c M):=by
 rw[us (i:=40) (d:=xj) rfl];simp only[xj];fail"evl";rw[Hb];fail"evl";rw[CW (A7 _),LN];cases lk c.K (bD f i)<;>rfl
end
section
variable {e:Env}{n:Nat}{M:RM}{Q:ak}{ad:Nat->Addr}{f:Fm}{i j:ba}{c:Cn}{now mk ov u m mo:Int}{ds:LR}{st s1 wd:Str}{b x y:Addr}{D:List (TK×Addr)}
noncomputable def vw (l:List (Int×TK))(h:Int):List Int:=(l.filter λx=>decide (x.2[1]? =some (some (.inl h)))).map (·.1)
noncomputable def Au (h:Int):RV->Bool
 | .tup [_,.tup (_::.int j::_)]=>j==h
 |_=>false
noncomputable def Eh:RV->RV
 | .tup [k,_]=>k
 |_=>.aw
theorem XG(v:Ij ad 12)(t:∀x∈c.H,∃k j r,x.2=k::some (.inl j)::r)(C:c.H.length<1000)(E:∀l:LR,l.length=(vw c.H h).length->Q (.ls l) (LG e ad f c M)):
 ao (P e) (n+1) 41 [.ref (ad 1),.int h] (LG e ad f c M) Q:=by
 have s:LG e ad f c M (ad 7)=some (.dk (eH c.H)):=lg v (Nat.le_of_ble_eq_true rfl);rw[us (i:=41) (d:=xB) rfl];simp only[xB];fail"evl";unfold tS;simp only[s];refine⟨by unfold jO eH;rw[aW,jM];exact gn C ⋯,jN (Au h) Eh bo _ _ (λx hx=>?_) ?_⟩
 . obtain⟨F,o,rfl⟩:=aA.mp hx
   obtain⟨y,g,rfl⟩:=aA.mp o;obtain⟨k,j,r,e1⟩:=t y g;have A:cV y.2= .tup (oR k::.int j::r.map oR):=by rw[e1];rfl
   show ∃w,gk true 2 (.tup [.int y.1,cV y.2])=some w/\_;rw[A];refine⟨_,rfl,λK a=>?_,λ_ K a=>?_⟩
   . fail"ev";exact a
   . fail"ev";exact a
 . show Q (.ls (([]++((jO (eH c.H)).filter (Au h)).map Eh))) (put (put _ (ad 7) (.fk (eH c.H))) (ad 7) (.dk (eH c.H)))
   rw[fK,uU s,kL];refine E _ ?_;rw[aW];unfold jO eH enc vw;rw[bp,aW,nO,aW];refine congrArg List.length (jy λy g=>?_)
   obtain⟨k,j,r,e1⟩:=t y g;show Au h (.tup [.int y.1,cV y.2])=_;rw[e1];show(j==h)=decide (some (some (Sum.inl j))=some (some (Sum.inl h)));rw[Bool.eq_iff_iff,eW,ib];exact⟨λz=>by rw[z],λz=>Sum.inl.inj (eV (eV z))⟩
noncomputable def pS (f:Fm)(c:Cn):aI:=⟨f.low,f.high,c.mr,c.T,c.U⟩
theorem qvL(H:Ij ad 12):yJ e (LG e ad f c M) (ad 2) (ad 3) (ad 4) (pS f c):=⟨lg H (Nat.le_of_ble_eq_true rfl),lg H (Nat.le_of_ble_eq_true rfl),lg H (Nat.le_of_ble_eq_true rfl)⟩
theorem SY(H:Ij ad 12)(g:(pS f c).Ok)(a:Q (rD ((pS f c).pick (f.pick== "keep") m c.now)) (LG e ad f c M)):ao (P e) (n+4) 47 [.ref (ad 0),.int m] (LG e ad f c M) Q:=by
 rw[us (i:=47) (d:=xl) rfl];simp only[xl];fail"evl";rw[P8];exact VD g (qvL H) a
noncomputable def nm (f:Fm)(m:Int):Int:=if m=f.high then f.low else m+1
noncomputable def Cn.gx (c:Cn)(f:Fm)(i:ba)(m:Int):Cn:={ c with mr:=nm f m,T:=pt c.T m (),U:=dr c.U m,H:=pt c.H m (bD f i),K:=pt c.K (bD f i) m }
theorem XE(H:Ij ad 12)(l1:c.T.length<1000)(l2:c.H.length<1000)(t:c.K.length<1000)(h:Q .aw (LG e ad f (c.gx f i m) M)):
 ao (P e) (n+2) 67 [.ref (ad 1),.int m,i.r] (LG e ad f c M) Q:=by
 have e1:dr (eU c.U) (Sum.inl m)=eU (dr c.U m):=qQ iZ;have A:pt (eT c.T) (Sum.inl m) (RV.bl true)=eT (pt c.T m ()):=lX (v:=λ_:Unit=>RV.bl true) iZ (y:=())
 have a:pt (eH c.H) (Sum.inl m) (cV (bD f i))=eH (pt c.H m (bD f i)):=lX iZ;have o:pt (eN c.K) (bD f i) (RV.int m)=eN (pt c.K (bD f i) m):=lX (g:=id) lZ;have C:(eT c.T).length<sizeLine:=by unfold eT;rw[jM];exact gn l1 ⋯
 have E:(eH c.H).length<sizeLine:=by unfold eH;rw[jM];exact gn l2 ⋯
 have w:(eN c.K).length<sizeLine:=by unfold eN;rw[jM];exact gn t ⋯
 rw[us (i:=67) (d:=xY) rfl];simp only[xY];unfold EC;fail"evl";rw[Hb];unfold EB;fail"evl";rw[us (i:=36) (d:=xH) rfl];simp only[xH];fail"evl";rw[tj];unfold Cn.gx nm at h;have fin:∀l,l=dr c.U m->∀k,k=(if m=f.high then f.low else m+1)->(tr ((P e).Gn (n+1)) Dw).S (rd Q) [some (.ref (ad 1)),some (.int m),some i.r,some (cV (bD f i))] (LG e ad f { c with mr:=k,T:=pt c.T m (),U:=l } M):=λU' r k s=>by
  subst r;subst s;unfold Dw;fail"evl";unfold EA;fail"evl";rw[vB (A7 _),o];refine⟨w,?_⟩;rw[qzk,lp H (Nat.le_of_ble_eq_true rfl)];exact h
 clear h a o;cases a:lk c.U m with
 |none=>
  rw[ab (by simp)]
  by_cases z:m=f.high
  . have q:=fin _ (JU a).symm _ (ag z).symm
    rw[ag (by simpa using z)];clear z fin;fail"evl"
  . have q:=fin _ (JU a).symm _ (ab z).symm
    rw[ab (by simpa using z)];clear z fin;fail"evl"
 |some v=>
  rw[ag (by simp)]
  refine⟨rfl,?_⟩
  by_cases z:m=f.high
  . have q:=fin _ rfl _ (ag z).symm
    rw[ag (by simpa using z)];clear z fin;fail"evl"
  . have q:=fin _ rfl _ (ab z).symm
    rw[ab (by simpa using z)];clear z fin;fail"evl"
noncomputable def Fm.tm (f:Fm)(s:Str):Int:=DR f.t0 f.t1 f.t2 s
theorem Cv(tb:Tb e)(z:Ws st)(a:Q (.int (f.tm st)) M):ao (P e) (n+1) 33 [f.r,.str st] M Q:=by
 unfold Fm.r Fm.times;exact XC tb z a
noncomputable def Cn.b0 (c:Cn)(i:ba)(m:Int)(x y:Addr):Cn:={ c with B:=pt c.B i.k x,N:=pt c.N m y }
noncomputable def Cn.b1 (c:Cn)(i:ba)(x:Addr):Cn:={ c with B:=pt c.B i.k x }
noncomputable abbrev jt (e:Env) (i:ba) (m:Int) (st:Str) (ov:Int):RO:=fV e i.r (.int m) (.str st) (.int ov)
theorem VF(tb:Tb e)(z:Ws st)(k:Ij ad 12)(l1:c.B.length<1000)(l2:c.N.length<1000)(l:lk c.N m=none)
 (a:∀x y,M x=none->Of ad 12 x->M y=none->Of ad 12 y->x≠y->Q .aw (LG e ad f (c.b0 i m x y) (put (put M x (jt e i m st (c.now+f.tm st))) y (.dt (eA [(bA i,x)]))))):
 ao (P e) (n+3) 82 [.ref (ad 1),i.r,.int m,.str st] (LG e ad f c M) Q:=by
 have w:(eA c.B).length<sizeLine:=by unfold eA;rw[jM];exact gn l1 ⋯
 have F:(eB c.N).length<sizeLine:=by unfold eB;rw[jM];exact gn l2 ⋯
 have C:lk (eB c.N) (.inl m)=none:=by rw[mh,l];rfl
 rw[us (i:=82) (d:=sG) rfl];simp only[sG];rw[show i.r= .tup [.str i.kind,.int i.house,.int i.door,.int i.place,.int i.far]from rfl];unfold DL;fail"evl"
 unfold DK;fail"evl";refine Cv tb z ?_;rw[vg];intro x hx;obtain⟨o1,r⟩:=of_none k rfl hx;rw[us (i:=85) (d:=sE) rfl];simp only[sE];fail"evl";unfold DJ;fail"evl";have e1:pt (eA c.B) i.k (.ref x)=eA (pt c.B i.k x):=lX (g:=id) lZ;rw[vB (show _=some i.k from rfl),e1]
 refine⟨w,?_⟩;unfold DI;fail"evl";intro y o;obtain⟨v,s⟩:=of_none k rfl o;obtain⟨t,h⟩:=Bn s;have h:x≠y:=λz=>h z.symm
 have A:pt (eB c.N) (.inl m) (.ref y)=eB (pt c.N m y):=lX iZ;have a:=a x y r o1 t v h;have E:lk (eB (pt c.N m y)) (.inl m)=some (.ref y):=by rw[mh,CG];rfl
 fail"evl";unfold DH;fail"evl";rw[vB (show _=some (bA i)from rfl)]
 refine⟨⋯,?_⟩
 fail"evl";exact a
theorem VE(tb:Tb e)(z:Ws st)(k:Ij ad 12)(l1:c.B.length<1000)(l2:D.length<1000)(o:lk c.N m=some b)(ob:Of ad 12 b)(r:M b=some (.dt (eA D)))
 (a:∀x,M x=none->Of ad 12 x->x≠b->Q .aw (LG e ad f (c.b1 i x) (put (put M x (jt e i m st (c.now+f.tm st))) b (.dt (eA (pt D (bA i) x)))))):
 ao (P e) (n+3) 82 [.ref (ad 1),i.r,.int m,.str st] (LG e ad f c M) Q:=by
 have t:(eA c.B).length<sizeLine:=by unfold eA;rw[jM];exact gn l1 ⋯
 have v:(eA D).length<sizeLine:=by unfold eA;rw[jM];exact gn l2 ⋯
 have w:lk (eB c.N) (.inl m)=some (.ref b):=by rw[mh,o];rfl
 rw[us (i:=82) (d:=sG) rfl];simp only[sG];rw[show i.r= .tup [.str i.kind,.int i.house,.int i.door,.int i.place,.int i.far]from rfl];unfold DL;fail"evl"
 unfold DK;fail"evl";refine Cv tb z ?_;rw[vg];intro x hx;obtain⟨o1,h⟩:=of_none k rfl hx;have s:b≠x:=qwu h r;rw[us (i:=85) (d:=sE) rfl];simp only[sE];fail"evl";unfold DJ;fail"evl";have e1:pt (eA c.B) i.k (.ref x)=eA (pt c.B i.k x):=lX (g:=id) lZ;rw[vB (show _=some i.k from rfl),e1]
 refine⟨t,?_⟩;unfold DI;fail"evl";have l:pt (eA D) (bA i) (.ref x)=eA (pt D (bA i) x):=lX (g:=id) lZ;have a:=a x h o1 (cx s);unfold DH;fail"evl";rw[vB (show _=some (bA i)from rfl),l]
 refine⟨v,?_⟩;fail"evl";exact a
theorem XF(tb:Tb e)(z:Ws s1)(a:Ij ad 12)(h:Of ad 12 x)(hx:M x=some (jt e i m st ov))(g:Q .aw (LG e ad f c (put M x (jt e i m s1 (c.now+f.tm s1))))):
 ao (P e) (n+4) 68 [.ref (ad 1),.ref x,.str s1] (LG e ad f c M) Q:=by
 have hs:(s1==("shut":Str))=false:=by rcases z with rfl|rfl|rfl|rfl|rfl|rfl<;>decide+kernel
 rw[us (i:=68) (d:=sH) rfl];simp only[sH];fail"evl";refine Cv tb z ?_;rw[vg];fail"evl"
end
section
variable {e:Env}{n:Nat}{M:RM}{Q:ak}{ad:Nat->Addr}{f:Fm}{i j:ba}{c:Cn}{now mk ov u m mo:Int}{ds:LR}{st s1 wd:Str}{b x y:Addr}{D:List (TK×Addr)}{hk:TK}
theorem JE{a:Addr}(h:M a=some (.dt kvs)):eY "len" [.ref a] M Q=Q (.int kvs.length) M:=by
 show(match M a with|some (.lst xs)=>Q (.int xs.length) M|some (.dk kvs)=>Q (.int kvs.length) M|some (.dt kvs)=>Q (.int kvs.length) M|_=>False)=_
 rw[h]
theorem JT(r:Ij ad 12)(v:Of ad 12 x)(hx:M x=some (jt e i m st ov))(l:lk c.N m=some b)(ob:Of ad 12 b)(t:M b=some (.dt (eA D)))(l1:(lk c.B i.k).isSome=true)(l2:(lk D (bA i)).isSome=true)
 (o:(tr ((P e).Gn (n+2)) zA).S (rd Q) [some (.ref (ad 1)),some (.ref x),some (.int mo),some (.int m),some (.str i.kind),some (.int i.house),some (.int i.door),some (.int i.place),some (.int i.far)] (LG e ad f { c with B:=dr c.B i.k } (put M b (.dt (eA (dr D (bA i))))))):
 ao (P e) (n+3) 70 [.ref (ad 1),.ref x,.int mo] (LG e ad f c M) Q:=by
 have e1:dr (eA c.B) i.k=eA (dr c.B i.k):=qQ (g:=id) lZ;have a:dr (eA D) (bA i)=eA (dr D (bA i)):=qQ (g:=id) lZ;have s:lk (eB c.N) (.inl m)=some (.ref b):=by rw[mh,l];rfl
 have h:(lk (eA c.B) i.k).isSome=true:=by rw[yO,rV];exact l1
 have k:(lk (eA D) (bA i)).isSome=true:=by rw[yO,rV];exact l2
 replace hx:M x=some (fV e (.tup [.str i.kind,.int i.house,.int i.door,.int i.place,.int i.far]) (.int m) (.str st) (.int ov)):=hx
 rw[us (i:=70) (d:=xG) rfl];simp only[xG];unfold GA;fail"evl";unfold Gz;fail"evl";unfold Gy;fail"evl";rw[Ct (show _=some i.k from rfl),e1]
 refine⟨h,?_⟩;unfold Gx;fail"evl";rw[Ct (show _=some (bA i)from rfl),a]
 refine⟨k,?_⟩;rw[lop ob];exact o
theorem VP(d:Ij ad 12)(l:Of ad 12 x)(hx:M x=some (jt e i m st ov))(a:lk c.N m=some b)(ob:Of ad 12 b)(g:M b=some (.dt (eA D)))(l1:(lk c.B i.k).isSome=true)(l2:(lk D (bA i)).isSome=true)
 (h:0<(dr D (bA i)).length) (k:Q .aw (LG e ad f { c with B:=dr c.B i.k } (put M b (.dt (eA (dr D (bA i))))))):ao (P e) (n+3) 70 [.ref (ad 1),.ref x,.int mo] (LG e ad f c M) Q:=by
 have o:lk (eB c.N) (.inl m)=some (.ref b):=by rw[mh,a];rfl
 refine JT d l hx a ob g l1 l2 ?_;unfold zA;fail"evl";rw[JE (kvs:=eA (dr D (bA i))) (by fail"evl")];fail"ev"
 rw[ag (by unfold eA;rw[jM];exact cu ∅)]
 exact k
theorem VQ(k:Ij ad 12)(v:Of ad 12 x)(hx:M x=some (jt e i m st ov))(h:lk c.N m=some b)(ob:Of ad 12 b)(s:M b=some (.dt (eA D)))(l1:(lk c.B i.k).isSome=true)(l2:(lk D (bA i)).isSome=true)
 (a:dr D (bA i)= []) (l:lk c.H m=some hk) (o:(lk c.K hk).isSome=true) (r:(lk c.T m).isSome=true) (t:c.U.length<1000)
 (L:Q .aw (LG e ad f { c with B:=dr c.B i.k,N:=dr c.N m,K:=dr c.K hk,H:=dr c.H m,T:=dr c.T m,U:=pt c.U m (mo+f.t3) } (put M b (.dt (eA []))))):ao (P e) (n+3) 70 [.ref (ad 1),.ref x,.int mo] (LG e ad f c M) Q:=by
 have z:lk (eB c.N) (.inl m)=some (.ref b):=by rw[mh,h];rfl
 have e1:dr (eB c.N) (.inl m)=eB (dr c.N m):=qQ iZ;have w:lk (eH c.H) (.inl m)=some (cV hk):=by rw[LO,l];rfl
 have A:dr (eN c.K) hk=eN (dr c.K hk):=qQ (g:=id) lZ;have C:dr (eH c.H) (.inl m)=eH (dr c.H m):=qQ iZ;have E:dr (eT c.T) (.inl m)=eT (dr c.T m):=qQ iZ;have F:pt (eU c.U) (.inl m) (RV.int (mo+f.t3))=eU (pt c.U m (mo+f.t3)):=lX iZ;have I:(lk (eN c.K) hk).isSome=true:=by rw[LN,rV];exact o
 have J:(lk (eT c.T) (.inl m)).isSome=true:=by rw[Lm];exact r
 have O:(eU c.U).length<sizeLine:=by unfold eU;rw[jM];exact gn t ⋯
 refine JT k v hx h ob s l1 l2 ?_;rw[a];unfold zA;fail"evl";rw[JE (kvs:=[]) (by fail"evl";rfl)];fail"ev"
 unfold Gw;fail"evl";unfold Gv;fail"evl";rw[us (i:=69) (d:=xo) rfl];simp only[xo];fail"evl";rw[Ct (A7 _)];fail"evl";rw[Qb,Rq,vg];rw[us (i:=65) (d:=xJ) rfl];simp only[xJ];fail"evl"
end
section
structure Tk where
 i:ba
 a:Addr
 m:Int
 st:Str
 ov:Int
noncomputable def outs (a:List Tk)(m:Int):List (TK×Addr):=(a.filter λT=>decide (T.m=m)).map λT=>(bA T.i,T.a)
noncomputable def kJ (a:List Tk):List (TK×Addr):=a.map λT=>(T.i.k,T.a)
structure ba.Ok(i:ba):Prop where
 kind:Kd i.kind
 house:0<=i.house/\i.house<=99
 door:1<=i.door/\i.door<=9999
 place:0<=i.place/\i.place<=1000000
 far:1<=i.far/\i.far<=9999
def Sw(k s:Str):Prop:=k= "note"/\s= "note"∨k= "line"/\(s= "asked"∨s= "called"∨s= "up"∨s= "near"∨s= "far")
theorem Sw.ws{k s:Str}(h:Sw k s):Ws s:=h.elim (λh=>.inl h.2) λh=>.inr h.2
abbrev kI(e:Env)(T:Tk):RO:=jt e T.i T.m T.st T.ov
structure Gd(e:Env)(ad:Nat->Addr)(f:Fm)(k d:Nat)(c:Cn)(tl:List Tk)(M0 M:RM):Prop where
 ij:Ij ad 12
 cB:c.B=kJ tl
 cT:c.T=c.K.map λx=>(x.2,())
 cH:c.H=c.K.map λx=>(x.2,x.1)
 tk:∀T∈tl,M T.a=some (kI e T)/\Of ad 12 T.a
 nb:∀x∈c.N,M x.2=some (.dt (eA (outs tl x.1)))/\Of ad 12 x.2
 fr:∀a o,M0 a=some o->M a=some o/\Of ad 12 a/\(∀T∈tl,T.a≠a)/\∀x∈c.N,x.2≠a
 d1:(tl.map λT=>T.i.k).Nodup
 d2:(c.N.map (·.2)).Nodup
 d3:(c.K.map (·.2)).Nodup
 d4:(c.K.map (·.1)).Nodup
 d5:(c.N.map (·.1)).Nodup
 d6:(tl.map λT=>T.a).Nodup
 od:∀T∈tl,∀U∈tl,T.m=U.m->bA T.i=bA U.i->T=U
 tn:∀T∈tl,lk c.K (bD f T.i)=some T.m
 tb:∀T∈tl,T.m∈c.N.map (·.1)
 hk:∀x∈c.K,(∃i:ba,i.Ok/\x.1=bD f i)/\f.low<=x.2/\x.2<=f.high
 ws:∀T∈tl,Sw T.i.kind T.st/\T.i.Ok
 mr:f.low<=c.mr/\c.mr<=f.high
 nw:0<=c.now
 s0:tl.length<=k
 s1:c.K.length<=k
 s2:c.N.length<=k
 s3:c.U.length+c.K.length<=k
 s4:c.ds.length<=d
variable {e:Env}{n:Nat}{M M0:RM}{Q:ak}{ad:Nat->Addr}{f:Fm}{i j:ba}{k d:Nat}{c:Cn}{tl:List Tk}{now mk ov u m mo:Int}{v:RV}{st s1 wd:Str}{b x y:Addr}{D:List (TK×Addr)}{hk:TK}{T U:Tk}
theorem Gd.mono(G:Gd e ad f k d c tl M0 M)(h:k<=k')(h':d<=d'):Gd e ad f k' d' c tl M0 M:={ G with s0:=bQ G.s0 h,s1:=bQ G.s1 h,s2:=bQ G.s2 h,s3:=bQ G.s3 h,s4:=bQ G.s4 h' }
theorem Gd.book(G:Gd e ad f k d c tl M0 M):Gd e ad f k (d+1) { c with ds:=c.ds++ [v] } tl M0 M:={ G with s4:=by show(c.ds++ [v]).length<=d+1;rw[fF];exact Nat.succ_le_succ G.s4 }
theorem Gd.at_(G:Gd e ad f k d c tl M0 M){t:Int}(h:0<=t):Gd e ad f k d { c with now:=c.now+t } tl M0 M:={ G with nw:=by show 0<=c.now+t;have:=G.nw;lia }
theorem Ur{i j:ba}(h:bD f i=bD f j)(a:bA i=bA j):i=j:=by
 cases i;cases j;unfold bA oK at a;simp only[List.cons.injEq,mL,Sum.inr.injEq,Sum.inl.injEq,and_true]at a;obtain⟨rfl,rfl,rfl⟩:=a;unfold bD ba.k at h;split at h
 . simp only[List.cons.injEq,mL,Sum.inr.injEq,Sum.inl.injEq,and_true,true_and]at h;obtain⟨rfl,rfl⟩:=h;rfl
 . split at h<;>(simp only[List.cons.injEq,mL,Sum.inr.injEq,Sum.inl.injEq,and_true,true_and]at h;obtain⟨rfl,rfl⟩:=h;rfl)
theorem yN{i j:ba}(h:i.k=j.k):i=j:=by
 cases i;cases j;unfold ba.k at h;simp only[List.cons.injEq,mL,Sum.inr.injEq,Sum.inl.injEq,and_true]at h;obtain⟨rfl,rfl,rfl,rfl,rfl⟩:=h;rfl
theorem Gd.nV(G:Gd e ad f k d c tl M0 M)(h:lk c.B i.k=none):∀T∈tl,T.i≠i:=λT a z=>by
 rw[G.cB]at h;exact aQ.mp h (aA.mpr ⟨_,aA.mpr ⟨T,a,rfl⟩,by rw[z]⟩)
theorem Gd.nW(G:Gd e ad f k d c tl M0 M)(h:lk c.B i.k=some x):∃T∈tl,T.i=i/\T.a=x:=by
 rw[G.cB]at h;obtain⟨T,g,e1⟩:=aA.mp (gB h);injection e1 with e1 a
 exact⟨T,g,yN e1,a⟩
theorem Gd.lL(G:Gd e ad f k d c tl M0 M)(h:lk c.K (bD f i)=some m)(hB:∀T∈tl,T.i≠i):∀U∈tl,U.m=m->bA U.i≠bA i:=λU hU e1 e2=>by
 have z:=G.tn U hU;rw[e1]at z;have:=et G.d3 (gB z) (gB h) rfl;injection this with this
 exact hB U hU (Ur this e2)
theorem Gd.gx(G:Gd e ad f k d c tl M0 M)(l:i.Ok)(h:lk c.K (bD f i)=none)(o:f.low<=m/\m<=f.high)(g:m∉c.K.map (·.2)):Gd e ad f (k+1) d (c.gx f i m) tl M0 M:=by
 have a:pt c.K (bD f i) m=c.K++ [(bD f i,m)]:=m9 h;have eH:pt c.H m (bD f i)=(c.K++ [(bD f i,m)]).map λx=>(x.2,x.1):=by
  rw[G.cH,m9 (aQ.mpr λz=>g (by rwa [bp]at z)),eC];rfl
 have eT:pt c.T m ()=(c.K++ [(bD f i,m)]).map λx=>(x.2,()):=by
  rw[G.cT,m9 (aQ.mpr λz=>g (by rwa [bp]at z)),eC];rfl
 have l1:(dr c.U m).length<=c.U.length:=jY _ _;have t:=G.s3;have s:=G.s1;refine { G with
  cT:=eT.trans (by show _=(pt c.K (bD f i) m).map _;rw[a])
  cH:=eH.trans (by show _=(pt c.K (bD f i) m).map _;rw[a])
  d3:=by show((pt c.K (bD f i) m).map _).Nodup;rw[a,eC];exact sL G.d3 g
  d4:=by show((pt c.K (bD f i) m).map _).Nodup;rw[a,eC];exact sL G.d4 (aQ.mp h)
  tn:=λT r=>by show lk (pt c.K (bD f i) m) _=_;rw[a,Co,G.tn T r]
  hk:=λx hx=>by
   replace hx:x∈pt c.K (bD f i) m:=hx
   rw[a]at hx;rcases c6.mp hx with z|z
   . exact G.hk x z
   . cases eG.mp z;exact⟨⟨i,l,rfl⟩,o⟩
  mr:=by show f.low<=nm f m/\nm f m<=f.high;unfold nm;have:=o;split<;>lia
  s0:=Nat.le_succ_of_le G.s0
  s1:=by show(pt c.K (bD f i) m).length<=k+1;rw[a,fF];exact Nat.succ_le_succ s
  s2:=Nat.le_succ_of_le G.s2
  s3:=by show(dr c.U m).length+(pt c.K (bD f i) m).length<=k+1;rw[a,fF];show _+(c.K.length+1)<=_;lia }
theorem Bo:outs (tl++ [T]) m=outs tl m++if T.m=m then [(bA T.i,T.a)]else []:=by
 unfold outs;rw[List.filter_append,eC]
 by_cases z:T.m=m<;>simp[z]
theorem Ve(h:∀U∈tl,U.m=m->bA U.i≠bA i):lk (outs tl m) (bA i)=none:=aQ.mpr λz=>by
 obtain⟨p,l,e1⟩:=aA.mp z;obtain⟨U,a,rfl⟩:=aA.mp l;obtain⟨a,g⟩:=cb.mp a;exact h U a (eI g) e1
theorem Gd.jb(G:Gd e ad f k d c tl M0 M)(a:T∈tl){p:Int×Addr}(g:p∈c.N):T.a≠p.2:=λz=>by
 have:=(G.tk T a).1;rw[z,(G.nb p g).1]at this;cases this
theorem Gd.add(G:Gd e ad f k d c tl M0 M){c':Cn}(hB:∀U∈tl,U.i≠T.i)(ho:∀U∈tl,U.m=T.m->bA U.i≠bA T.i)(hm:lk c.K (bD f T.i)=some T.m)(hw:Sw T.i.kind T.st/\T.i.Ok)
 (q1:c'.B=pt c.B T.i.k T.a) (q2:c'.T=c.T) (q3:c'.H=c.H) (q4:c'.K=c.K) (q5:c'.U=c.U) (q6:c'.ds=c.ds) (q7:c'.mr=c.mr) (q8:c'.now=c.now)
 (hx:M T.a=none) (ox:Of ad 12 T.a) (M1:M' T.a=some (kI e T)) (M2:∀a,a≠T.a->(∀p∈c'.N,p.1=T.m->p.2≠a)->M' a=M a)
 (n1:∀p∈c'.N,p.1=T.m->M' p.2=some (.dt (eA (outs (tl++ [T]) p.1)))/\Of ad 12 p.2/\p.2≠T.a/\(p∈c.N∨M p.2=none)) (n2:∀p∈c'.N,p.1≠T.m->p∈c.N) (n3:(c'.N.map (·.1)).Nodup) (n4:(c'.N.map (·.2)).Nodup) (n5:∀p∈c.N,p.1∈c'.N.map (·.1)) (n6:T.m∈c'.N.map (·.1)) (n7:c'.N.length<=k) (h0:tl.length<k):
 Gd e ad f k d c' (tl++ [T]) M0 M':=by
 have ne:∀U∈tl,U.a≠T.a:=λU hU z=>by have:=(G.tk U hU).1;rw[z,hx]at this;cases this
 have nn:∀U∈tl,∀p∈c'.N,p.1=T.m->p.2≠U.a:=λU hU p hp e1 z=>by
  rcases(n1 p hp e1).2.2.2 with h|h
  . exact G.jb hU h z.symm
  . have:=(G.tk U hU).1;rw[<-z,h]at this;cases this
 have eB:c'.B=kJ (tl++ [T]):=by
  rw[q1,G.cB,m9]
  . unfold kJ;rw[eC];rfl
  . refine aQ.mpr λz=>?_
    obtain⟨p,hp,e1⟩:=aA.mp z;obtain⟨U,hU,rfl⟩:=aA.mp hp;exact hB U hU (yN e1)
 have two:∀{p:Tk->Prop},(∀U∈tl,p U)->p T->∀U∈tl++ [T],p U:=λh1 h2 U hU=>by
  rcases c6.mp hU with z|z
  . exact h1 U z
  . cases eG.mp z;exact h2
 refine { ij:=G.ij,cB:=eB,cT:=by rw[q2,q4];exact G.cT,cH:=by rw[q3,q4];exact G.cH,tk:=two (λU hU=>?_) ⟨M1,ox⟩,nb:=λp hp=>?_,fr:=λa o h=>?_,d1:=?_,d2:=n4,d3:=by rw[q4];exact G.d3,d4:=by rw[q4];exact G.d4,d5:=n3,d6:=?_,od:=?_,tn:=by rw[q4];exact two G.tn hm,tb:=?_,hk:=by rw[q4];exact G.hk,ws:=two G.ws hw,mr:=by rw[q7];exact G.mr,nw:=by rw[q8];exact G.nw,s0:=?_,s1:=by rw[q4];exact G.s1,s2:=n7,s3:=by rw[q4,q5];exact G.s3,s4:=by rw[q6];exact G.s4 }
 . obtain⟨h1,h2⟩:=G.tk U hU
   exact⟨by rw[M2 _ (ne U hU) (nn U hU)];exact h1,h2⟩
 . by_cases z:p.1=T.m
   . exact⟨(n1 p hp z).1,(n1 p hp z).2.1⟩
   . have h:=n2 p hp z
     obtain⟨h1,h2⟩:=G.nb p h;refine⟨?_,h2⟩;rw[M2 _ (λq=>by rw[q,hx]at h1;cases h1) (λq hq e1 e2=>?_),h1,Bo,ab (cx z),nU]
     rw[et n4 hq hp e2]at e1;exact z e1
 . obtain⟨h1,h2,h3,h4⟩:=G.fr a o h
   have h5:T.a≠a:=λz=>by rw[<-z,hx]at h1;cases h1
   have h6:∀p∈c'.N,p.2≠a:=λp hp z=>by
    by_cases e1:p.1=T.m
    . rcases(n1 p hp e1).2.2.2 with q|q
      . exact h4 p q z
      . rw[z,h1]at q;cases q
    . exact h4 p (n2 p hp e1) z
   exact⟨by rw[M2 a (cx h5) λp hp _=>h6 p hp];exact h1,h2,two h3 h5,h6⟩
 . rw[eC]
   refine sL G.d1 λz=>?_
   obtain⟨U,hU,e1⟩:=aA.mp z;exact hB U hU (yN e1)
 . rw[eC]
   refine sL G.d6 λz=>?_
   obtain⟨U,hU,e1⟩:=aA.mp z;exact ne U hU e1
 . refine two (λV hV=>two (λW hW=>G.od V hV W hW) λe1 e2=>?_) (two (λW hW e1 e2=>?_) λ_ _=>rfl)
   . exact aU e2 (ho V hV e1)
   . exact aU e2.symm (ho W hW e1.symm)
 . refine two (λU hU=>?_) n6
   obtain⟨p,hp,e1⟩:=aA.mp (G.tb U hU);rw[<-e1];exact n5 p hp
 . rw[fF];exact h0
end
section
variable {e:Env}{n:Nat}{M M0:RM}{Q:ak}{ad:Nat->Addr}{f:Fm}{i j:ba}{k d:Nat}{c:Cn}{tl:List Tk}{now mk ov u m mo:Int}{v:RV}{st s1 wd:Str}{b x y:Addr}{D:List (TK×Addr)}{hk:TK}{T U:Tk}
theorem Gd.b0(G:Gd e ad f k d c tl M0 M)(C:∀U∈tl,U.i≠i)(H:∀U∈tl,U.m=m->bA U.i≠bA i)(F:lk c.K (bD f i)=some m)(I:Sw i.kind st/\i.Ok)
 (t:lk c.N m=none) (hx:M x=none) (J:Of ad 12 x) (w:M y=none) (L:Of ad 12 y) (o:x≠y) (h0:tl.length<k) (r:c.N.length<k):Gd e ad f k d (c.b0 i m x y) (tl++ [⟨i,x,m,st,ov⟩]) M0 (put (put M x (jt e i m st ov)) y (.dt (eA [(bA i,x)]))):=by
 have eN:(c.b0 i m x y).N=c.N++ [(m,y)]:=m9 t;have nm:m∉c.N.map (·.1):=aQ.mp t
 have e0:outs tl m= []:=by
  unfold outs;rw[wq.mpr λU E h=>nm (by rw[<-eI h];exact G.tb U E)];rfl
 have s:∀p∈(c.b0 i m x y).N,p.1=m->p=(m,y):=λp g z=>by
  rw[eN]at g;rcases c6.mp g with h|h
  . exact aU (aA.mpr ⟨p,h,z⟩) nm
  . exact eG.mp h
 refine G.add (T:=⟨i,x,m,st,ov⟩) C H F I rfl rfl rfl rfl rfl rfl rfl rfl hx J ((put_ne o).trans bo) (λa A r=>?_) (λp g z=>?_) (λp g z=>?_) ?_ ?_ (λp g=>?_) ?_ ?_ h0
 . have:y≠a:=r (m,y) (by rw[eN];exact c6.mpr (.inr (.head _))) rfl
   rw[put_ne (cx this),put_ne A]
 . cases s p g z
   refine⟨?_,L,cx o,.inr w⟩;rw[bo,Bo,e0];exact congrArg (λl=>some (RO.dt (eA l))) (by rw[ag rfl];rfl)
 . rw[eN]at g
   rcases c6.mp g with h|h
   . exact h
   . cases eG.mp h;exact aU rfl z
 . rw[eN,eC];exact sL G.d5 nm
 . rw[eN,eC]
   refine sL G.d2 λz=>?_
   obtain⟨p,g,e1⟩:=aA.mp z;have:=(G.nb p g).1;rw[show p.2=y from e1,w]at this;cases this
 . rw[eN,eC];exact c6.mpr (.inl (aA.mpr ⟨p,g,rfl⟩))
 . rw[eN,eC];exact c6.mpr (.inr (.head _))
 . rw[eN,fF];exact r
theorem Gd.b1(G:Gd e ad f k d c tl M0 M)(A:∀U∈tl,U.i≠i)(o:∀U∈tl,U.m=m->bA U.i≠bA i)(E:lk c.K (bD f i)=some m)(F:Sw i.kind st/\i.Ok)
 (C:lk c.N m=some b) (hx:M x=none) (H:Of ad 12 x) (h0:tl.length<k):Gd e ad f k d (c.b1 i x) (tl++ [⟨i,x,m,st,ov⟩]) M0 (put (put M x (jt e i m st ov)) b (.dt (eA (pt (outs tl m) (bA i) x)))):=by
 have g:=gB C;obtain⟨b1,s⟩:=G.nb _ g;have r:x≠b:=λz=>by rw[z]at hx;rw[hx]at b1;cases b1
 have h:∀p∈c.N,p.1=m->p=(m,b):=λp a z=>et G.d5 a g z
 refine G.add (T:=⟨i,x,m,st,ov⟩) A o E F rfl rfl rfl rfl rfl rfl rfl rfl hx H ((put_ne r).trans bo) (λa t w=>?_) (λp a z=>?_) (λp a z=>a) G.d5 G.d2 (λp a=>aA.mpr ⟨p,a,rfl⟩) (aA.mpr ⟨_,g,rfl⟩) G.s2 h0
 . rw[put_ne (cx (w (m,b) g rfl)),put_ne t]
 . cases h p a z
   refine⟨?_,s,cx r,.inl a⟩;rw[bo,Bo,m9 (Ve o)];exact congrArg (λl=>some (RO.dt (eA l))) (by rw[ag rfl])
noncomputable def fq (x:Addr)(s:Str)(o:Int)(U:Tk):Tk:=if U.a=x then { U with st:=s,ov:=o }else U
theorem qS:(fq x st o U).i=U.i:=by unfold fq;split<;>rfl
theorem vE:(fq x st o U).a=U.a:=by unfold fq;split<;>rfl
theorem vD:(fq x st o U).m=U.m:=by unfold fq;split<;>rfl
theorem IU:∀{tl:List Tk},outs (tl.map (fq x st o)) m=outs tl m
 | []=>rfl
 |U::tl=>by
  have a:outs (tl.map (fq x st o)) m=outs tl m:=IU;unfold outs at a ⊢;rw[bX,ju,ju,vD];split
  . rw[bX,bX,qS,vE,a]
  . exact a
theorem Gd.lead(G:Gd e ad f k d c tl M0 M)(w:T∈tl)(hs:Sw T.i.kind st):Gd e ad f k d c (tl.map (fq T.a st ov)) M0 (put M T.a (jt e T.i T.m st ov)):=by
 have l:∀{p:Tk->Prop},(∀U∈tl,p (fq T.a st ov U))->∀U∈tl.map (fq T.a st ov),p U:=λh U r=>by
  obtain⟨V,A,rfl⟩:=aA.mp r;exact h V A
 refine { G with cB:=?_,tk:=l λU r=>?_,nb:=λp E=>?_,fr:=λa o h=>?_,d1:=?_,d6:=?_,od:=l λU r=>l λV A s t=>?_,tn:=l λU r=>by rw[qS,vD];exact G.tn U r,tb:=l λU r=>by rw[vD];exact G.tb U r,ws:=l λU r=>?_,s0:=by rw[aW];exact G.s0 }
 . rw[G.cB];unfold kJ;rw[bp];exact jx λU _=>by show _=((fq T.a st ov U).i.k,(fq T.a st ov U).a);rw[qS,vE]
 . rw[vE]
   obtain⟨s,t⟩:=G.tk U r;refine⟨?_,t⟩
   by_cases z:U.a=T.a
   . cases et G.d6 r w z
     rw[bo];unfold fq;rw[ag rfl]
   . rw[put_ne z,s];unfold fq;rw[ab z]
 . obtain⟨s,t⟩:=G.nb p E
   rw[IU];exact⟨(put_ne (cx (G.jb w E))).trans s,t⟩
 . obtain⟨s,t,C,F⟩:=G.fr a o h
   exact⟨(put_ne (cx (C T w))).trans s,t,l λU r=>by rw[vE];exact C U r,F⟩
 . rw[bp,jx (g:=λU:Tk=>U.i.k) λU _=>by show(fq T.a st ov U).i.k=_;rw[qS]];exact G.d1
 . rw[bp,jx (g:=λU:Tk=>U.a) λU _=>by show(fq T.a st ov U).a=_;rw[vE]];exact G.d6
 . rw[vD,vD]at s
   rw[qS,qS]at t;rw[G.od U r V A s t]
 . rw[qS]
   obtain⟨s,t⟩:=G.ws U r;refine⟨?_,t⟩;unfold fq;split
   . rename_i z;rw[et G.d6 r w z];exact hs
   . exact s
noncomputable def fj (tl:List Tk)(T:Tk):List Tk:=tl.filter λU=>decide (U.a≠T.a)
theorem Gd.qr(G:Gd e ad f k d c tl M0 M)(a:T∈tl):dr c.B T.i.k=kJ (fj tl T):=by
 rw[G.cB];unfold kJ fj;rw[yI (κ:=Int)];congr 1;exact jy λU g=>kM.mpr ⟨λz q=>z (by rw[et G.d6 g a q]),λz q=>z (by rw[et G.d1 g a q])⟩
theorem Gd.qw(G:Gd e ad f k d c tl M0 M)(a:T∈tl):dr (outs tl T.m) (bA T.i)=outs (fj tl T) T.m:=by
 unfold outs fj;rw[yI (κ:=Int),wy,wy];congr 1;refine jy λU g=>?_
 by_cases z:U.m=T.m
 . simp only[z,decide_true,Bool.and_true,Bool.true_and]
   exact kM.mpr ⟨λy q=>y (by rw[et G.d6 g a q]),λy q=>y (by rw[G.od U g T a z q])⟩
 . simp[z]
theorem Gd.qv(G:Gd e ad f k d c tl M0 M)(a:T∈tl)(h:m≠T.m):outs (fj tl T) m=outs tl m:=by
 unfold outs fj;rw[wy];congr 1;refine jy λU g=>?_
 by_cases z:U.m=m
 . have:U.a≠T.a:=λq=>h (by rw[<-z,et G.d6 g a q])
   simp[z,this]
 . simp[z]
theorem Gd.less(G:Gd e ad f k d c tl M0 M){c':Cn}(R:T∈tl)(X:lk c.N T.m=some b)(q1:c'.B=dr c.B T.i.k)(q2:c'.T=c'.K.map λx=>(x.2,()))(q3:c'.H=c'.K.map λx=>(x.2,x.1))(q4:c'.mr=c.mr)(q5:c'.ds=c.ds)(q6:c'.now=c.now)
 (L:c'.N=c.N∨c'.N=dr c.N T.m/\outs (fj tl T) T.m= []) (J:c'.K=c.K∨c'.K=(c.K.filter λx=>decide (x.2≠T.m))/\outs (fj tl T) T.m= []) (u1:c'.U.length+c'.K.length<=k):
 Gd e ad f k d c' (fj tl T) M0 (put M b (.dt (eA (outs (fj tl T) T.m)))):=by
 have I:=gB X;have sub:∀U∈fj tl T,U∈tl:=λU l=>(cb.mp l).1
 have s:∀p∈c'.N,p∈c.N:=λp r=>by
  rcases L with z|⟨z,_⟩
  . rwa [z]at r
  . rw[z]at r;exact(cb.mp r).1
 have F:∀p∈c'.K,p∈c.K:=λp r=>by
  rcases J with z|⟨z,_⟩
  . rwa [z]at r
  . rw[z]at r;exact(cb.mp r).1
 have w:outs (fj tl T) T.m= []->∀U∈fj tl T,U.m≠T.m:=λh U l z=>by
  have:(bA U.i,U.a)∈outs (fj tl T) T.m:=aA.mpr ⟨U,cb.mpr ⟨l,cu z⟩,rfl⟩;rw[h]at this;cases this
 have lN:c'.N.length<=c.N.length:=by
  rcases L with z|⟨z,_⟩
  . rw[z];exact aD _
  . rw[z];exact jY _ _
 have Z:c'.K.length<=c.K.length:=by
  rcases J with z|⟨z,_⟩
  . rw[z];exact aD _
  . rw[z];exact jY _ _
 have E:∀{H:Type} {g:Int×Addr->H},(c.N.map g).Nodup->(c'.N.map g).Nodup:=λ{H g} h=>by
  rcases L with z|⟨z,_⟩
  . rw[z];exact h
  . rw[z];exact sJ h
 have t:∀{H:Type} {g:TK×Int->H},(c.K.map g).Nodup->(c'.K.map g).Nodup:=λ{H g} h=>by
  rcases J with z|⟨z,_⟩
  . rw[z];exact h
  . rw[z];exact sJ h
 refine { ij:=G.ij,cB:=by rw[q1];exact G.qr R,cT:=q2,cH:=q3,tk:=λU l=>?_,nb:=λp r=>?_,fr:=λa o h=>?_,d1:=sJ G.d1,d2:=E G.d2,d3:=t G.d3,d4:=t G.d4,d5:=E G.d5,d6:=sJ G.d6,od:=λU l V Y=>G.od U (sub U l) V (sub V Y),tn:=λU l=>?_,tb:=λU l=>?_,hk:=λx hx=>G.hk x (F x hx),ws:=λU l=>G.ws U (sub U l),mr:=by rw[q4];exact G.mr,nw:=by rw[q6];exact G.nw,s0:=bQ (jY _ _) G.s0,s1:=bQ Z G.s1,s2:=bQ lN G.s2,s3:=u1,s4:=by rw[q5];exact G.s4 }
 . obtain⟨A,C⟩:=G.tk U (sub U l)
   exact⟨(put_ne (G.jb (sub U l) I)).trans A,C⟩
 . obtain⟨A,C⟩:=G.nb p (s p r)
   refine⟨?_,C⟩
   by_cases z:p.1=T.m
   . cases et G.d5 (s p r) I z
     exact bo
   . rw[put_ne (λq=>z (by rw[et G.d2 (s p r) I q])),A,G.qv R z]
 . obtain⟨A,C,W,O⟩:=G.fr a o h
   exact⟨(put_ne (cx (O _ I))).trans A,C,λU l=>W U (sub U l),λp r=>O p (s p r)⟩
 . have z:=G.tn U (sub U l)
   rcases J with q|⟨q,h⟩
   . rw[q];exact z
   . have N:=w h U l
     have:(bD f U.i,U.m)∈c'.K:=by rw[q];exact cb.mpr ⟨gB z,cu N⟩
     exact ml (t G.d4) this
 . rcases L with q|⟨q,h⟩
   . rw[q];exact G.tb U (sub U l)
   . obtain⟨p,r,e1⟩:=aA.mp (G.tb U (sub U l))
     rw[q];exact aA.mpr ⟨p,cb.mpr ⟨r,cu (by rw[e1];exact w h U l)⟩,e1⟩
end
section
structure Ow where
 i:ba
 m:Int
 st:Str
 ov:Int
noncomputable def Tk.w (T:Tk):Ow:=⟨T.i,T.m,T.st,T.ov⟩
instance:DecidableEq ba:=λa b=>if h:a.k=b.k then .isTrue (yN h)else .isFalse λz=>h (by rw[z])
structure Gs where
 now:Int
 mr:Int
 K:List (TK×Int)
 un:Int->Int
 ol:List Ow
noncomputable def nK (U:List (Int×Int))(x:Int):Int:=(lk U x).getD 0
noncomputable def gs (c:Cn)(tl:List Tk):Gs:=⟨c.now,c.mr,c.K,nK c.U,tl.map Tk.w⟩
noncomputable def cW (a:List Ow)(m:Int):Bool:=a.any λu=>decide (u.m=m)
noncomputable def ku (f:Fm)(s:Gs)(v:Ow)(a:Int):Gs:=if cW (s.ol.filter λu=>decide (u.i≠v.i)) v.m=true then { s with ol:=s.ol.filter λu=>decide (u.i≠v.i) }else
 { s with ol:=s.ol.filter λu=>decide (u.i≠v.i),K:=s.K.filter λx=>decide (x.2≠v.m),un:=λx=>if x=v.m then a+f.t3 else s.un x }
noncomputable def jl (f:Fm)(s:Gs)(v:Ow)(st:Str):Gs:=if st= "shut" then ku f s v s.now else { s with ol:=s.ol.map λu=>if u.i=v.i then { u with st:=st,ov:=s.now+f.tm st }else u }
noncomputable def l8 (f:Fm)(s:Gs)(i:ba)(m:Int)(st:Str):Gs:={ s with ol:=s.ol++ [⟨i,m,st,s.now+f.tm st⟩] }
noncomputable def tq (f:Fm)(s:Gs)(i:ba)(m:Int):Gs:={ s with mr:=nm f m,K:=s.K++ [(bD f i,m)],un:=λx=>if x=m then 0 else s.un x }
noncomputable def jo (f:Fm)(s:Gs)(x:Int):Bool:=decide (f.low<=x)&&decide (x<=f.high)&& !decide (x∈s.K.map (·.2))&&decide (s.un x<=s.now)
noncomputable def CI (f:Fm)(a:Int):List Int:=aI.line ⟨f.low,f.high,a,[],[]⟩
noncomputable def qY (f:Fm)(s:Gs)(d:Int):Option Int:=if((f.pick== "keep")&&jo f s d)=true then some d else(CI f s.mr).find? (jo f s)
noncomputable def heldW (s:Gs)(h:Int):Int:=((s.K.filter λx=>decide (x.1[1]? =some (some (.inl h)))).length:Nat)
variable {e:Env}{n:Nat}{M M0:RM}{Q:ak}{ad:Nat->Addr}{f:Fm}{i j:ba}{k d:Nat}{c:Cn}{tl:List Tk}{now mk ov u m mo t:Int}{v:RV}{st s1 wd:Str}{a b x y:Addr}{T U:Tk}{s:Gs}
theorem Gd.lG(G:Gd e ad f k d c tl M0 M)(hT:T∈tl)(hU:U∈tl):U.a≠T.a↔U.i≠T.i:=⟨λz q=>z (by rw[et G.d1 hU hT (by rw[q])]),λz q=>z (by rw[et G.d6 hU hT q])⟩
theorem Gd.qx(G:Gd e ad f k d c tl M0 M)(g:T∈tl):(fj tl T).map Tk.w=(tl.map Tk.w).filter λu=>decide (u.i≠T.i):=by
 unfold fj;rw[nO];congr 1;exact jy λU h=>kM.mpr (G.lG g h)
theorem Gd.uI(G:Gd e ad f k d c tl M0 M)(g:T∈tl):(tl.map (fq T.a st ov)).map Tk.w=(tl.map Tk.w).map λu=>if u.i=T.i then { u with st:=st,ov:=ov }else u:=by
 rw[bp,bp];refine jx λU h=>?_
 show(fq T.a st ov U).w=if U.i=T.i then _ else _
 unfold fq
 by_cases z:U.a=T.a
 . rw[ag z,ag (Classical.byContradiction λq=>(G.lG g h).mpr q z)];rfl
 . rw[ab z,ab ((G.lG g h).mp z)]
theorem jJ:outs tl m= []↔cW (tl.map Tk.w) m=false:=by
 unfold outs cW;rw[List.map_eq_nil_iff,List.any_map,<-Bool.not_eq_true,List.any_eq_true,wq];exact⟨λh ⟨x,hx,z⟩=>h x hx z,λh x hx z=>h ⟨x,hx,z⟩⟩
theorem quy{U:List (Int×Int)}{w:Int}:nK (pt U m w)=λx=>if x=m then w else nK U x:=by
 funext x;unfold nK
 by_cases z:x=m
 . rw[ag z,z,CG];rfl
 . rw[ab z,Vn z]
theorem Tp{κ h:Type}[DecidableEq κ]{l:List (κ×h)}{k:κ}:lk (dr l k) k=none:=aQ.mpr λz=>by
 obtain⟨p,g,e1⟩:=aA.mp z;exact eI (cb.mp g).2 e1
theorem quz{U:List (Int×Int)}:nK (dr U m)=λx=>if x=m then 0 else nK U x:=by
 funext x;unfold nK
 by_cases z:x=m
 . rw[ag z,z,Tp];rfl
 . rw[ab z,qwc z]
theorem Gd.end_(G:Gd e ad f k d c tl M0 M)(Y:k<1000)(g:T∈tl)(J:∀o C,Gd e ad f k d o (fj tl T) M0 C->gs o (fj tl T)=ku f (gs c tl) T.w mo->o.ds=c.ds->C T.a=M T.a->Q .aw (LG e ad f o C)):
 ao (P e) (n+3) 70 [.ref (ad 1),.ref T.a,.int mo] (LG e ad f c M) Q:=by
 obtain⟨L,N⟩:=G.tk T g;obtain⟨p,A,e1⟩:=aA.mp (G.tb T g);obtain⟨Z,b⟩:=p;cases e1;have w:lk c.N T.m=some b:=ml G.d5 A;obtain⟨F,H⟩:=G.nb _ A;have l1:(lk c.B T.i.k).isSome=true:=by rw[G.cB];exact yK (aA.mpr ⟨_,aA.mpr ⟨T,g,rfl⟩,rfl⟩)
 have l2:(lk (outs tl T.m) (bA T.i)).isSome=true:=yK (aA.mpr ⟨_,aA.mpr ⟨T,cb.mpr ⟨g,cu rfl⟩,rfl⟩,rfl⟩);have lo:=G.qw g;have s3:=G.s3;have E:=G.qx g;have I:cW ((gs c tl).ol.filter λu=>decide (u.i≠T.w.i)) T.w.m=cW ((fj tl T).map Tk.w) T.m:=by rw[E];rfl
 by_cases z:outs (fj tl T) T.m= []
 . have R:=lo.trans z
   have tn:=G.tn T g;generalize bD f T.i=h at tn;have l:(h,T.m)∈c.K:=gB tn;have O:lk c.H T.m=some h:=by
    rw[G.cH];exact ml (x:=(T.m,h)) (by rw[bp];exact G.d3) (aA.mpr ⟨_,l,rfl⟩)
   have D:∀x∈c.K,(x.1≠h↔x.2≠T.m):=λx hx=>⟨λz q=>z (by rw[et G.d3 hx l q]),λz q=>z (by rw[et G.d4 hx l q])⟩
   have r:dr c.K h=c.K.filter λx=>decide (x.2≠T.m):=jy λx hx=>kM.mpr (D x hx)
   refine VQ G.ij N L w H F l1 l2 R O (yK (aA.mpr ⟨_,l,rfl⟩)) (by rw[G.cT];exact yK (aA.mpr ⟨_,aA.mpr ⟨_,l,rfl⟩,rfl⟩)) ∅ ?_
   rw[<-z];refine J _ _ (G.less g w rfl ?_ ?_ rfl rfl rfl (.inr ⟨rfl,z⟩) (.inr ⟨r,z⟩) ?_) ?_ rfl (put_ne (G.jb g A))
   . show dr c.T T.m=(dr c.K h).map _
     rw[G.cT,r];exact yI (κ:=Int)
   . show dr c.H T.m=(dr c.K h).map _
     rw[G.cH,r];exact yI (κ:=Int)
   . show(pt c.U T.m _).length+(dr c.K h).length<=k
     have W:(pt c.U T.m (mo+f.t3)).length<=c.U.length+1:=YR;have X:(dr c.K h).length<c.K.length:=by
      unfold dr;exact List.length_filter_lt_length_iff_exists.mpr ⟨_,l,by simp⟩
     lia
   . unfold ku
     rw[I,jJ.mp z,ab ⋯]
     unfold gs;rw[E,quy,r];rfl
 . refine VP G.ij N L w H F l1 l2 ?_ ?_
   . rw[lo];exact List.length_pos_iff.mpr z
   . rw[lo]
     refine J _ _ (G.less g w rfl G.cT G.cH rfl rfl rfl (.inl rfl) (.inl rfl) s3) ?_ rfl (put_ne (G.jb g A));unfold ku;rw[I,ag (by cases q:cW ((fj tl T).map Tk.w) T.m with|true=>rfl|false=>exact aU (jJ.mpr q) z)]
     unfold gs;rw[E];rfl
theorem Gd.led(G:Gd e ad f k d c tl M0 M)(tb:Tb e)(hk:k<1000)(hT:T∈tl)(hs:st= "shut"∨Sw T.i.kind st)(hq:∀c' tl' M',Gd e ad f k d c' tl' M0 M'->gs c' tl'=jl f (gs c tl) T.w st->c'.ds=c.ds->(∃s' o',M' T.a=some (jt e T.i T.m s' o'))->Q .aw (LG e ad f c' M')):
 ao (P e) (n+4) 68 [.ref (ad 1),.ref T.a,.str st] (LG e ad f c M) Q:=by
 obtain⟨t1,t2⟩:=G.tk T hT;have Hj:=G.ij
 by_cases h:st= "shut"
 . subst h
   rw[us (i:=68) (d:=sH) rfl];simp only[sH];fail"evl";exact G.end_ hk hT λc' M' G' h1 h2 h3=>hq c' _ M' G' (h1.trans (by unfold jl;rw[ag rfl];rfl)) h2 ⟨_,_,h3.trans t1⟩
 . have hw:=hs.resolve_left h
   refine XF tb hw.ws Hj t2 t1 ?_;refine hq _ _ _ (G.lead (ov:=c.now+f.tm st) hT hw) ?_ rfl ⟨_,_,bo⟩;unfold jl;rw[ab h];unfold gs;rw[G.uI hT];rfl
end
section
variable {e:Env}{n:Nat}{M M0:RM}{Q:ak}{ad:Nat->Addr}{f:Fm}{i j:ba}{k d:Nat}{c:Cn}{tl:List Tk}{t ov u m mo:Int}{v:RV}{st s1 wd:Str}{b x y:Addr}{T U:Tk}
noncomputable def ck (e:Env):RO:=.tb e.lP (P e).S.lp (P e).S.lq
theorem WC{fr rp rbi rbn rho rnu:RV}{t:Addr}{nw k:Int}{tv:aq}{σ:bw}{N:RM->Prop}(ht:M t=some (bN e fr rp (.int nw) rbi rbn rho rnu))(hv:∀K:ak,K (.int k) M->tv σ M K)(hN:N (put M t (bN e fr rp (.int (nw+k)) rbi rbn rho rnu))):uE (e.C 3) "now" tv σ N (.ref t) M:=by
 unfold uE;simp only[ht];refine⟨rfl,?_⟩;show tv σ M _;refine hv _ ?_;show(match M t with|some (.ins C2 fs2)=>_|_=>False)
 rw[ht];exact⟨rfl,by show(7:Nat)<1000;decide,hN⟩
theorem VR{fr rp now rbn rho rnu:RV}{t bi:Addr}{l:List (TK×Addr)}(ht:M t=some (bN e fr rp now (.ref bi) rbn rho rnu))(hb:M bi=some (.dt (eA l))):ao (P e) (n+1) 19 [.ref t] M Q=Q (.ls (l.map λx=>.ref x.2)) M:=by
 have e1:(eA l).map (·.2)=l.map λx=>RV.ref x.2:=by unfold eA enc;rw[bp];rfl
 rw[us (i:=19) (d:=sF) rfl];simp only[sF];fail"evs"
noncomputable def xb (M:RM)(now:Int):RV->Bool
 | .ref a=>match M a with
  |some (.ins _ fs)=>match fs.lookup ("over":Str)with
   |some (.int o)=>decide (o<=now)
   |_=>false
  |_=>false
 |_=>false
noncomputable def yW (f:Fm):Gs->List Ow->Gs
 |s,[]=>s
 |s,v::l=>yW f (ku f s v v.ov) l
theorem Kk(hk:k<1000){D:RD}{z1 z2:Option RV}:∀(l:List Tk) {c:Cn} {tl:List Tk} {M:RM} {z3:Option RV},Gd e ad f k d c tl M0 M->(∀T∈l,T∈tl)->(l.map (·.a)).Nodup->(∀c' tl' M' z,Gd e ad f k d c' tl' M0 M'->gs c' tl'=yW f (gs c tl) (l.map Tk.w)->c'.ds=c.ds->D.nx [some (.ref (ad 1)),z1,z2,z] (LG e ad f c' M'))->
 jQ (jU 3) (tr ((P e).Gn (n+3)) (.se (.ex (.me 70 (.v 0) (.ec (.v 3) (.ec (.fl 2 "over" (.v 3)) .e0)))) .en)).S D eE id (l.map λT=>RV.ref T.a) [some (.ref (ad 1)),z1,z2,z3] (LG e ad f c M)
 | [],c,tl,M,z3,G,_,_,hq=>⟨fW,hq _ _ _ _ G rfl rfl⟩
 |T::l,c,tl,M,z3,G,hT,nd,hq=>by
  obtain⟨t1,t2⟩:=G.tk T (hT T (.head _));have Hj:=G.ij;rw[bX,iL]at nd;refine⟨fW,?_⟩;unfold jU;fail"evl";refine G.end_ hk (hT T (.head _)) λc' M' G' h1 h2 _=>?_
  refine Kk hk l G' (λU hU=>?_) nd.2 λc2 tl2 M2 z G2 e2 d2=>hq c2 tl2 M2 z G2 (e2.trans (by rw[h1];rfl)) (d2.trans h2)
  refine cb.mpr ⟨hT U (.tail _ hU),cu λz=>nd.1 ?_⟩
  rw[<-z];exact wt (f:=(·.a)) hU
noncomputable def sy (a:List Ow)(m:Int):Int:=((a.filter λu=>decide (u.m=m)).map (·.ov)).foldr max 0
theorem Hi{a:Int}(h0:0<=a):∀{l:List Int},(∀x∈l,x<=a)->l.foldr max 0<=a/\(a∈l->l.foldr max 0=a)
 | [],_=>⟨h0,λh=>nomatch h⟩
 |x::l,h=>by
  obtain⟨g,o⟩:=Hi h0 (l:=l) λy r=>h y (.tail _ r)
  have hx:=h x (.head _);rw[List.foldr_cons];refine⟨Int.max_le.mpr ⟨hx,g⟩,λz=>?_⟩
  rcases fC.mp z with rfl|z
  . exact Int.max_eq_left g
  . rw[o z];exact Int.max_eq_right hx
structure Kt(s:Gs):Prop where
 d1:(s.ol.map (·.i)).Nodup
 tn:∀v∈s.ol,v.m∈s.K.map (·.2)
 kt:∀x∈s.K,cW s.ol x.2=true
 ov:∀v∈s.ol,s.now<v.ov
 nw:0<=s.now
noncomputable def gu (f:Fm)(s:Gs)(p:List Ow):Gs:={ s with ol:=s.ol.filter λu=>decide (u.i∉p.map (·.i)),K:=s.K.filter λx=>cW (s.ol.filter λu=>decide (u.i∉p.map (·.i))) x.2,un:=λx=>if x∈s.K.map (·.2)/\cW (s.ol.filter λu=>decide (u.i∉p.map (·.i))) x=false then sy s.ol x+f.t3 else s.un x }
theorem aS:cW a m=true↔∃u∈a,u.m=m:=by
 unfold cW;rw[List.any_eq_true];exact⟨λ⟨u,h,z⟩=>⟨u,h,eI z⟩,λ⟨u,h,z⟩=>⟨u,h,cu z⟩⟩
theorem Xj(K:Kt s):gu f s []=s:=by
 have e1:(s.ol.filter λu=>decide (u.i∉([]:List Ow).map (·.i)))=s.ol:=mF.mpr λu _=>cu (List.not_mem_nil)
 have e2:(s.K.filter λx=>cW s.ol x.2)=s.K:=mF.mpr λx hx=>K.kt x hx
 have e3:(λx=>if x∈s.K.map (·.2)/\cW s.ol x=false then sy s.ol x+f.t3 else s.un x)=s.un:=by
  funext x;rw[ab];rintro ⟨h1,h2⟩;obtain⟨y,hy,rfl⟩:=aA.mp h1;rw[K.kt y hy]at h2;cases h2
 unfold gu;rw[e1,e2,e3]
theorem VY{p:List Ow}{v:Ow}(d1:(s.ol.map (·.i)).Nodup)(tn:∀v∈s.ol,v.m∈s.K.map (·.2))(o0:0<=v.ov)(h:v∈s.ol)(F:v.i∉p.map (·.i))(H:∀u∈p,u∈s.ol/\u.ov<=v.ov):ku f (gu f s p) v v.ov=gu f s (p++ [v]):=by
 have eB:(gu f s p).ol.filter (λu=>decide (u.i≠v.i))=s.ol.filter λu=>decide (u.i∉(p++ [v]).map (·.i)):=by
  show(s.ol.filter _).filter _=_;rw[wy];refine jy λu _=>?_
  rw[eC,<-Bool.decide_and];refine kM.mpr ⟨λz q=>?_,λz=>⟨λq=>z (c6.mpr (.inr (by rw[q];exact .head _))),λq=>z (c6.mpr (.inl q))⟩⟩
  rcases c6.mp q with q|q
  . exact z.2 q
  . exact z.1 (eG.mp q)
 have A:∀x,cW (gu f s p).ol x=true↔cW (s.ol.filter λu=>decide (u.i∉(p++ [v]).map (·.i))) x=true∨x=v.m:=λx=>by
  rw[<-eB,aS,aS]
  constructor
  . rintro ⟨u,a,rfl⟩
    by_cases z:u.i=v.i
    . exact .inr (by rw[et d1 (cb.mp a).1 h z])
    . exact .inl ⟨u,cb.mpr ⟨a,cu z⟩,rfl⟩
  . rintro (⟨u,a,rfl⟩|rfl)
    . exact⟨u,(cb.mp a).1,rfl⟩
    . exact⟨v,cb.mpr ⟨h,cu F⟩,rfl⟩
 have r:∀x,x≠v.m->cW (gu f s p).ol x=cW (s.ol.filter λu=>decide (u.i∉(p++ [v]).map (·.i))) x:=λx hx=>by
  rw[Bool.eq_iff_iff,A];exact⟨λz=>z.resolve_right hx,.inl⟩
 unfold ku;rw[eB]
 by_cases g:cW (s.ol.filter λu=>decide (u.i∉(p++ [v]).map (·.i))) v.m=true
 . have kB:∀x,cW (s.ol.filter λu=>decide (u.i∉p.map (·.i))) x=cW (s.ol.filter λu=>decide (u.i∉(p++ [v]).map (·.i))) x:=λx=>by
    by_cases z:x=v.m
    . rw[z,g];exact(A v.m).mpr (.inr rfl)
    . exact r x z
   rw[ag g];unfold gu;simp only[kB]
 . rw[ab g]
   have g:=(Bool.not_eq_true _).mp g;have I:sy s.ol v.m=v.ov:=by
    unfold sy;refine(Hi o0 λx hx=>?_).2 (aA.mpr ⟨v,cb.mpr ⟨h,cu rfl⟩,rfl⟩)
    obtain⟨u,a,rfl⟩:=aA.mp hx;obtain⟨a,o⟩:=cb.mp a;have o:=eI o;have:u.i∈(p++ [v]).map (·.i):=Classical.byContradiction λz=>by
     have:cW (s.ol.filter λu=>decide (u.i∉(p++ [v]).map (·.i))) v.m=true:=aS.mpr ⟨u,cb.mpr ⟨a,cu z⟩,o⟩
     rw[g]at this;cases this
    obtain⟨w,l,e1⟩:=aA.mp this;rcases c6.mp l with l|l
    . obtain⟨D,E⟩:=H w l
      rw[<-et d1 D a e1];exact E
    . cases eG.mp l
      rw[et d1 a h e1.symm];exact rU _
   have e1:((gu f s p).K.filter λx=>decide (x.2≠v.m))=s.K.filter λx=>cW (s.ol.filter λu=>decide (u.i∉(p++ [v]).map (·.i))) x.2:=by
    show(s.K.filter _).filter _=_;rw[wy];refine jy λx _=>?_
    by_cases z:x.2=v.m
    . rw[z,g];simp
    . rw[cu z,Bool.true_and];exact r _ z
   have C:(λx=>if x=v.m then v.ov+f.t3 else(gu f s p).un x)=(gu f s (p++ [v])).un:=by
    funext x;show _=if x∈s.K.map (·.2)/\cW (s.ol.filter λu=>decide (u.i∉(p++ [v]).map (·.i))) x=false then sy s.ol x+f.t3 else s.un x
    by_cases z:x=v.m
    . rw[ag z,z,ag ⟨tn v h,g⟩,I]
    . rw[ab z,<-r x z];rfl
   rw[e1,C];rfl
theorem Io(d1:(s.ol.map (·.i)).Nodup)(tn:∀v∈s.ol,v.m∈s.K.map (·.2))(o0:∀v∈s.ol,0<=v.ov):∀{l p:List Ow},(∀v∈p++l,v∈s.ol)->((p++l).map (·.i)).Nodup->(p++l).Pairwise (λa b=>a.ov<=b.ov)->yW f (gu f s p) l=gu f s (p++l)
 | [],p,_,_,_=>by rw[nU];rfl
 |v::l,p,hl,nd,so=>by
  have e1:p++v::l=(p++ [v])++l:=by simp
  have hv:=hl v (c6.mpr (.inr (.head _)));show yW f (ku f (gu f s p) v v.ov) l=_;rw[VY d1 tn (o0 v hv) hv ?_ λu hu=>⟨hl u (c6.mpr (.inl hu)),?_⟩,Io d1 tn o0 (by rw[<-e1];exact hl) (by rw[<-e1];exact nd) (by rw[<-e1];exact so),<-e1]
  . rw[eC,List.nodup_append]at nd
    exactλz=>nd.2.2 _ z _ (aA.mpr ⟨v,.head _,rfl⟩) rfl
  . exact(List.pairwise_append.mp so).2.2 u hu v (.head _)
noncomputable def nr (s:Gs)(t:Int):List Ow:=s.ol.filter λu=>decide (t<u.ov)
noncomputable def fY (f:Fm)(s:Gs)(t:Int):Gs:=⟨s.now+t,s.mr,s.K.filter λx=>cW (nr s (s.now+t)) x.2,λx=>if x∈s.K.map (·.2)/\cW (nr s (s.now+t)) x=false then sy s.ol x+f.t3 else s.un x,nr s (s.now+t)⟩
theorem TQ(G:Gd e ad f k d c tl M0 M)(hk:k<64)(htb:M0 e.lP=some (ck e))(ht:0<=t)(kt:Kt (gs c tl))(hq:∀c' tl' M',Gd e ad f k d c' tl' M0 M'->gs c' tl'=fY f (gs c tl) t->c'.ds=c.ds->Q .aw (LG e ad f c' M')):
 ao (P e) (n+4) 42 [.ref (ad 1),.int t] (LG e ad f c M) Q:=by
 have Hj:=G.ij;have G1:=G.at_ ht;obtain⟨p1,p2,p3,p4⟩:=G.fr _ _ htb;rw[us (i:=42) (d:=aN) rfl];simp only[aN];fail"ev";rw[RT];fail"ev";refine WC (lg Hj (Nat.le_of_ble_eq_true rfl)) (λK hK=>by fail"ev";exact hK) ?_
 rw[lp Hj (Nat.le_of_ble_eq_true rfl)];have ht1:LG e ad f { c with now:=c.now+t } M (ad 1)=some (cA e ad f (c.now+t)):=lg Hj (Nat.le_of_ble_eq_true rfl)
 have hb1:LG e ad f { c with now:=c.now+t } M (ad 5)=some (.dt (eA c.B)):=lg Hj (Nat.le_of_ble_eq_true rfl)
 have htb1:LG e ad f { c with now:=c.now+t } M e.lP=some (ck e):=(lo p2).trans p1
 have hat:∀T∈tl,LG e ad f { c with now:=c.now+t } M T.a=some (kI e T):=λT hT=>(lo (G.tk T hT).2).trans (G.tk T hT).1
 show(tr ((P e).Gn (n+3)) _).S _ _ (LG e ad f { c with now:=c.now+t } M)
 generalize hL:LG e ad f { c with now:=c.now+t } M=L at ht1 hb1 htb1 hat ⊢
 fail"ev";rw[ht1];fail"ev";rw[VR ht1 hb1,KY];have exs:(c.B.map λx=>RV.ref x.2)=tl.map λT=>RV.ref T.a:=by rw[G.cB];unfold kJ;rw[bp];rfl
 rw[exs];have hov:∀T∈tl,xb L (c.now+t) (.ref T.a)=decide (T.ov<=c.now+t):=λT hT=>by
  unfold xb;simp only[hat T hT];rfl
 have h64:tl.length<64:=iJ G.s0 hk;refine⟨by rw[aW];exact gn h64 ⋯,jN (bd:=gk false 1) (xb L (c.now+t)) id fW _ _ (λx hx=>?_) ?_⟩
 . obtain⟨T,hT,rfl⟩:=aA.mp hx
   have h:=hat T hT;refine⟨[.ref T.a],rfl,λK hK=>?_,λ_ K hK=>?_⟩
   . rw[hov T hT]at hK
     show(tr ((P e).Gn (n+3)) _).T [some (.ref T.a),some (.ref (ad 1))] _ K;fail"ev";rw[h];fail"ev";rw[ht1];fail"ev";exact hK
   . show(tr ((P e).Gn (n+3)) _).E [some (.ref T.a),some (.ref (ad 1))] _ K
     fail"ev";exact hK
 . rw[u6,kL,List.map_id]
   have ef:(tl.map λT=>RV.ref T.a).filter (xb L (c.now+t))=(tl.filter λT=>decide (T.ov<=c.now+t)).map λT=>RV.ref T.a:=by
    rw[nO];congr 1;exact jy λT hT=>hov T hT
   have sub:∀T∈tl.filter λT=>decide (T.ov<=c.now+t),T∈tl:=λT h=>(cb.mp h).1
   rw[ef];refine⟨(tl.filter λT=>decide (T.ov<=c.now+t)).map λT=>(T.ov,T.a),.inl (by rw[bp,bp];rfl),λz hz=>?_,?_,htb1,λys' hp hs=>?_⟩
   . obtain⟨T,hT,rfl⟩:=aA.mp hz
     exact⟨_,hat T (sub T hT),rfl⟩
   . rw[aW];exact iJ (jY _ _) h64
   . obtain⟨ys,py,rfl⟩:=GO hp
     rw[KY,show((ys.map λT=>(T.ov,T.a)).map Prod.snd).map RV.ref=ys.map λT=>RV.ref T.a by rw[bp,bp];rfl]
     subst hL;rw[nR]at hs;have nd2:(ys.map (·.a)).Nodup:=(py.map _).nodup_iff.mpr (sJ G.d6)
     refine Kk (gn hk ⋯) ys G1 (λT hT=>sub T (py.mem_iff.mp hT)) nd2 λc' tl' M' z G' h1 h2=>hq c' tl' M' G' ?_ h2
     rw[h1];have st:gu f (gs { c with now:=c.now+t } tl) []=gs { c with now:=c.now+t } tl:=by
      have:=Xj (f:=f) kt;injection this with _ _ h3 h4 h5
      unfold gu;rw[show(gs { c with now:=c.now+t } tl).ol=(gs c tl).ol from rfl,show(gs { c with now:=c.now+t } tl).K=(gs c tl).K from rfl,show(gs { c with now:=c.now+t } tl).un=(gs c tl).un from rfl,h3,h4,h5]
      rfl
     rw[<-st,Io (p:=[]) (s:=gs { c with now:=c.now+t } tl) kt.d1 kt.tn ?_ ?_ ?_ ?_,kL]
     . have eo:((gs c tl).ol.filter λu=>decide (u.i∉(ys.map Tk.w).map (·.i)))=nr (gs c tl) ((gs c tl).now+t):=jy λu hu=>by
        obtain⟨U,hU,rfl⟩:=aA.mp hu;refine kM.mpr ⟨λz=>Int.not_le.mp λq=>z (aA.mpr ⟨U.w,aA.mpr ⟨U,py.mem_iff.mpr (cb.mpr ⟨hU,cu q⟩),rfl⟩,rfl⟩),λz h=>?_⟩
        obtain⟨w,hw,e2⟩:=aA.mp h;obtain⟨V,hV,rfl⟩:=aA.mp hw;obtain⟨h1,h2⟩:=cb.mp (py.mem_iff.mp hV);have h3:=eI h2;have h4:V=U:=et G.d6 h1 hU (Classical.byContradiction λq=>(G.lG hU h1).mp q e2)
        rw[h4]at h3;have z:c.now+t<U.ov:=z;lia
       unfold gu fY;rw[show(gs { c with now:=c.now+t } tl).ol=(gs c tl).ol from rfl,eo]
       rfl
     . intro v hv;have h1:=kt.ov v hv;have h2:=kt.nw;lia
     . intro v hv
       obtain⟨U,hU,rfl⟩:=aA.mp hv;exact wt (sub U (py.mem_iff.mp hU))
     . rw[kL,bp]
       have:(ys.map λT=>T.i.k).Nodup:=(py.map _).nodup_iff.mpr (sJ G.d1)
       exact nR.mpr ((nR.mp this).imp λh z=>h (congrArg ba.k z))
     . rw[kL]
       exact nR.mpr hs
end
section
variable {e:Env}{n:Nat}{M M0:RM}{Q:ak}{ad:Nat->Addr}{f:Fm}{i j:ba}{k d:Nat}{c:Cn}{tl:List Tk}{t u m mo p q:Int}{v:RV}{st s1 wd kd sd:Str}{b x y:Addr}{T U:Tk}{s0:Option Str}{s:Gs}
noncomputable def gV:az:=["shut","asked","called","up","near","far"]
theorem Vt:(steps.all λp=>gV.contains p.2)=true:=by decide+kernel
theorem CD(hk:Kd kd)(h:nx kd s0 sd wd=some st):st= "shut"∨Sw kd st:=by
 unfold nx at h;rcases hk with rfl|rfl
 . rw[ag rfl]at h
   split at h
   . cases h;exact .inr (.inl ⟨rfl,rfl⟩)
   . cases h
 . rw[ab (by decide+kernel)]at h
   unfold uL at h;split at h
   . split at h
     . cases h;exact .inl rfl
     . cases h
   . obtain⟨p,hp,rfl⟩:=nM.mp h
     have:=fx.mp Vt p (gP hp);have:p.2∈gV:=by simpa using this
     unfold gV at this;simp only[fC,List.not_mem_nil,or_false]at this;rcases this with h|h|h|h|h|h
     . exact .inl h
     . exact .inr (.inr ⟨rfl,.inl h⟩)
     . exact .inr (.inr ⟨rfl,.inr (.inl h)⟩)
     . exact .inr (.inr ⟨rfl,.inr (.inr (.inl h))⟩)
     . exact .inr (.inr ⟨rfl,.inr (.inr (.inr (.inl h)))⟩)
     . exact .inr (.inr ⟨rfl,.inr (.inr (.inr (.inr h)))⟩)
theorem WK(a:Kd kd)(h:nx kd none sd wd=some st):Sw kd st:=by
 refine(CD a h).resolve_left λz=>?_
 subst z;unfold nx at h;rcases a with rfl|rfl
 . rw[ag rfl]at h
   split at h
   . injection h with h;exact aU h (by decide+kernel)
   . cases h
 . rw[ab (by decide+kernel)]at h
   unfold uL at h;split at h
   . split at h
     . rename_i z;exact aU z (by decide+kernel)
     . cases h
   . obtain⟨p,g,e1⟩:=nM.mp h
     have l:=eI (j4 (p:=λp:TK×Str=>decide (p.1=_)) g)
     have o:(steps.all λp=>p.2 != ("shut":Str)||(p.1.getD 1 none).isSome)=true:=by decide+kernel
     have:=fx.mp o p (gP g);rw[l,e1]at this;exact aU (show(("shut":Str) != "shut" ||(none:Option Key).isSome)=true from this) (by decide+kernel)
inductive An where
 |kept (x:Str)
 |led (m:Int)
 |je (h d:Int)
 |told (h d:Int)
 |aw
noncomputable def An.r:An->RV
 | .kept x=>.tup [.str "kept",.str x]
 | .led m=>.tup [.str "led",.int m]
 | .je h d=>.tup [.str "in",.int h,.int d]
 | .told h d=>.tup [.str "told",.int h,.int d]
 | .aw=>.aw
noncomputable def lV (f:Fm)(s:Gs)(i:ba)(st:Str):An×Gs:=match lk s.K (bD f i)with
 |some m=>(.led m,l8 f s i m st)
 |none=>if f.most<=heldW s i.house then(.kept "most",s)else match qY f s i.door with
  |none=>(.kept "full",s)
  |some m=>(.led m,l8 f (tq f s i m) i m st)
noncomputable def bz (f:Fm)(s:Gs)(i:ba)(wd:Str):An×Gs:=match s.ol.find? λu=>decide (u.i=i)with
 |some v=>match nx i.kind (some v.st) "house" wd with
  |none=>(.kept "astray",s)
  |some st=>(.led v.m,jl f s v st)
 |none=>match nx i.kind none "house" wd with
  |none=>(.kept "astray",s)
  |some st=>lV f s i st
theorem Gd.ql(G:Gd e ad f k d c tl M0 M)(a:T∈tl):(tl.map Tk.w).find? (λu=>decide (u.i=T.i))=some T.w:=by
 cases h:(tl.map Tk.w).find? (λu=>decide (u.i=T.i))with
 |none=>rw[jZ]at h;exact aU (cu rfl) (h T.w (wt a))
 |some w=>
  have g:=eI (j4 (p:=λu:Ow=>decide (u.i=T.i)) h)
  obtain⟨U,l,rfl⟩:=aA.mp (gP h);rw[et G.d1 l a (congrArg ba.k g)]
theorem S5(h:∀U∈tl,U.i≠i):(tl.map Tk.w).find? (λu=>decide (u.i=i))=none:=jZ.mpr λw g z=>by
 obtain⟨U,a,rfl⟩:=aA.mp g;exact h U a (eI z)
theorem Gd.begin(G:Gd e ad f k d c tl M0 M)(tb:Tb e)(N:k<900)(h0:tl.length<k)(H:c.N.length<k)(l:∀U∈tl,U.i≠i)(o:lk c.K (bD f i)=some m)(h:Sw i.kind st/\i.Ok)
 (D:∀g a z,Gd e ad f k d g a M0 z->gs g a=l8 f (gs c tl) i m st->g.ds=c.ds->Q .aw (LG e ad f g z)):ao (P e) (n+3) 82 [.ref (ad 1),i.r,.int m,.str st] (LG e ad f c M) Q:=by
 have E:c.B.length<1000:=by rw[G.cB];unfold kJ;rw[aW];exact iJ G.s0 ∅
 have C:=G.lL o l;have A:∀x,(tl++ [(⟨i,x,m,st,c.now+f.tm st⟩:Tk)]).map Tk.w=tl.map Tk.w++ [(⟨i,m,st,c.now+f.tm st⟩:Ow)]:=λx=>by rw[eC];rfl
 cases hN:lk c.N m with
 |none=>exact VF tb h.1.ws G.ij E (iJ G.s2 ∅) hN λx y hx w J L r=>D _ _ _ (G.b0 (ov:=c.now+f.tm st) l C o h hN hx w J L r h0 H) (by unfold gs l8;rw[A];rfl) rfl
 |some b=>
  obtain⟨b1,F⟩:=G.nb _ (gB hN);refine VE tb h.1.ws G.ij E ?_ hN F b1 λx hx w I=>D _ _ _ (G.b1 (ov:=c.now+f.tm st) l C o h hN hx w h0) (by unfold gs l8;rw[A];rfl) rfl
  unfold outs;rw[aW];exact iJ (bQ (jY _ _) G.s0) ∅
theorem Gd.lD(G:Gd e ad f k d c tl M0 M):∀x∈c.H,∃k j r,x.2=k::some (.inl j)::r:=λx hx=>by
 rw[G.cH]at hx;obtain⟨y,a,rfl⟩:=aA.mp hx;obtain⟨⟨i,_,h⟩,_⟩:=G.hk y a;show ∃k j r,y.1=_;rw[h];unfold bD ba.k;split
 . exact⟨_,_,_,rfl⟩
 . split<;>exact⟨_,_,_,rfl⟩
theorem Gd.held_eq(G:Gd e ad f k d c tl M0 M):((vw c.H h).length:Int)=heldW (gs c tl) h:=by
 unfold vw heldW gs;rw[G.cH,aW,nO,aW];rfl
theorem Gd.free_eq(G:Gd e ad f k d c tl M0 M):(λi=>(pS f c).free i c.now)=jo f (gs c tl):=by
 funext x;unfold aI.free aI.has pS jo gs nK;dsimp only;have e1:(lk c.T x).isSome=decide (x∈c.K.map (·.2)):=by rw[Cm,G.cT,bp];rfl
 have nw:=G.nw;rw[e1];have a:∀o:Option Int,(match o with|none=>true|some u=>decide (u<=c.now))=decide (o.getD 0<=c.now):=λo=>by cases o<;>simp[nw]
 exact congrArg (λb=>(decide (f.low<=x)&&decide (x<=f.high)&& !decide (x∈c.K.map (·.2))&&b)) (a _)
theorem Gd.iu(G:Gd e ad f k d c tl M0 M){dd:Int}:(pS f c).pick (f.pick== "keep") dd c.now=qY f (gs c tl) dd:=by
 unfold aI.pick qY;rw[show(pS f c).free dd c.now=jo f (gs c tl) dd from congrFun G.free_eq dd,G.free_eq]
 rfl
theorem Bg(h:qY f s m=some u):jo f s u=true:=by
 unfold qY at h;split at h
 . rename_i z;cases h;exact((bj _ _).mp z).2
 . exact j4 (p:=jo f s) h
theorem BO(h:jo f s u=true):u∉s.K.map (·.2)/\f.low<=u/\u<=f.high:=by
 unfold jo at h;simp only[bj,ib,i9,decide_eq_false_iff_not]at h;exact⟨h.1.2,h.1.1⟩
theorem Gd.QF(G:Gd e ad f k d c tl M0 M)(a:f.Ok):(pS f c).Ok:=⟨a.lo,G.mr.1,G.mr.2,a.hi,a.wide⟩
theorem Gd.begin_out(G:Gd e ad f k d c tl M0 M)(tb:Tb e)(okf:f.Ok)(hk:k<800)(hB:∀U∈tl,U.i≠i)(hw:Sw i.kind st/\i.Ok)
 (hq:∀c' tl' M',Gd e ad f (k+1) d c' tl' M0 M'->gs c' tl'=(lV f (gs c tl) i st).2->c'.ds=c.ds->Q (lV f (gs c tl) i st).1.r (LG e ad f c' M')):ao (P e) (n+5) 73 [.ref (ad 0),i.r,.str st] (LG e ad f c M) Q:=by
 have Hj:=G.ij;have G1:=G.mono (ja k) (aD d);rw[us (i:=73) (d:=xt) rfl];simp only[xt];unfold Gu;fail"evl";rw[S8 Hj];unfold lV at hq;rw[show(gs c tl).K=c.K from rfl]at hq
 cases hK:lk c.K (bD f i)with
 |some m=>
  rw[hK]at hq;rw[J4];unfold DG;fail"evl";unfold DE;fail"evl";exact G1.begin tb ∅ (zJ G.s0) (zJ G.s2) hB hK hw λc' tl' M' G' h1 h2=>by unfold DC;fail"ev";exact hq c' tl' M' G' h1 h2
 |none=>
  rw[hK]at hq;dsimp only at hq;rw[<-G.held_eq,<-G.iu]at hq;rw[J5];unfold DG;fail"evl";rw[Ee];have lH:c.H.length=c.K.length:=by rw[G.cH,aW]
  have s1:=G.s1;refine XG Hj G.lD ∅ λl hl=>?_
  fail"evl";rw[P9];fail"evl"
  by_cases hmo:f.most<=((vw c.H i.house).length:Int)
  . rw[ag (by simpa using hmo)]
    rw[ag hmo]at hq;exact hq _ _ _ G1 rfl rfl
  . rw[ab (by simpa using hmo),Ef]
    rw[ab hmo]at hq;refine SY Hj (G.QF okf) ?_;cases hp:(pS f c).pick (f.pick== "keep") i.door c.now with
    |none=>
     rw[hp]at hq;dsimp only at hq;rw[J5];fail"evl";exact hq _ _ _ G1 rfl rfl
    |some m=>
     rw[hp]at hq;dsimp only at hq;rw[J4];fail"evl";rw[G.iu]at hp;obtain⟨f1,f2⟩:=BO (Bg hp);have lT:c.T.length=c.K.length:=by rw[G.cT,aW]
     refine XE Hj ∅ ∅ ∅ ?_
     have G1:=G.gx hw.2 hK f2 f1;have hK1:lk (c.gx f i m).K (bD f i)=some m:=CG;have el:gs (c.gx f i m) tl=tq f (gs c tl) i m:=by
      unfold gs Cn.gx tq;dsimp only;rw[quz,m9 hK]
     rw[<-el]at hq;unfold DE;fail"evl";refine G1.begin tb ∅ (zJ G.s0) (zJ G.s2) hB hK1 hw λc' tl' M' G' h1 h2=>?_
     unfold DC;fail"ev";exact hq c' tl' M' G' h1 h2
theorem Gd.lead_out(G:Gd e ad f k d c tl M0 M)(tb:Tb e)(okf:f.Ok)(hk:k<800)(oki:i.Ok)
 (hq:∀c' tl' M',Gd e ad f (k+1) d c' tl' M0 M'->gs c' tl'=(bz f (gs c tl) i wd).2->c'.ds=c.ds->Q (bz f (gs c tl) i wd).1.r (LG e ad f c' M')):ao (P e) (n+6) 72 [.ref (ad 0),i.r,.str wd] (LG e ad f c M) Q:=by
 have Hj:=G.ij;have G1:=G.mono (ja k) (aD d);unfold bz at hq;rw[show(gs c tl).ol=tl.map Tk.w from rfl]at hq
 rw[us (i:=72) (d:=xx) rfl];simp only[xx];unfold Gh;fail"evl";rw[TZ Hj];cases hB:lk c.B i.k with
 |none=>
  have nB:=G.nV hB;rw[S5 nB]at hq;dsimp only at hq;rw[Cj];unfold Dy;fail"evl";rw[Ed,qwA];cases hs:nx i.kind none "house" wd with
  |none=>
   rw[hs]at hq;rw[show oS none= .aw from rfl]
   unfold vZ;fail"evl";exact hq _ _ _ G1 rfl rfl
  |some st=>
   rw[hs]at hq;rw[show oS (some st)= .str st from rfl]
   unfold vZ;fail"evl";unfold Dx;fail"evl";exact G.begin_out tb okf hk nB ⟨WK oki.kind hs,oki⟩ hq
 |some x=>
  obtain⟨T,hT,rfl,rfl⟩:=G.nW hB;obtain⟨t1,t2⟩:=G.tk T hT;rw[G.ql hT]at hq;dsimp only at hq;rw[Ci];unfold Dy;fail"evl";rw[Ed];fail"evl";rw[LD];cases hs:nx T.i.kind (some T.st) "house" wd with
  |none=>
   rw[show nx T.i.kind (some T.w.st) "house" wd=none from hs]at hq
   rw[show oS none= .aw from rfl]
   unfold vZ;fail"evl";exact hq _ _ _ G1 rfl rfl
  |some st=>
   rw[show nx T.i.kind (some T.w.st) "house" wd=some st from hs]at hq
   rw[show oS (some st)= .str st from rfl]
   unfold vZ;fail"evl";unfold Dx;fail"evl";unfold Gg;fail"evl";refine G.led tb ∅ hT (CD oki.kind hs) λc' tl' M' G' h1 h2 h3=>?_
   obtain⟨s',o',h3⟩:=h3;have o3:=(G.tk T hT).2;clear t1;have hq:=hq c' tl' M' (G'.mono (ja k) (aD d)) h1 h2;unfold Gb;fail"evl";exact hq
end
section
variable {e:Env}{n:Nat}{M M0:RM}{Q:ak}{ad:Nat->Addr}{f:Fm}{i j:ba}{k d:Nat}{c:Cn}{tl:List Tk}{t ov u m mo p q:Int}{v:RV}{st s1 wd kd:Str}{b x y:Addr}{T U:Tk}{s:Gs}
theorem Jz(h:lk (outs tl m) κ=some x):∃T∈tl,T.m=m/\bA T.i=κ/\T.a=x:=by
 obtain⟨T,a,e1⟩:=aA.mp (gB h);obtain⟨a,l⟩:=cb.mp a;injection e1 with e1 g
 exact⟨T,a,eI l,e1,g⟩
theorem Gd.of_outer(G:Gd e ad f k d c tl M0 M):ao (P e) (n+1) 86 [.ref (ad 1),.str kd,.int m,.int p,.int q] (LG e ad f c M) Q=Q (vR (lk (outs tl m) (oK kd p q))) (LG e ad f c M):=by
 cases hN:lk c.N m with
 |none=>
  rw[S7 G.ij hN];have:outs tl m= []:=by
   unfold outs;rw[wq.mpr λU l h=>aQ.mp hN (by rw[<-eI h];exact G.tb U l)];rfl
  rw[this];rfl
 |some b=>
  obtain⟨a,g⟩:=G.nb _ (gB hN);exact S6 G.ij hN g a
noncomputable def i4 (kd:Str)(m p q:Int)(v:Ow):Bool:=decide (v.m=m/\bA v.i=oK kd p q)
noncomputable def vm (s:Gs)(m p:Int):Bool:=s.ol.any λv=>decide (v.m=m)&&decide (v.i.place=p)
noncomputable def sh:TK->Str×Int×Int
 |some (.inr k)::some (.inl h)::some (.inl d)::_=>(k,h,d)
 |_=>("",0,0)
noncomputable def qW (f:Fm)(s:Gs)(kd:Str)(p m:Int):An:=match s.K.find? λx=>decide (x.2=m)with
 |none=>.kept "nobody"
 |some x=>if(sh x.1).1≠kd then .kept "nobody" else if kd= "line"∨¬(f.sieve= "all"∨f.sieve= "place"/\vm s m p=true)then .kept "sieve" else .je (sh x.1).2.1 (sh x.1).2.2
noncomputable def bZ (f:Fm)(s:Gs)(kd wd:Str)(m p q:Int):An×Gs:=match s.ol.find? (i4 kd m p q)with
 |some v=>match nx v.i.kind (some v.st) "far" wd with
  |none=>(.kept "astray",s)
  |some st=>(.je v.i.house v.i.door,if f.renew=true∨st≠v.st then jl f s v st else s)
 |none=>if f.low<=m/\m<=f.high then(qW f s kd p m,s)else(.kept "nobody",s)
noncomputable def fN (s:Gs)(kd:Str)(m p q:Int):An:=match s.ol.find? (i4 kd m p q)with
 |some v=>.told v.i.house v.i.door
 |none=>.kept "nobody"
theorem Gd.jH(G:Gd e ad f k d c tl M0 M)(l:T∈tl)(a:T.m=m)(g:bA T.i=oK kd p q):(tl.map Tk.w).find? (i4 kd m p q)=some T.w:=by
 cases h:(tl.map Tk.w).find? (i4 kd m p q)with
 |none=>rw[jZ]at h;exact aU (cu ⟨a,g⟩) (h T.w (wt l))
 |some v=>
  have o:i4 kd m p q v=true:=j4 h;obtain⟨w,z⟩:=eI o;obtain⟨U,r,rfl⟩:=aA.mp (gP h);rw[G.od U r T l (w.trans a.symm) (z.trans g.symm)]
theorem JR(h:lk (outs tl m) (oK kd p q)=none):(tl.map Tk.w).find? (i4 kd m p q)=none/\∀U∈tl,U.m=m->bA U.i≠oK kd p q:=by
 have z:∀U∈tl,U.m=m->bA U.i≠oK kd p q:=λU a g l=>aQ.mp h (aA.mpr ⟨_,aA.mpr ⟨U,cb.mpr ⟨a,cu g⟩,rfl⟩,l⟩)
 refine⟨jZ.mpr λv o r=>?_,z⟩
 obtain⟨U,a,rfl⟩:=aA.mp o;obtain⟨g,l⟩:=eI r;exact z U a g l
theorem Gd.lead_in(G:Gd e ad f k d c tl M0 M)(tb:Tb e)(hT:T∈tl)(hk:k<1000)(h0:nx T.i.kind (some T.st) "far" wd=none->Q (An.kept "astray").r (LG e ad f c M))
 (h1:∀s,nx T.i.kind (some T.st) "far" wd=some s->∀c' tl' M',Gd e ad f k d c' tl' M0 M'->gs c' tl'=(if f.renew=true∨s≠T.st then jl f (gs c tl) T.w s else gs c tl)->c'.ds=c.ds->Q (An.je T.i.house T.i.door).r (LG e ad f c' M')):
 ao (P e) (n+5) 74 [.ref (ad 0),.ref T.a,.str wd] (LG e ad f c M) Q:=by
 have Hj:=G.ij;obtain⟨t1,t2⟩:=G.tk T hT;have lt:=λs (hs:nx T.i.kind (some T.st) "far" wd=some s) (Q:ak) hq=>G.led (n:=n) (Q:=Q) (st:=s) tb hk hT (CD (G.ws T hT).2.kind hs) hq
 have t3:M T.a=some (fV e (.tup [.str T.i.kind,.int T.i.house,.int T.i.door,.int T.i.place,.int T.i.far]) (.int T.m) (.str T.st) (.int T.ov)):=t1;clear t1;rw[us (i:=74) (d:=xh) rfl];simp only[xh];unfold Gr;fail"evl";unfold Gq;fail"evl";rw[LD];cases hs:nx T.i.kind (some T.st) "far" wd with
 |none=>rw[show oS none= .aw from rfl];unfold DB;fail"evl";exact h0 hs
 |some s=>
  have h1:=h1 s hs;have lt:=lt s hs;rw[show oS (some s)= .str s from rfl]
  unfold DB;fail"evl";unfold Gp;fail"evl";rw[Qa];unfold Gm;fail"evl";unfold Gk;(try fail"ev")
  by_cases h:f.renew=true
  . rw[ag h]
    exact lt _ λc' tl' M' G' h2 h3 _=>h1 c' tl' M' G' (by rw[ag (.inl h)];exact h2) h3
  . rw[ab h]
    by_cases h5:s=T.st
    . rw[ab (by simpa using h5)]
      exact h1 c tl M G (by rw[ab (λz=>z.elim h λz=>z h5)]) rfl
    . rw[ag (by simpa using h5)]
      exact lt _ λc' tl' M' G' h2 h3 _=>h1 c' tl' M' G' (by rw[ag (.inr h5)];exact h2) h3
noncomputable def Et (p:Int):Option RO->RV
 |some (.ins _ ((_,.tup [_,_,_,.int q,_])::_))=>.bl (q==p)
 |_=>.aw
noncomputable def zj (M:RM)(p:Int):RV->RV
 | .ref a=>Et p (M a)
 |_=>.aw
theorem Gd.is_with(G:Gd e ad f k d c tl M0 M)(I:k<900)(J:m∈c.N.map (·.1))(D:Q (.bl (vm (gs c tl) m p)) (LG e ad f c M)):ao (P e) (n+1) 66 [.ref (ad 1),.int m,.int p] (LG e ad f c M) Q:=by
 have A:=G.ij;obtain⟨⟨l,b⟩,w,e1⟩:=aA.mp J;cases e1;obtain⟨E,F⟩:=G.nb _ w;have O:lk (eB c.N) (.inl l)=some (.ref b):=by rw[mh,ml G.d5 w];rfl
 have r:LG e ad f c M b=some (.dt (eA (outs tl l))):=(lo F).trans E;have g:∀T∈tl,LG e ad f c M T.a=some (kI e T):=λT a=>(lo (G.tk T a).2).trans (G.tk T a).1
 have N:LG e ad f c M (ad 1)=some (cA e ad f c.now):=lg A (Nat.le_of_ble_eq_true rfl);have H:LG e ad f c M (ad 6)=some (.dk (eB c.N)):=lg A (Nat.le_of_ble_eq_true rfl);generalize LG e ad f c M=L at r g N H D ⊢;rw[us (i:=66) (d:=xu) rfl];simp only[xu];fail"evs";unfold kH;simp only[r];have e0:mn false (eA (outs tl l))=(tl.filter λT=>decide (T.m=l)).map λT=>RV.ref T.a:=by unfold mn eA enc outs;rw[ab ⋯,bp,bp];rfl
 have C:∀T∈tl,zj L p (.ref T.a)= .bl (T.i.place==p):=λT a=>by
  show Et p (L T.a)=_;rw[g T a];rfl
 rw[e0];refine⟨by rw[aW];exact iJ (bQ (jY _ _) G.s0) (gn I ⋯),jN (bd:=gk false 1) (λ_=>true) (zj L p) bo _ _ (λx hx=>?_) ?_⟩
 . obtain⟨T,a,rfl⟩:=aA.mp hx
   have a:=(cb.mp a).1;have h:=g T a;refine⟨[.ref T.a],rfl,λK o=>o,λ_ K o=>?_⟩
   rw[C T a]at o;have nb:T.a≠b:=G.jb a w;show(tr ((P e).Gn n) _).E [some (.ref T.a),some (.int p)] _ K;fail"ev";rw[put_ne nb,h];fail"ev";unfold ba.r;fail"ev";exact o
 . show eY "any" [.ls ([]++(((tl.filter λT=>decide (T.m=l)).map λT=>RV.ref T.a).filter λ_=>true).map (zj L p))] (put (put L b (.ft _)) b (.dt _)) Q
   rw[fK,uU r,kL,mF.mpr (λ_ _=>rfl),bp]
   rw[show List.map (zj L p ∘ λT=>RV.ref T.a) (tl.filter λT=>decide (T.m=l))=((tl.filter λT=>decide (T.m=l)).map λT=>T.i.place==p).map RV.bl by rw[bp];exact jx λT a=>C T (cb.mp a).1]
   rw[ZO];refine(congrArg (λz=>Q (.bl z) L) ?_).mpr D
   unfold vm gs;rw[List.any_map,List.any_map,List.any_filter];rfl
theorem P7:d7 f.r (.int 3) M Q=Q (.str f.sieve) M:=bE.trans (by rw[Mp];rfl)
theorem Gd.lets(G:Gd e ad f k d c tl M0 M)(l:k<900)(o:m∈c.N.map (·.1))(a:Q (.bl (decide (f.sieve= "all"∨f.sieve= "place"/\vm (gs c tl) m p=true))) (LG e ad f c M)):ao (P e) (n+2) 75 [.ref (ad 0),.int p,.int m] (LG e ad f c M) Q:=by
 have w:=G.ij;rw[us (i:=75) (d:=xy) rfl];simp only[xy];fail"evl";rw[P7];fail"evl"
 by_cases g:f.sieve= "all"
 . rw[cu (.inl g)]at a
   rw[ag (by simpa using g)];first|exact a|trivial
 . rw[ab (by simpa using g)]
   by_cases h:f.sieve= "place"
   . have r:ao (P e) (n+1) 66 [.ref (ad 1),.int m,.int p] (LG e ad f c M) Q:=G.is_with l o (by
      refine(congrArg (λz=>Q (.bl z) (LG e ad f c M)) ?_).mp a
      rw[Bool.eq_iff_iff,ib];exact⟨λz=>(z.resolve_left g).2,λz=>.inr ⟨h,z⟩⟩)
     rw[ag (by simpa using h)];first|exact r|trivial
   . rw[fy (λz=>z.elim g λz=>h z.1)]at a
     rw[ab (by simpa using h)];first|exact a|trivial
theorem Gd.lF(G:Gd e ad f k d c tl M0 M):lk c.H m=(c.K.find? λx=>decide (x.2=m)).map (·.1):=by
 rw[G.cH];unfold lk;rw[List.find?_map,Option.map_map];rfl
theorem Gd.sifted(G:Gd e ad f k d c tl M0 M)(kt:Kt (gs c tl))(hk:k<900)(g:Q (qW f (gs c tl) kd p m).r (LG e ad f c M)):
 ao (P e) (n+3) 83 [.ref (ad 0),.str kd,.int p,.int m] (LG e ad f c M) Q:=by
 have C:=G.ij;unfold qW at g;rw[show(gs c tl).K=c.K from rfl]at g
 rw[us (i:=83) (d:=xU) rfl];simp only[xU];unfold FF;fail"evl";rw[S9 C,G.lF];cases eh:c.K.find? λx=>decide (x.2=m)with
 |none=>
  rw[eh]at g;unfold DN;fail"evl";exact g
 |some y=>
  rw[eh]at g;dsimp only at g;have l:=gP eh;have A:y.2=m:=eI (j4 (p:=λx:TK×Int=>decide (x.2=m)) eh)
  obtain⟨⟨i,_,E⟩,_⟩:=G.hk _ l;obtain⟨a,b,D⟩:∃a b,y.1= [some (.inr i.kind),some (.inl i.house),some (.inl i.door),a,b]:=by
   rw[E];unfold bD ba.k;split
   . exact⟨_,_,rfl⟩
   . split<;>exact⟨_,_,rfl⟩
  have H:m∈c.N.map (·.1):=by
   obtain⟨w,J,F⟩:=aS.mp (kt.kt y l);obtain⟨T,I,rfl⟩:=aA.mp J;have:=G.tb T I
   rwa [show T.m=m from F.trans A]at this
  have lets:=λ(K:ak) hK=>G.lets (n:=n) (Q:=K) (p:=p) hk H hK
  rw[show sh y.1=(i.kind,i.house,i.door) by rw[D];rfl]at g
  dsimp only at g;simp only[show(Option.map (λx:TK×Int=>x.1) (some y))=some y.1 from rfl,D]
  simp only[show cV [some (.inr i.kind),some (.inl i.house),some (.inl i.door),a,b]= .tup [.str i.kind,.int i.house,.int i.door,oR a,oR b]from rfl]
  unfold DN;fail"ev"
  by_cases h:i.kind=kd
  . rw[ab (by simp[h])]at g ⊢
    subst h;unfold GG;fail"ev"
    by_cases o:i.kind= "line"
    . rw[ag (.inl o)]at g
      rw[ag (by simpa using o)];exact g
    . rw[ab (by simpa using o)]
      rw[show LG e ad f c M (ad 0)=some (cG e ad f)from lg C (Nat.le_of_ble_eq_true rfl)];fail"ev"
      refine lets _ ?_
      by_cases r:f.sieve= "all"∨f.sieve= "place"/\vm (gs c tl) m p=true
      . rw[ab (λz=>z.elim o λz=>z r)]at g
        rw[cu r];fail"ev";unfold GF;fail"ev";exact g
      . rw[ag (.inr r)]at g
        rw[fy r];fail"ev";exact g
  . rw[ag h]at g
    rw[ag (by simpa using h)]
    exact g
theorem Gd.has(G:Gd e ad f k d c tl M0 M):ao (P e) (n+1) 35 [.ref (ad 2),.int m] (LG e ad f c M) Q=Q (.bl (decide (f.low<=m/\m<=f.high))) (LG e ad f c M):=by
 rw[LF (lg G.ij (Nat.le_of_ble_eq_true rfl)),Bool.decide_and]
theorem XH(h:Ij ad 12){a b c':RV}(l:Q .aw (LG e ad f c M)):ao (P e) (n+1) 80 [.ref (ad 10),a,b,c'] (LG e ad f c M) Q:=by
 have o:LG e ad f c M (ad 10)=some (cR e ad):=lg h (Nat.le_of_ble_eq_true rfl);have g:LG e ad f c M (ad 11)=some (.dk []):=lg h (Nat.le_of_ble_eq_true rfl);generalize LG e ad f c M=L at o g l ⊢;rw[us (i:=80) (d:=xp) rfl];simp only[xp];fail"evs";unfold kH;simp only[g];refine⟨bo,?_⟩;fail"ev";rw[uU g];exact l
theorem Gd.come_in(G:Gd e ad f k d c tl M0 M)(tb:Tb e)(kt:Kt (gs c tl))(E:k<900)
 (a:∀l g r,Gd e ad f k d l g M0 r->gs l g=(bZ f (gs c tl) kd wd m p q).2->l.ds=c.ds->Q (bZ f (gs c tl) kd wd m p q).1.r (LG e ad f l r)):
 ao (P e) (n+6) 88 [.ref (ad 0),.str kd,.int p,.int q,.int m,.str wd] (LG e ad f c M) Q:=by
 have A:=G.ij;unfold bZ at a;rw[show(gs c tl).ol=tl.map Tk.w from rfl]at a
 rw[us (i:=88) (d:=xi) rfl];simp only[xi];unfold GD;fail"evl";rw[G.of_outer];cases hn:lk (outs tl m) (oK kd p q)with
 |some x=>
  obtain⟨T,w,F,H,rfl⟩:=Jz hn;rw[G.jH w F H]at a;dsimp only at a;rw[Ci];(try fail"evl");unfold DM;fail"evl";refine G.lead_in tb w ∅ (λh=>?_) λs h l g r z C D=>?_
  . rw[show nx T.w.i.kind (some T.w.st) "far" wd=none from h]at a
    exact a _ _ _ G rfl rfl
  . rw[show nx T.w.i.kind (some T.w.st) "far" wd=some s from h]at a
    exact a _ _ _ z C D
 |none=>
  rw[(JR hn).1]at a;dsimp only at a;rw[Cj];(try fail"evl");unfold DM;fail"evl";unfold GC;fail"evl";rw[G.has,gd]
  by_cases o:f.low<=m/\m<=f.high
  . rw[ag o]at a
    rw[cu o,ag rfl];fail"evl";exact G.sifted kt E (a _ _ _ G rfl rfl)
  . rw[ab o]at a
    rw[fy o,ab ⋯]
    unfold GB;fail"evl";rw[us (i:=89) (d:=xA) rfl];simp only[xA];fail"evl";refine XH A ?_;fail"evl";exact a _ _ _ G rfl rfl
theorem Gd.lost(G:Gd e ad f k d c tl M0 M)(a:Q (fN (gs c tl) kd m p q).r (LG e ad f c M)):ao (P e) (n+2) 48 [.ref (ad 0),.tup [tt,.str kd,.int m,.int p,.int q]] (LG e ad f c M) Q:=by
 have o:=G.ij;unfold fN at a;rw[show(gs c tl).ol=tl.map Tk.w from rfl]at a
 rw[us (i:=48) (d:=xr) rfl];simp only[xr];unfold Ez;fail"evl";unfold Ey;fail"evl";rw[G.of_outer];cases hn:lk (outs tl m) (oK kd p q)with
 |none=>
  rw[(JR hn).1]at a;rw[Cj];unfold Dv;fail"evl";exact a
 |some x=>
  obtain⟨T,g,h,l,rfl⟩:=Jz hn;rw[G.jH g h l]at a;obtain⟨r,w⟩:=G.tk T g;rw[Ci];unfold Dv;fail"evl";unfold Ex;fail"evl";rw[Ee];fail"evl";rw[Ef];exact a
end
section
variable {e:Env}{n:Nat}{M M0 M1 L L1:RM}{Q:ak}{ad:Nat->Addr}{f:Fm}{i j:ba}{k k' d:Nat}{c:Cn}{tl:List Tk}{t u m mo p q:Int}{v:Ow}{st s1 wd kd tx nm:Str}{a b x y g:Addr}{o o':RO}{T U:Tk}{s s':Gs}{an:An}{ps:LR}
structure Kv(s:Gs):Prop where
 kt:∀x∈s.K,cW s.ol x.2=true
 ov:∀v∈s.ol,s.now<v.ov
theorem Gd.Qe(G:Gd e ad f k d c tl M0 M)(h:Kv (gs c tl)):Kt (gs c tl) where
 d1:=by
  have:((tl.map Tk.w).map (·.i)).map ba.k=tl.map λT=>T.i.k:=by rw[bp,bp];rfl
  have l:(((tl.map Tk.w).map (·.i)).map ba.k).Nodup:=by rw[this];exact G.d1
  exact(nR.mp l).imp λh z=>h (by rw[z])
 tn:=λv w=>by
  obtain⟨T,r,rfl⟩:=aA.mp w;exact aA.mpr ⟨_,gB (G.tn T r),rfl⟩
 kt:=h.kt
 ov:=h.ov
 nw:=G.nw
theorem Ke(h:f.Ok):1<=f.tm st:=by
 unfold Fm.tm DR;have:=h.t0;have:=h.t1;have:=h.t2
 repeat' split
 all_goals lia
theorem Kt.kv(h:Kt s):Kv s:=⟨h.kt,h.ov⟩
theorem Kt.end_(h:Kt s)(D:v∈s.ol):Kv (ku f s v mo):=by
 have r:∀x,cW s.ol x=true->x=v.m∨cW (s.ol.filter λu=>decide (u.i≠v.i)) x=true:=λx hx=>by
  obtain⟨u,l,rfl⟩:=aS.mp hx
  by_cases z:u.i=v.i
  . exact .inl (by rw[et h.d1 l D z])
  . exact .inr (aS.mpr ⟨u,cb.mpr ⟨l,cu z⟩,rfl⟩)
 unfold ku;split
 . rename_i C
   exact⟨λx hx=>(r _ (h.kt x hx)).elim (λz=>by rw[z];exact C) id,λu l=>h.ov u (cb.mp l).1⟩
 . refine⟨λx hx=>?_,λu l=>h.ov u (cb.mp l).1⟩
   obtain⟨w,A⟩:=cb.mp hx;exact(r _ (h.kt x w)).resolve_left (eI A)
theorem Kt.lead(h:Kt s)(r:f.Ok)(z:v∈s.ol):Kv (jl f s v st):=by
 unfold jl;split
 . exact h.end_ z
 . refine⟨λx hx=>?_,λu l=>?_⟩
   . obtain⟨u,l,e1⟩:=aS.mp (h.kt x hx)
     refine aS.mpr ⟨_,aA.mpr ⟨u,l,rfl⟩,?_⟩;split<;>exact e1
   . obtain⟨w,A,rfl⟩:=aA.mp l
     dsimp only;split
     . show s.now<s.now+f.tm st
       have:=Ke (st:=st) r;lia
     . exact h.ov w A
theorem Kv.begin(l:f.Ok)(r:∀x∈s.K,x.2=m∨cW s.ol x.2=true)(w:∀v∈s.ol,s.now<v.ov):Kv (l8 f s i m st):=by
 refine⟨λx hx=>?_,λu h=>?_⟩
 . rcases r x hx with z|z
   . exact aS.mpr ⟨_,c6.mpr (.inr (.head _)),z.symm⟩
   . obtain⟨u,h,e1⟩:=aS.mp z
     exact aS.mpr ⟨u,c6.mpr (.inl h),e1⟩
 . rcases c6.mp h with z|z
   . exact w u z
   . cases eG.mp z
     show s.now<s.now+f.tm st;have:=Ke (st:=st) l;lia
theorem Kt.out(h:Kt s)(l:f.Ok):Kv (bz f s i wd).2:=by
 unfold bz;split
 . rename_i v r
   split
   . exact h.kv
   . exact h.lead l (gP r)
 . split
   . exact h.kv
   . unfold lV
     split
     . exact Kv.begin l (λx hx=>.inr (h.kt x hx)) h.ov
     . split
       . exact h.kv
       . split
         . exact h.kv
         . refine Kv.begin l (λx hx=>?_) h.ov
           rcases c6.mp hx with z|z
           . exact .inr (h.kt x z)
           . cases eG.mp z;exact .inl rfl
theorem Kt.come(h:Kt s)(l:f.Ok):Kv (bZ f s kd wd m p q).2:=by
 unfold bZ;split
 . rename_i v r
   split
   . exact h.kv
   . dsimp only
     split
     . exact h.lead l (gP r)
     . exact h.kv
 . split<;>exact h.kv
theorem Kt.wait(h:Kt s):Kv (fY f s t):=⟨λx hx=>(cb.mp hx).2,λv l=>eI (cb.mp l).2⟩
noncomputable def Gt (e:Env)(g:Addr)(f:Fm)(k:Nat)(s:Gs)(M0 L:RM):Prop:=∃ad c tl M,Gd e ad f k k c tl M0 M/\g=ad 0/\L=LG e ad f c M/\gs c tl=s/\Kv s
theorem Gt.sub(h:Gt e g f k s M0 L)(w:M0 a=some o):L a=some o:=by
 obtain⟨ad,c,tl,M,G,rfl,rfl,_⟩:=h;obtain⟨l,r,_⟩:=G.fr a o w;exact(lo r).trans l
theorem Gt.mono(h:Gt e g f k s M0 L)(l:k<=k'):Gt e g f k' s M0 L:=by
 obtain⟨ad,c,tl,M,G,r⟩:=h;exact⟨ad,c,tl,M,G.mono l l,r⟩
theorem Gt.gate(h:Gt e g f k s M0 L):∃r rs l,L g=some (bF e f.r r rs l .aw):=by
 obtain⟨ad,c,tl,M,G,rfl,rfl,_⟩:=h;exact⟨_,_,_,lg G.ij (Nat.le_of_ble_eq_true rfl)⟩
theorem Gt.kt(h:Gt e g f k s M0 L):Kt s:=by
 obtain⟨ad,c,tl,M,G,_,_,rfl,l⟩:=h;exact G.Qe l
theorem Vp{os:List RO}:∀{j:Nat},(∀i,i<os.length->L (ad (j+i))=os[i]?)->lay ad j os L=L:=by
 induction os with
 |nil=>intro j _;rfl
 |cons o r ih=>
  intro j h;show put (lay ad (j+1) r L) (ad j) o=L;rw[ih λi hi=>by have:=h (i+1) (Nat.succ_lt_succ hi);rwa [show j+1+i=j+(i+1) by lia]]
  exact uU (h 0 (Nat.succ_pos _))
theorem Gt.move(h:Gt e g f k s M0 L)(J:∀a o,M0 a=none->L a=some o->L1 a=some o)(N:∀a o,M1 a=some o->L1 a=some o)(O:∀a o,M1 a=some o->M0 a=none->L a=none):Gt e g f k s M1 L1:=by
 obtain⟨ad,c,tl,M,G,rfl,rfl,R,W⟩:=h;have own:∀{a o},(∀o,M0 a≠some o)->LG e ad f c M a=some o->L1 a=some o/\∀b u,M1 b=some u->a≠b:=λ{a o} z D=>by
  have z:M0 a=none:=by
   cases q:M0 a with
   |none=>rfl
   |some u=>exact aU q (z u)
  exact⟨J a o z D,λb u X y=>by subst y;rw[O a u X z]at D;cases D⟩
 have E:∀j,j<12->∀o,M0 (ad j)≠some o:=λj r o z=>(G.fr _ _ z).2.1 j r rfl
 have F:∀T∈tl,∀o,M0 T.a≠some o:=λT l o z=>(G.fr _ _ z).2.2.1 T l rfl
 have H:∀x∈c.N,∀o,M0 x.2≠some o:=λx hx o z=>(G.fr _ _ z).2.2.2 x hx rfl
 have d2:∀T∈tl,LG e ad f c M T.a=some (kI e T):=λT l=>(lo (G.tk T l).2).trans (G.tk T l).1
 have I:∀x∈c.N,LG e ad f c M x.2=some (.dt (eA (outs tl x.1))):=λx hx=>(lo (G.nb x hx).2).trans (G.nb x hx).1
 have d1:∀j,j<12->∃o,LG e ad f c M (ad j)=some o:=λj r=>Cd G.ij r
 refine⟨ad,c,tl,L1,{ G with tk:=λT l=>⟨(own (F T l) (d2 T l)).1,(G.tk T l).2⟩,nb:=λx hx=>⟨(own (H x hx) (I x hx)).1,(G.nb x hx).2⟩,fr:=λa o A=>⟨N a o A,λj r z=>?_,λT l=>(own (F T l) (d2 T l)).2 a o A,λx hx=>(own (H x hx) (I x hx)).2 a o A⟩ },rfl,(Vp λj r=>?_).symm,R,W⟩
 . obtain⟨w,C⟩:=d1 j r
   exact(own (E j r) C).2 a o A z
 . rw[iH]
   obtain⟨w,C⟩:=d1 j r;rw[(own (E j r) C).1,<-C];exact lg G.ij r
structure Ge where
 g:Addr
 f:Fm
 k:Nat
 s:Gs
noncomputable def bq (e:Env):List Ge->RM->RM->Prop
 | [],M0,L=>∀a o,M0 a=some o->L a=some o
 |x::r,M0,L=>∃M1,Gt e x.g x.f x.k x.s M1 L/\bq e r M0 M1
theorem bq.sub:∀{l:List Ge} {M0 L:RM},bq e l M0 L->∀a o,M0 a=some o->L a=some o
 | [],_,_,h=>h
 |_::_,_,_,⟨_,h1,h2⟩=>λa o r=>h1.sub (h2.sub a o r)
theorem bq.swap{x y:Ge}{l:List Ge}:bq e (x::y::l) M0 L->bq e (y::x::l) M0 L:=by
 rintro ⟨M1,hx,M2,D,h⟩
 classical
 let A:RM:=λa=>if M1 a≠none/\M2 a=none then none else L a
 have E:∀a o,A a=some o->L a=some o/\¬(M1 a≠none/\M2 a=none):=λa o r=>by
  by_cases z:M1 a≠none/\M2 a=none
  . rw[show A a=none from ag z]at r;cases r
  . exact⟨(show A a=L a from ab z) ▸ r,z⟩
 refine⟨A,D.move (λa o z C=>hx.sub C) (λa o r=>(E a o r).1) (λa o r z=>?_),M2,hx.move (λa o z C=>?_) (λa o r=>?_) (λa o r z=>?_),h⟩
 . cases q:M1 a with
   |none=>rfl
   |some u=>exact aU ⟨by rw[q];simp,z⟩ (E a o r).2
 . exact(ab λw=>w.1 z).trans C
 . have q:=D.sub r
   exact(ab λw=>by rw[r]at w;cases w.2).trans (hx.sub q)
 . rw[D.sub r]at z;cases z
theorem bq.perm{l r:List Ge}(h:l.Perm r):∀{M0 L},bq e l M0 L->bq e r M0 L:=by
 induction h with
 |nil=>intro _ _ h;exact h
 |cons x _ A=>rintro _ _ ⟨M1,w,z⟩;exact⟨M1,w,A z⟩
 |swap x y l=>intro _ _ h;exact h.swap
 |trans _ _ ih1 ih2=>intro _ _ h;exact ih2 (ih1 h)
end
section
variable {e:Env}{n:Nat}{M M0 M1 L L1:RM}{Q:ak}{ad:Nat->Addr}{f:Fm}{i j:ba}{k k' d:Nat}{c:Cn}{tl:List Tk}{t u m mo p q tt:Int}{v:Ow}{st s1 wd kd tx nm:Str}{a b x y g:Addr}{o o':RO}{T U:Tk}{s s':Gs}{an:An}
theorem Sf{nm:Str}{ps:LR}{L:RM}{g dn:Addr}{C O rs R:RV}{post:RV->RM->Prop}(W:L g=some (bF e C O rs (.ref dn) R))(I:∀Q:ak,Q (.bl true) L->ao (P e) (n+8) 14 [.tup (.str nm::ps)] L Q)
 (H:∀K:ak,(∀v M2,post v M2->K v M2)->ao (P e) (n+8) 71 [.ref g,.str nm,.tup ps] L K)
 (N:∀v M2,post v M2->∃l w r z h,M2 g=some (bF e l w r (.ref dn) z)/\M2 dn=some (.lst h)/\h.length<1000/\Q v (put M2 dn (.lst (h++ [.tup [.tup (.str nm::ps),v]])))):ao (P e) (n+9) 44 [.ref g,.tup (.str nm::ps)] L Q:=by
 rw[us (i:=44) (d:=xQ) rfl];simp only[xQ];fail"ev";refine I _ ?_;fail"evs";rw[Fg];refine H _ λv M2 J=>?_
 obtain⟨l,w,r,z,h,D,A,E,F⟩:=N v M2 J;rw[D];fail"ev";rw[A];fail"ev";exact⟨h,_,rfl,A,gn E ⋯,F⟩
variable {fr rt rs rdd wi:RV}{ps:LR}{k1 k2 k3 k4 k5 k6:RV}
theorem qw5(h:L g=some (bF e fr rt rs rdd wi)):ao (P e) (n+1) 71 [.ref g,.str "out",.tup ps] L Q=ao (P e) n 46 [.ref g,.tup ps] L Q:=by
 rw[us (i:=71) (d:=mY) rfl];simp only[mY];unfold zy;fail"evs"
theorem ZS(h:L g=some (bF e fr rt rs rdd wi)):ao (P e) (n+1) 71 [.ref g,.str "come",.tup [k1,k2,k3,k4,k5,k6]] L Q=ao (P e) n 88 [.ref g,k1,k2,k3,k4,k5] L Q:=by
 rw[us (i:=71) (d:=mY) rfl];simp only[mY];unfold zy;fail"evs";rw[ab (by decide+kernel)];unfold DA;fail"evs"
theorem D9{nm:Str}(h:(nm==("out":Str))=false)(l:(nm==("come":Str))=false):ao (P e) (n+1) 71 [.ref g,.str nm,.tup ps] L Q=(tr ((P e).Gn n) zx).S (rd Q) [some (.ref g),some (.str nm),some (.tup ps),none,none,none,none,none,none] L:=by
 rw[us (i:=71) (d:=mY) rfl];simp only[mY];unfold zy;fail"ev";rw[ab (by rw[h];decide)];unfold DA;fail"ev"
 rw[ab (by rw[l];decide)]
theorem ZR(h:L g=some (bF e fr rt rs rdd wi)):ao (P e) (n+1) 71 [.ref g,.str "lost",.tup ps] L Q=ao (P e) n 48 [.ref g,.tup ps] L Q:=by
 rw[D9 (by decide+kernel) (by decide+kernel)];unfold zx;fail"evs"
theorem ZQ{tt:Addr}{h l r w z A v7:RV}(C:L g=some (bF e fr (.ref tt) rs rdd wi))(D:L tt=some (bN e h l r w z A v7)):ao (P e) (n+1) 71 [.ref g,.str "wait",.tup [k1]] L Q=ao (P e) n 42 [.ref tt,k1] L λ_ M1=>Q .aw M1:=by
 rw[D9 (by decide+kernel) (by decide+kernel)];unfold zx;fail"ev"
 rw[ab (by decide+kernel)];unfold Gj;fail"evs"
theorem Gt.kU(h:Gt e g f k s M0 L)(hd:∀Q:ak,Q (.bl true) L->ao (P e) (n+8) 14 [.tup (.str nm::ps)] L Q)(hk:k<900)
 (ha:∀ad c tl M,Gd e ad f k k c tl M0 M->gs c tl=s->L=LG e ad f c M->g=ad 0->∀K:ak,(∀c' tl' M',Gd e ad f (k+1) k c' tl' M0 M'->gs c' tl'=s'->c'.ds=c.ds->K an.r (LG e ad f c' M'))->ao (P e) (n+8) 71 [.ref (ad 0),.str nm,.tup ps] (LG e ad f c M) K)
 (kv:Kv s') (hq:∀L',Gt e g f (k+1) s' M0 L'->Q an.r L'):ao (P e) (n+9) 44 [.ref g,.tup (.str nm::ps)] L Q:=by
 obtain⟨ad,c,tl,M,G,rfl,rfl,h4,h5⟩:=h;have Hj:=G.ij;refine Sf (dn:=ad 9) (post:=λv L=>v=an.r/\∃c' tl' M',L=LG e ad f c' M'/\Gd e ad f (k+1) k c' tl' M0 M'/\gs c' tl'=s'/\c'.ds=c.ds) (lg Hj (Nat.le_of_ble_eq_true rfl)) hd (λK hK=>ha ad c tl M G h4 rfl rfl K λc' tl' M' G' h1 h2=>hK _ _ ⟨rfl,c',tl',M',rfl,G',h1,h2⟩) λv L2 hp=>?_
 obtain⟨rfl,c',tl',M',rfl,G',h1,h2⟩:=hp;refine⟨_,_,_,_,c'.ds,lg Hj (Nat.le_of_ble_eq_true rfl),lg Hj (Nat.le_of_ble_eq_true rfl),iJ G'.s4 ∅,?_⟩
 rw[lp Hj (Nat.le_of_ble_eq_true rfl)];exact hq _ ⟨ad,_,tl',M',G'.book,rfl,rfl,h1,kv⟩
theorem Gt.qi(h:Gt e g f k s M0 L)(tb:Tb e)(r:f.Ok)(H:k<800)(l:i.Ok)(W:1<=i.place)(J:Kw i.kind wd)(hx:Tx tx)(I:∀z,Gt e g f (k+1) (bz f s i wd).2 M0 z->Q (bz f s i wd).1.r z):
 ao (P e) (n+9) 44 [.ref g,.tup [.str "out",.str i.kind,.int i.house,.int i.door,.int i.place,.int i.far,.str wd,.str tx]] L Q:=by
 refine h.kU (s':=(bz f s i wd).2) (an:=(bz f s i wd).1) (λQ F=>qM tb.out (IF J hx l.house l.door l.place l.far F)) ∅ (λad c tl M G w A R K E=>?_) (h.kt.out r) I
 subst w;have D:=G.ij;rw[qw5 (lg D (Nat.le_of_ble_eq_true rfl))];rw[us (i:=46) (d:=xM) rfl];simp only[xM];fail"evl";rw[show RV.tup [.str i.kind,.int i.house,.int i.door,.int i.place,.int i.far]=i.r from rfl]
 refine G.lead_out tb r H l λc' N O C w A=>?_
 (try fail"evl")
 rw[ag (by simp;lia)]
 exact E _ _ _ C w A
theorem Gt.jF(h:Gt e g f k s M0 L)(tb:Tb e)(w:f.Ok)(W:k<800)(H:1<=p/\p<=1000000)(r:1<=q/\q<=9999)(F:1<=m/\m<=9999)(J:Kw kd wd)(hx:Tx tx)(I:∀z,Gt e g f (k+1) (bZ f s kd wd m p q).2 M0 z->Q (bZ f s kd wd m p q).1.r z):
 ao (P e) (n+9) 44 [.ref g,.tup [.str "come",.str kd,.int p,.int q,.int m,.str wd,.str tx]] L Q:=by
 refine h.kU (s':=(bZ f s kd wd m p q).2) (an:=(bZ f s kd wd m p q).1) (λQ E=>qM tb.come (HF J hx H r F E)) ∅ (λad c tl M G l A R K D=>?_) (h.kt.come w) I
 have kt:=h.kt;subst l;rw[ZS (lg G.ij (Nat.le_of_ble_eq_true rfl))];exact G.come_in (n:=n+1) tb kt ∅ λc' N O C l A=>D _ _ _ (C.mono (ja k) (aD k)) l A
theorem Gt.il(h:Gt e g f k s M0 L)(tb:Tb e)(N:k<800)(F:1<=tt/\tt<=1000000)(D:1<=p/\p<=1000000)(l:1<=q/\q<=9999)(C:1<=m/\m<=9999)(H:Kd kd)(E:∀r,Gt e g f (k+1) s M0 r->Q (fN s kd m p q).r r):
 ao (P e) (n+9) 44 [.ref g,.tup [.str "lost",.int tt,.str kd,.int m,.int p,.int q]] L Q:=by
 refine h.kU (s':=s) (an:=fN s kd m p q) (λQ A=>qM tb.lost (HC H F C D l A)) ∅ (λad c tl M G w I J K z=>?_) h.kt.kv E
 subst w;rw[ZR (lg G.ij (Nat.le_of_ble_eq_true rfl))];exact G.lost (n:=n+5) (z _ _ _ (G.mono (ja k) (aD k)) rfl rfl)
theorem Gt.jG(h:Gt e g f k s M0 L)(tb:Tb e)(F:k<64)(w:M0 e.lP=some (ck e))(r:0<=t/\t<=1000000)(H:∀z,Gt e g f (k+1) (fY f s t) M0 z->Q .aw z):
 ao (P e) (n+9) 44 [.ref g,.tup [.str "wait",.int t]] L Q:=by
 refine h.kU (s':=fY f s t) (an:=.aw) (λQ E=>qM tb.wait (HB r.1 r.2 E)) ∅ (λad c tl M G l A N K D=>?_) h.kt.wait H
 have kt:=h.kt;subst l;rw[ZQ (lg G.ij (Nat.le_of_ble_eq_true rfl)) (lg G.ij (Nat.le_of_ble_eq_true rfl))];exact TQ (n:=n+3) G F w r.1 kt λc' I J C l A=>D _ _ _ (C.mono (ja k) (aD k)) l A
theorem Gt.out(h:Gt e g f k s M0 L)(tb:Tb e)(l:f.Ok)(A:k<800)(r:i.Ok)(C:1<=i.place)(E:Kw i.kind wd)(hx:Tx tx)(D:∀w,Gt e g f (k+1) (bz f s i wd).2 M0 w->Q (bz f s i wd).1.r w):
 ao (P e) (n+10) 91 [.ref g,.str i.kind,.int i.house,.int i.door,.int i.place,.int i.far,.str wd,.str tx] L Q:=by
 obtain⟨_,_,_,z⟩:=h.gate;rw[us (i:=91) (d:=ye) rfl];simp only[ye];fail"ev";rw[z];fail"ev";exact h.qi tb l A r C E hx D
theorem Gt.come(h:Gt e g f k s M0 L)(tb:Tb e)(r:f.Ok)(A:k<800)(D:1<=p/\p<=1000000)(l:1<=q/\q<=9999)(C:1<=m/\m<=9999)(F:Kw kd wd)(hx:Tx tx)(E:∀w,Gt e g f (k+1) (bZ f s kd wd m p q).2 M0 w->Q (bZ f s kd wd m p q).1.r w):
 ao (P e) (n+10) 90 [.ref g,.str kd,.int p,.int q,.int m,.str wd,.str tx] L Q:=by
 obtain⟨_,_,_,z⟩:=h.gate;rw[us (i:=90) (d:=xR) rfl];simp only[xR];fail"ev";rw[z];fail"ev";exact h.jF tb r A D l C F hx E
theorem Gt.lost(h:Gt e g f k s M0 L)(tb:Tb e)(z:k<800)(E:1<=tt/\tt<=1000000)(C:1<=p/\p<=1000000)(l:1<=q/\q<=9999)(A:1<=m/\m<=9999)(F:Kd kd)(D:∀r,Gt e g f (k+1) s M0 r->Q (fN s kd m p q).r r):
 ao (P e) (n+10) 87 [.ref g,.int tt,.str kd,.int m,.int p,.int q] L Q:=by
 obtain⟨_,_,_,w⟩:=h.gate;rw[us (i:=87) (d:=xN) rfl];simp only[xN];fail"ev";rw[w];fail"ev";exact h.il tb z E C l A F D
theorem Gt.wait(h:Gt e g f k s M0 L)(tb:Tb e)(z:k<64)(l:M0 e.lP=some (ck e))(C:0<=t/\t<=1000000)(A:∀r,Gt e g f (k+1) (fY f s t) M0 r->Q .aw r):
 ao (P e) (n+10) 45 [.ref g,.int t] L Q:=by
 obtain⟨_,_,_,w⟩:=h.gate;rw[us (i:=45) (d:=xK) rfl];simp only[xK];fail"ev";rw[w];fail"ev";exact h.jG tb z l C A
end
section
variable {e:Env}{n:Nat}{M M0 M1 L L1:RM}{Q:ak}{ad:Nat->Addr}{f:Fm}{i j:ba}{k k' d:Nat}{c:Cn}{tl:List Tk}{t u m mo p q tt:Int}{st s1 wd kd tx nm:Str}{a b x y g:Addr}{o o':RO}{T U:Tk}{s s':Gs}{an:An}
theorem TY{i:ba}{s:Str}(h:M x=some (fV e i.r (.int m) (.str s) (.int ov))):ao (P e) (n+1) 20 [.ref x] M Q=Q (.tup [.str i.kind,.int m,.int i.house,.int i.door,.int i.place,.int i.far,.str s,.int ov]) M:=by
 have e0:i.r= .tup [.str i.kind,.int i.house,.int i.door,.int i.place,.int i.far]:=rfl;rw[e0]at h;rw[us (i:=20) (d:=AN) rfl];simp only[AN];fail"evs"
noncomputable def DQ (row:Addr->TK):RV->RV
 | .ref a=>cV (row a)
 |x=>x
theorem WU{tt C:Addr}{rs rd W R w z A r:RV}{E F:RV}{li:List (TK×Addr)}{row:Addr->TK}(Y:M g=some (bF e E (.ref tt) rs rd W))(Z:M tt=some (bN e F R r (.ref C) w z A))(X:M C=some (.dt (eA li)))(D:li.length<64)
 (hx:∀x∈li,∃(i:ba) (m v:Int) (s:Str),M x.2=some (fV e i.r (.int m) (.str s) (.int v))/\row x.2= [some (.inr i.kind),some (.inl m),some (.inl i.house),some (.inl i.door),some (.inl i.place),some (.inl i.far),some (.inr s),some (.inl v)])
 (J:qL (li.map λx=>row x.2)=true) (N:Q (.ls ((l9 (li.map λx=>row x.2)).map cV)) M):ao (P e) (n+2) 22 [.ref g] M Q:=by
 rw[us (i:=22) (d:=xD) rfl];simp only[xD];fail"evs";rw[us (i:=19) (d:=sF) rfl];simp only[sF];fail"evs";have e0:List.map (λx=>x.snd) (eA li)=li.map λx=>RV.ref x.2:=by unfold eA enc;rw[bp];rfl
 rw[e0];refine⟨by rw[aW];exact gn D ⋯,jN (bd:=gk false 1) (λ_=>true) (DQ row) fW _ _ (λx l=>?_) ?_⟩
 . obtain⟨y,O,rfl⟩:=aA.mp l
   obtain⟨i,m,v,s,H,I⟩:=hx y O;refine⟨[.ref y.2],rfl,λK h=>h,λ_ K h=>?_⟩
   fail"ev";rw[TY H];have h:K (cV (row y.2)) M:=h;rw[I]at h;exact h
 . show eY "sorted" [.ls ([]++((li.map λx=>RV.ref x.2).filter λ_=>true).map (DQ row))] M Q
   rw[kL,mF.mpr (λ_ _=>rfl),XJ]
   have e1:(li.map λx=>RV.ref x.2).map (DQ row)=(li.map λx=>row x.2).map cV:=by rw[bp,bp];rfl
   rw[e1];exact Uo (by rw[aW];exact D) J N
noncomputable def C0 (v:Ow):TK:=[some (.inr v.i.kind),some (.inl v.m),some (.inl v.i.house),some (.inl v.i.door),some (.inl v.i.place),some (.inl v.i.far),some (.inr v.st),some (.inl v.ov)]
noncomputable def vQ (T:Tk):TK:=C0 T.w
theorem Vs:qL (tl.map vQ)=true:=by
 unfold qL;rw[bj,Bool.or_eq_true];refine⟨.inr ?_,?_⟩
 . rw[List.all_map,fx];exactλx _=>rfl
 . rw[fx]
   intro a h;rw[fx];intro b l;obtain⟨m,_,rfl⟩:=aA.mp h;obtain⟨r,_,rfl⟩:=aA.mp l;unfold vQ C0;simp only[wc,iU]
   repeat' split
   all_goals rfl
noncomputable def y9 (tl:List Tk)(a:Addr):TK:=match tl.find? λT=>decide (T.a=a)with
 |some T=>vQ T
 |none=>[]
theorem Jc(v:(tl.map λT=>T.a).Nodup)(l:T∈tl):y9 tl T.a=vQ T:=by
 unfold y9;cases h:tl.find? λU=>decide (U.a=T.a)with
 |none=>rw[jZ]at h;exact aU (cu rfl) (h T l)
 |some U=>
  have r:=eI (j4 (p:=λU:Tk=>decide (U.a=T.a)) h)
  rw[et v (gP h) l r]
noncomputable def qJ (s:Gs):LR:=(l9 (s.ol.map C0)).map cV
theorem Gt.talks(h:Gt e g f k s M0 L)(v:k<64)(r:Q (.ls (qJ s)) L):ao (P e) (n+2) 22 [.ref g] L Q:=by
 obtain⟨ad,c,tl,M,G,rfl,rfl,rfl,_⟩:=h;have e1:(c.B.map λx=>y9 tl x.2)=tl.map vQ:=by
  rw[G.cB];unfold kJ;rw[bp];exact jx λT l=>Jc G.d6 l
 refine WU (li:=c.B) (row:=y9 tl) (lg G.ij (Nat.le_of_ble_eq_true rfl)) (lg G.ij (Nat.le_of_ble_eq_true rfl)) (lg G.ij (Nat.le_of_ble_eq_true rfl)) ?_ (λx hx=>?_) ?_ ?_
 . rw[G.cB];unfold kJ;rw[aW];exact iJ G.s0 v
 . rw[G.cB]at hx
   obtain⟨T,l,rfl⟩:=aA.mp hx;exact⟨T.i,T.m,T.ov,T.st,(lo (G.tk T l).2).trans (G.tk T l).1,Jc G.d6 l⟩
 . rw[e1];exact Vs
 . rw[e1]
   unfold qJ gs at r;rw[bp]at r;exact r
theorem Gt.moment(h:Gt e g f k s M0 L)(l:Q (.int s.now) L):ao (P e) (n+1) 21 [.ref g] L Q:=by
 obtain⟨ad,c,tl,M,G,rfl,rfl,rfl,_⟩:=h;have r:=G.ij;rw[us (i:=21) (d:=xV) rfl];simp only[xV];fail"evl";exact l
end
section
variable {e:Env}{n:Nat}{M:RM}{Q:ak}{f:Fm}{i:ba}
theorem jf{ad:Nat->Addr}{os:List RO}{x:Addr}{k:Nat}(H:Ij ad k)(F:∀j,j<k->M (ad j)=none)(l:os.length=k)(hx:lay ad 0 os M x=none):∃b,(∀j,j<k->ad j=b j)/\b k=x/\Ij b (k+1)/\(∀j,j<k+1->M (b j)=none)/\∀o,put (lay ad 0 os M) x o=lay b 0 (os++ [o]) M:=by
 obtain⟨a,c,d,g,h⟩:=Qt H l hx;refine⟨a,c,d,g,λj m=>?_,h⟩
 by_cases z:j<k
 . rw[<-c j z];exact F j z
 . rw[show j=k by lia,d];exact BA hx
theorem W8{ad:Nat->Addr}{os:List RO}{r s d:RO}(H:Ij ad 12)(a:os.length=9):lay ad 0 (os++ [r,s,d]) M=lay (λj=>if j=9 then ad 11 else if j=10 then ad 9 else if j=11 then ad 10 else ad j) 0 (os++ [d,r,s]) M:=by
 have c:ad 11≠ad 10:=λz=>by have:=H 11 10 ⋯ ⋯ z;lia
 have g:ad 11≠ad 9:=λz=>by have:=H 11 9 ⋯ ⋯ z;lia
 rw[show os++ [r,s,d]=((os++ [r])++ [s])++ [d] by simp,show os++ [d,r,s]=((os++ [d])++ [r])++ [s] by simp,m7,m7,m7,m7,m7,m7]
 simp only[fF,bW,List.length_nil,a,Nat.reduceAdd,↓reduceIte,iH,Nat.reduceEqDiff];rw[ym c,ym g];exact Cc λj b=>by
  rw[a]at b;show _=if j=9 then ad 11 else if j=10 then ad 9 else if j=11 then ad 10 else ad j
  rw[ab ∅,ab ∅,ab ∅]
noncomputable def qo (f:Fm):Gs:=⟨0,f.low,[],λ_=>0,[]⟩
theorem Bz{x:Addr}(w:f.Ok)(hx:M x=none)(hq:∀M',Gt e x f 0 (qo f) M M'->Q .aw M'):ao (P e) (n+6) 43 [.ref x,f.r] (put M x (.ins (e.C 4) [])) Q:=by
 rw[us (i:=43) (d:=xP) rfl];simp only[xP];unfold EU;fail"ev";refine Bf w ?_;obtain⟨D,_,rfl,H1,O,e1⟩:=jf (ad:=λ_=>x) (os:=[]) (M:=M) (k:=0) (λi j hi=>aU hi (ue _)) (λj c=>aU c (ue _)) rfl hx
 rw[show put M (D 0) (.ins (e.C 4) [])=lay D 0 ([]++ [.ins (e.C 4) []]) M from e1 _]
 unfold ET;fail"evl";unfold ES;fail"evl";intro t ht;obtain⟨a2,h2,rfl,H2,R,e2⟩:=jf (k:=1) H1 O rfl ht;rw[e2];clear e1 e2 H1 O ht;rw[us (i:=37) (d:=xZ) rfl];simp only[xZ];unfold Ga;fail"evl";unfold FZ;fail"evl";rw[P5,P6];intro y a;obtain⟨a3,h3,rfl,H3,U,e3⟩:=jf (k:=2) H2 R rfl a;rw[e3];clear e3 H2 R a;rw[us (i:=63) (d:=xI) rfl];simp only[xI];fail"evl";intro y a;obtain⟨a4,h4,rfl,H4,W,e4⟩:=jf (k:=3) H3 U rfl a;rw[e4];clear e4 H3 U a;fail"evl";intro y a;obtain⟨a5,h5,rfl,H5,X,e5⟩:=jf (k:=4) H4 W rfl a;rw[e5];clear e5 H4 W a;fail"evl";unfold FY;fail"evl";unfold FX;fail"evl";intro y a;obtain⟨a6,h6,rfl,H6,Y,e6⟩:=jf (k:=5) H5 X rfl a;rw[e6];clear e6 H5 X a
 (try fail"evl")
 unfold EF;fail"evl";intro y a;obtain⟨a7,h7,rfl,H7,Z,e7⟩:=jf (k:=6) H6 Y rfl a;rw[e7];clear e7 H6 Y a
 (try fail"evl")
 unfold EE;fail"evl";intro y a;obtain⟨a8,h8,rfl,H8,F8,e8⟩:=jf (k:=7) H7 Z rfl a;rw[e8];clear e8 H7 Z a
 (try fail"evl")
 unfold ED;fail"evl";intro y a;obtain⟨a9,h9,rfl,H9,F9,e9⟩:=jf (k:=8) H8 F8 rfl a;rw[e9];clear e9 H8 F8 a;fail"evl";unfold ER;fail"evl";intro y a;obtain⟨a10,E,rfl,l,g,s⟩:=jf (k:=9) H9 F9 rfl a;rw[s];clear s H9 F9 a;rw[us (i:=17) (d:=xC) rfl];simp only[xC];fail"evl";intro y a;obtain⟨a11,F,rfl,m,h,u⟩:=jf (k:=10) l g rfl a;rw[u];clear u l g a;fail"evl";unfold EO;fail"evl";intro y a;obtain⟨b,H,rfl,r,C,v⟩:=jf (k:=11) m h rfl a;rw[v];clear v m h a
 (try fail"evl")
 unfold EN;fail"evl";have e0:D 0=b 0:=by rw[h2 0 ⋯,h3 0 ⋯,h4 0 ⋯,h5 0 ⋯,h6 0 ⋯,h7 0 ⋯,h8 0 ⋯,h9 0 ⋯,E 0 ⋯,F 0 ⋯,H 0 ⋯]
 let ad:Nat->Addr:=λj=>if j=9 then b 11 else if j=10 then b 9 else if j=11 then b 10 else b j
 have q:∀i,i<12->∃k,k<12/\ad i=b k/\(i=9/\k=11∨i=10/\k=9∨i=11/\k=10∨i<9/\k=i):=λi hi=>by
  show ∃k,k<12/\(if i=9 then b 11 else if i=10 then b 9 else if i=11 then b 10 else b i)=b k/\_
  by_cases p:i=9
  . exact⟨11,⋯,by rw[ag p],.inl ⟨p,rfl⟩⟩
  . by_cases A:i=10
    . exact⟨9,⋯,by rw[ab p,ag A],.inr (.inl ⟨A,rfl⟩)⟩
    . by_cases J:i=11
      . exact⟨10,⋯,by rw[ab p,ab A,ag J],.inr (.inr (.inl ⟨J,rfl⟩))⟩
      . exact⟨i,hi,by rw[ab p,ab A,ab J],.inr (.inr (.inr ⟨∅,rfl⟩))⟩
 have c:Ij ad 12:=λi j hi c z=>by
  obtain⟨I,L,N,q3⟩:=q i hi;obtain⟨k2,q4,q5,q6⟩:=q j c;have:=r I k2 L q4 (by rw[<-N,<-q5];exact z)
  lia
 refine hq _ ⟨ad,⟨0,f.low,[],[],[],[],[],[],[]⟩,[],M,{ ij:=c,cB:=rfl,cT:=rfl,cH:=rfl,tk:=gm _,nb:=gm _,fr:=λa o ha=>⟨ha,λj c z=>?_,gm _,gm _⟩,d1:=mP,d2:=mP,d3:=mP,d4:=mP,d5:=mP,d6:=mP,od:=gm _,tn:=gm _,tb:=gm _,hk:=gm _,ws:=gm _,mr:=⟨rU _,w.le⟩,nw:=rU _,s0:=aD _,s1:=aD _,s2:=aD _,s3:=aD _,s4:=aD _ },e0,(W8 (os:=[_,_,_,_,_,_,_,_,_]) r rfl).trans rfl,rfl,⟨gm _,gm _⟩⟩
 obtain⟨I,L,N,_⟩:=q j c;have:=C I L;rw[<-N,z,ha]at this;cases this
end
section
variable {e:Env}{n:Nat}{M:RM}{Q:ak}
theorem T1{xs:List Int}{k:Nat}:ao (P e) (n+1) 55 [.ls (xs.map RV.int),.int k] M Q=Q (.int (xs.getD k 0)) M:=by
 rw[us (i:=55) (d:=AV) rfl];simp only[AV];fail"ev";rw[aW]
 by_cases h:k<xs.length
 . rw[ag (by simpa using h),i0 (v:=RV.int (xs.getD k 0)) (by simp[h])]
   rfl
 . rw[ab (by simpa using h)]
   simp[Nat.le_of_not_lt h]
structure cF where
 a:Int
 b:Int
 c:Int
noncomputable def cF.l (g:cF):RO:=.lst [.int g.a,.int g.b,.int g.c]
structure cF.Ok(g:cF):Prop where
 a:0<=g.a
 b:0<=g.b/\g.b<2305843009213693951
 c:0<=g.c/\g.c<1000000
theorem Tv{x:Addr}{g:cF}(hx:M x=some g.l)(c:0<g.a)(f:0<m)(a:m<1073741824)(b:Q (.int (g.a % m)) (put M x (cF.l ⟨g.a / m,g.b,g.c⟩))):ao (P e) (n+1) 57 [.ref x,.int m] M Q:=by
 unfold cF.l at hx;rw[us (i:=57) (d:=uR) rfl];simp only[uR];fail"evs";exact b
noncomputable def vW:Int:=2305843009213693951
noncomputable def qwB (b c:Int):Int:=((((b+1000003*c) % vW)*((b+1000003*c) % vW)+7919*c ^ 2+5) % vW) ^ 3 % vW / 13
theorem vC{i j:Int}(a:-(2 ^ 64)<i)(b:i<2 ^ 64):iM i j:=.inl ⟨a,b⟩
theorem SX{x:Addr}{g:cF}(hx:M x=some g.l)(f:g.Ok)(t:¬0<g.a)(u:0<m)(c:Q (.int (qwB g.b (g.c+1) % m)) (put M x (cF.l ⟨g.a,g.b,g.c+1⟩))):ao (P e) (n+1) 57 [.ref x,.int m] M Q:=by
 obtain⟨_,⟨h,j⟩,k,l⟩:=f;unfold cF.l at hx;rw[us (i:=57) (d:=uR) rfl];simp only[uR];fail"evs";have e1:=uh (g.b+1000003*(g.c+1)) (b:=2305843009213693951) ⋯
 have o:=uc (g.b+1000003*(g.c+1)) (b:=2305843009213693951) ⋯
 have a:∀z:Int,(z % 2305843009213693951).natAbs<2 ^ 64:=λz=>by
  have r:=uh z (b:=2305843009213693951) ⋯
  have s:=uc z (b:=2305843009213693951) ⋯
  lia
 exact⟨vC ⋯ ⋯,vC ∅ ∅,∅,vC ⋯ ⋯,a _,c⟩
noncomputable def vn (a b:Int):cF:=⟨if 10 ^ 18<=a then a-10 ^ 18 else 0,a % vW,b⟩
theorem qvK:(10:Int) ^ Int.toNat 18=10 ^ 18:=rfl
theorem Ca{c t:Int}(a:∀p,M p=none->Q (.ref p) (put M p (vn c t).l)):ao (P e) (n+1) 56 [.int c,.int t] M Q:=by
 rw[us (i:=56) (d:=AR) rfl];simp only[AR];fail"ev";refine⟨⋯,?_⟩
 rw[qvK];unfold vn cF.l at a
 by_cases h:(10:Int) ^ 18<=c
 . rw[ag (by simpa using h)]
   simp only[ag h]at a;exact⟨⋯,a⟩
 . rw[ab (by simpa using h)]
   simp only[ab h]at a;exact a
structure cF.In(g:cF)(k:Int):Prop where
 a:0<=g.a
 b:0<=g.b/\g.b<2305843009213693951
 c:0<=g.c/\g.c<=k
theorem u7{a m:Int}(b:0<m):0<=a % m/\a % m<m:=⟨uh _ ∅,uc _ b⟩
theorem df{x:Addr}{g:cF}(hx:M x=some g.l)(j:g.In k)(l:k<999999)(a:0<m)(b:m<1073741824)(f:∀v d,0<=v->v<m->cF.In d (k+1)->Q (.int v) (put M x d.l)):ao (P e) (n+1) 57 [.ref x,.int m] M Q:=by
 obtain⟨o1,c,i,o⟩:=j
 by_cases h:0<g.a
 . exact Tv hx h a b (f _ _ (u7 a).1 (u7 a).2 ⟨Int.ediv_nonneg o1 ∅,c,i,by show g.c<=k+1;lia⟩)
 . exact SX hx ⟨o1,c,i,∅⟩ h a (f _ _ (u7 a).1 (u7 a).2 ⟨o1,c,by show 0<=g.c+1;lia,by show g.c+1<=k+1;lia⟩)
theorem CB{xs:LR}{v:Int}(h0:0<=v)(b:v<xs.length):∃y∈xs,∀{M:RM} {Q:ak},d7 (.ls xs) (.int v) M Q=Q y M:=by
 obtain⟨j,rfl⟩:∃j:Nat,v=j:=⟨v.toNat,∅⟩
 have a:j<xs.length:=by lia
 refine⟨xs[j],List.getElem_mem _,λ{M Q}=>?_⟩
 rw[Kq,i0 (v:=xs[j]) (by simp[a])];rfl
theorem Lk{a:Int}:0<=a % 2305843009213693951/\a % 2305843009213693951<2305843009213693951:=u7 ⋯
theorem BV:(vn c 0).In 0:=⟨by unfold vn;dsimp only;split<;>lia,Lk,⟨rU _,rU _⟩⟩
theorem uW{ok:RM->Prop}{un:RM->RM}{te:aq}{tt:dP}{base:List (Option RV)}(I:LR->RM->Prop)(ht:∀σ M (K:Bool->RM->Prop),K true M->tt σ M K)(av:∀acc M,I acc M->ok M):∀(xs acc:LR) (M:RM),I acc M->
 (∀x∈xs,∀acc2 M,acc2.length<acc.length+xs.length->I acc2 M->∃bs,bd x=some bs/\∀K:ak,(∀v M',I (acc2++ [v]) M'->K v M')->te (bs.map some++base) M K)->
 (∀acc' M',acc'.length=acc.length+xs.length->I acc' M'->nE md acc' (un M') Q)->m4 bd md ok un tt te base xs acc M Q
 | [],acc,M,h,_,hq=>⟨av _ _ h,hq acc M rfl h⟩
 |x::xs,acc,M,h,hs,hq=>by
  obtain⟨bs,h1,h2⟩:=hs x (.head _) acc M (by rw[bW];lia) h
  refine⟨av _ _ h,?_⟩;rw[h1];refine ht _ _ _ ⟨λ_=>h2 _ λv M' h'=>uW I ht av xs _ M' h' (λy hy acc2 M2 hlt=>hs y (.tail _ hy) acc2 M2 (by rw[fF]at hlt;rw[bW];have:acc2.length<acc.length+1+xs.length:=hlt;lia)) λacc' M'' hl h''=>hq acc' M'' ?_ h'',λz=>by cases z⟩
  rw[hl,fF];show acc.length+1+xs.length=acc.length+(xs.length+1);lia
def iD(lo hi:Int):LR->Prop
 | []=>lo<=lo
 | .int n::xs=>(lo<=n/\n<=hi)/\iD lo hi xs
 |_=>False
theorem jT(lo hi){v:Int}:∀{xs:LR},0<=v->v<xs.length->iD lo hi xs->∃m:Int,(lo<=m/\m<=hi)/\∀{M:RM} {Q:ak},d7 (.ls xs) (.int v) M Q=Q (.int m) M:=λ{xs} d b h=>by
 obtain⟨y,a,c⟩:=CB d b;have:∀{xs:LR},iD lo hi xs->∀y∈xs,∃m:Int,y= .int m/\lo<=m/\m<=hi:=λ{xs}=>by
  induction xs with
  |nil=>intro _ y a;cases a
  |cons x xs ih=>
   intro h y a;cases x with
   |int n=>
    cases a with
    |head=>exact⟨n,rfl,h.1⟩
    |tail _ a=>exact ih h.2 y a
   |_=>exact h.elim
 obtain⟨m,rfl,b⟩:=this h y a;exact⟨m,b,c⟩
theorem Dm(l:az){v:Int}(h0:0<=v)(b:v<l.length):∃m∈l,∀{M:RM} {Q:ak},d7 (.ls (l.map RV.str)) (.int v) M Q=Q (.str m) M:=by
 obtain⟨y,d,a⟩:=CB (xs:=l.map RV.str) h0 (by rw[aW];exact b)
 obtain⟨m,c,rfl⟩:=aA.mp d;exact⟨m,c,a⟩
theorem VH{x:Addr}{g:cF}(hx:M x=some g.l)(ok:g.In k)(hk:k<900000)(hq:∀f g',Fm.Ok f->cF.In g' (k+18)->Q f.r (put M x g'.l)):ao (P e) (n+2) 26 [.ref x] M Q:=by
 rw[us (i:=26) (d:=AL) rfl];simp only[AL];fail"ev";unfold FQ;fail"ev";refine df hx ok ∅ ⋯ ⋯ λv1 g1 a1 b1 ok1=>?_
 fail"ev";refine df bo ok1 ∅ ⋯ ⋯ λv2 g2 a2 b2 ok2=>?_
 obtain⟨many,⟨m1,m2⟩,ey⟩:=jT 1 200 (xs:=[.int 1,.int 2,.int 3,.int (1+v1),.int 200]) a2 b2 (by simp only[iD];lia)
 rw[ey];fail"ev";unfold FP;fail"ev";refine df bo ok2 ∅ ∅ ∅ λv3 g3 a3 b3 ok3=>?_
 fail"ev";refine df bo ok3 ∅ ⋯ ⋯ λv4 g4 a4 b4 ok4=>?_
 obtain⟨low,⟨w1,w2⟩,ey⟩:=jT 1 (10000-many) (xs:=[.int 1,.int (10000-many),.int (1+v3)]) a4 b4 (by simp only[iD];lia)
 rw[ey];fail"ev";unfold FO;fail"ev";refine df bo ok4 ∅ ⋯ ⋯ λv5 g5 a5 b5 ok5=>?_
 obtain⟨le,hle,ey⟩:=Dm ["door","place","talk"] a5 b5
 change ∀{M:RM} {Q:ak},d7 (.ls [.str "door",.str "place",.str "talk"]) _ M Q=_ at ey
 rw[ey];fail"ev";unfold FN;fail"ev";refine df bo ok5 ∅ ⋯ ⋯ λv6 g6 a6 b6 ok6=>?_
 obtain⟨si,hsi,ey⟩:=Dm ["all","place","talk"] a6 b6
 change ∀{M:RM} {Q:ak},d7 (.ls [.str "all",.str "place",.str "talk"]) _ M Q=_ at ey
 rw[ey];fail"ev";unfold FL;fail"ev";refine df bo ok6 ∅ ⋯ ⋯ λv7 g7 a7 b7 ok7=>?_
 obtain⟨pk,hpk,ey⟩:=Dm ["next","keep"] a7 b7
 change ∀{M:RM} {Q:ak},d7 (.ls [.str "next",.str "keep"]) _ M Q=_ at ey
 rw[ey];fail"ev";unfold FK;fail"ev";refine df bo ok7 ∅ ⋯ ⋯ λv8 g8 a8 b8 ok8=>?_
 fail"ev";refine df bo ok8 ∅ ⋯ ⋯ λv9 g9 a9 b9 ok9=>?_
 obtain⟨most,⟨u1,u2⟩,ey⟩:=jT 1 200 (xs:=[.int 1,.int 2,.int 200,.int (1+v8)]) a9 b9 (by simp only[iD];lia)
 rw[ey];fail"ev";unfold FJ;fail"ev";refine df bo ok9 ∅ ⋯ ⋯ λv10 g10 a10 b10 ok10=>?_
 fail"ev";unfold FI;fail"ev";refine df bo ok10 ∅ ⋯ ⋯ λv11 g11 a11 b11 ok11=>?_
 obtain⟨far,⟨z1,z2⟩,ey⟩:=jT 1 1000000 (xs:=[.int 4,.int 12,.int 1000000]) a11 b11 (by simp only[iD];lia)
 rw[ey];fail"ev";unfold FH;fail"ev";refine⟨⋯,⋯,⋯,?_⟩
 refine uW (λacc M'=>∃(ts:List Int) (g':cF),acc=ts.map RV.int/\(∀t∈ts,1<=t/\t<=far)/\M'=put M x g'.l/\g'.In (k+11+acc.length)) (λσ M K h=>h) (λ_ _ _=>fW) _ _ _ ⟨[],g11,rfl,gm _,rfl,by show g11.In (k+11+0);refine⟨ok11.a,ok11.b,ok11.c.1,by have:=ok11.c.2;lia⟩⟩ (λy hy acc M' hlt h=>?_) λacc' M' hl h=>?_
 . obtain⟨ts,g',rfl,h2,rfl,h3⟩:=h
   rw[aW]at h3;refine⟨[y],rfl,λK hK=>?_⟩
   show(tr ((P e).Gn (n+1)) _).E [some y,some (.ref x),some (.int far)] _ K;fail"ev";have hts:ts.length<3:=by rw[aW]at hlt;exact hlt
   refine df bo h3 ∅ ∅ ∅ λv g2 a b o=>?_
   fail"ev";refine hK _ _ ⟨ts++ [1+v],g2,by rw[eC];rfl,λt ht=>?_,rfl,⟨o.a,o.b,o.c.1,by have:=o.c.2;rw[fF,aW];show g2.c<=k+11+((ts.length+1:Nat):Int);lia⟩⟩
   rcases c6.mp ht with h|h
   . exact h2 t h
   . cases eG.mp h;lia
 . obtain⟨ts,g',rfl,h2,rfl,h3⟩:=h
   rw[aW]at h3;have hl:ts.length=3:=by rw[aW]at hl;exact hl
   match ts,hl with
   | [t0,t1,t2],_=>
   have q0:=h2 t0 (by simp)
   have q1:=h2 t1 (by simp)
   have q2:=h2 t2 (by simp)
   have h3:g'.In (k+11+3):=h3;rw[u6];show n9 "tuple" [.ls [.int t0,.int t1,.int t2]] (put M x g'.l) _;rw[show ∀(xs:LR) (M:RM) (Q:ak),n9 "tuple" [.ls xs] M Q=Q (.tup xs) M fromλ_ _ _=>rfl]
   unfold FG;fail"ev";refine df bo h3 ∅ ⋯ ⋯ λv12 g12 a12 b12 ok12=>?_
   refine df bo ok12 ∅ ⋯ ⋯ λDW g13 a13 b13 ok13=>?_
   refine df bo ok13 ∅ ⋯ ⋯ λPU g14 a14 b14 ok14=>?_
   obtain⟨rest,⟨y1,y2⟩,ey⟩:=jT 0 1000000 (xs:=[.int 0,.int v12,.int DW,.int 1000000]) a14 b14 (by simp only[iD];lia)
   rw[ey];fail"ev";unfold Mc;fail"ev";have:=hq ⟨low,low+many-1,le,si,pk,most,v10==1,t0,t1,t2,rest⟩ g14 ⟨by dsimp only;lia,by dsimp only;lia,by dsimp only;lia,by dsimp only;lia,by simpa using hle,by simpa using hsi,by simpa using hpk,⟨u1,u2⟩,by dsimp only;lia,by dsimp only;lia,by dsimp only;lia,⟨y1,y2⟩⟩ ⟨ok14.a,ok14.b,ok14.c.1,by have:=ok14.c.2;lia⟩
   exact this
theorem VG{xs:List Int}(h0:0<=k)(f:k<1000)(hx:0<xs.length)(l:xs.length<1000)(b:∀p g,M p=none->cF.In g 0->Q (.ref p) (put M p g.l)):ao (P e) (n+2) 58 [.ls (xs.map RV.int),.int k] M Q:=by
 obtain⟨j,rfl⟩:∃j:Nat,k=j:=⟨k.toNat,∅⟩
 rw[us (i:=58) (d:=AK) rfl];simp only[AK];fail"ev";rw[aW]
 by_cases h:j<xs.length
 . rw[ag (by simpa using h),i0 (v:=RV.int (xs.getD j 0)) (by simp[h])]
   fail"ev";exact Ca λp a=>b p _ a BV
 . rw[ab (by simpa using h)]
   refine⟨∅,?_⟩
   have c:j % xs.length<xs.length:=Nat.mod_lt _ hx;rw[show((j:Int) % (xs.length:Int))=((j % xs.length:Nat):Int)from by simp,i0 (v:=RV.int (xs.getD (j % xs.length) 0)) (by simp[c])]
   fail"ev";refine⟨⋯,⋯,Ca λp a=>?_⟩
   unfold cF.l;fail"ev";refine⟨vC ⋯ ⋯,.inl ⟨∅,∅⟩,vC ⋯ ⋯,?_⟩
   generalize hw:vn _ 0=wb;have w:wb.In 0:=hw ▸ BV;exact b p ⟨wb.a,_ % _,wb.c⟩ a ⟨w.a,Lk,w.c⟩
theorem wN{g:cF}{a b:Int}(h:g.In a)(c:a<=b):g.In b:=⟨h.a,h.b,h.c.1,by have:=h.c.2;lia⟩
noncomputable def iE (c:Nat):Str:=⟨#[c]⟩
theorem join_ones:∀(cs:List Nat),(Txt.join "" (cs.map iE)).cps.toList=cs:=λcs=>by
 rw[show Txt.join "" (cs.map iE)=Str.join "" (cs.map iE)from PySem.StrLaws.glued_eq_join _ _]
 induction cs with
 |nil=>rfl
 |cons c r ih=>
  cases r with
  |nil=>rfl
  |cons d r=>
   show((iE c++ "")++Str.join "" ((d::r).map iE)).cps.toList=_;show((iE c).cps++("":Str).cps++(Str.join "" ((d::r).map iE)).cps).toList=_;rw[Array.toList_append,Array.toList_append,ih];rfl
theorem Wy{cs:List Nat}(b:cs.length<=40)(d:∀c∈cs,32<=c/\c<=126/\c≠37):Tx (Txt.join "" (cs.map iE)):=by
 have e1:=join_ones cs;refine⟨?_,?_,λy a=>?_⟩
 . show(Txt.join "" (cs.map iE)).cps.size<=40
   rw[<-Array.length_toList,e1];exact b
 . unfold gI;rw[e1,aW];exact b
 . unfold gI at a
   rw[e1]at a;obtain⟨c,h,rfl⟩:=aA.mp a;exact⟨iE c,rfl,rfl,d c h⟩
noncomputable def jB:Str:=" !\"#$&'()*+,-./0123456789:;<=>?@ABCDEFGHIJKLMNOPQRSTUVWXYZ[\\]^_`abcdefghijklmnopqrstuvwxyz{|}~"
theorem s94:jB.cps.toList.length=94/\jB.length<=sizeLine/\jB.cps.toList.all (λc=>decide (32<=c/\c<=126/\c≠37))=true:=by decide+kernel
theorem qwe{v:Int}(h0:0<=v)(g:v<94):∃c,(32<=c/\c<=126/\c≠37)/\∀{M:RM} {Q:ak},d7 (.str jB) (.int v) M Q=Q (.str (iE c)) M:=by
 obtain⟨j,rfl⟩:∃j:Nat,v=j:=⟨v.toNat,∅⟩
 obtain⟨b,d,f⟩:=s94;have a:j<jB.cps.toList.length:=by rw[b];lia
 refine⟨jB.cps.toList[j],eI (fx.mp f _ (List.getElem_mem a)),λ{M Q}=>?_⟩
 show(jB.length<=sizeLine/\match bT jB.cps.toList (j:Int)with|some c=>Q (.str ⟨#[c]⟩) M|none=>False)=_
 rw[i0 (v:=jB.cps.toList[j]) (by simp[a])]
 exact propext ⟨λh=>h.2,λh=>⟨d,h⟩⟩
theorem Kj{x:Addr}{g:cF}(hx:M x=some g.l)(ok:g.In k)(hk:k<900000)(hq:∀tx g',Tx tx->cF.In g' (k+4)->Q (.str tx) (put M x g'.l)):ao (P e) (n+2) 27 [.ref x] M Q:=by
 rw[us (i:=27) (d:=AS) rfl];simp only[AS];rw[show(" !\"#$&'()*+,-./0123456789:;<=>?@ABCDEFGHIJKLMNOPQRSTUVWXYZ[\\]^_`abcdefghijklmnopqrstuvwxyz{|}~":Str)=jB from rfl]
 obtain⟨S,hS⟩:∃S,S=jB:=⟨_,rfl⟩;rw[<-hS];fail"ev";refine df hx ok ∅ ⋯ ⋯ λv1 g1 a1 b1 ok1=>?_
 refine df bo ok1 ∅ ⋯ ⋯ λv2 g2 a2 b2 ok2=>?_
 obtain⟨many,⟨m1,m2⟩,ey⟩:=jT 0 40 (xs:=[.int 0,.int 1,.int v1,.int 40]) a2 b2 (by simp only[iD];lia)
 rw[ey];refine df bo ok2 ∅ ⋯ ⋯ λv3 g3 a3 b3 ok3=>?_
 refine df bo ok3 ∅ ⋯ ⋯ λv4 g4 a4 b4 ok4=>?_
 fail"ev";have ln:(nums many.toNat).length=many.toNat:=by unfold nums;rw[aW,wz]
 refine⟨∅,∅,by rw[ln];exact iJ (show _<=40 by lia) ⋯,?_⟩
 refine uW (λacc M'=>(∃cs:List Nat,acc=cs.map (λc=>RV.str (iE c))/\∀c∈cs,32<=c/\c<=126/\c≠37)/\M'=put M x g4.l) (λσ M K h=>h) (λ_ _ _=>fW) _ _ _ ⟨⟨[],rfl,gm _⟩,rfl⟩ (λy hy acc M' hlt h=>?_) λacc' M' hl h=>?_
 . obtain⟨⟨cs,rfl,h2⟩,rfl⟩:=h
   unfold nums at hy;obtain⟨j,hj,rfl⟩:=aA.mp hy;have hj:=jv.mp hj;refine⟨[.int j],rfl,λK hK=>?_⟩
   show(tr ((P e).Gn (n+1)) _).E [some (.int j),some (.str S),some (.int v3),some (.int v4)] _ K;fail"ev";refine⟨.inl ⟨∅,∅⟩,?_⟩
   obtain⟨c,hc,ey⟩:=qwe (v:=(v3+(j:Int)*v4) % 94) (uh _ ⋯) (uc _ ⋯)
   rw[hS,ey];refine hK _ _ ⟨⟨cs++ [c],by rw[eC];rfl,λd hd=>?_⟩,rfl⟩
   rcases c6.mp hd with z|z
   . exact h2 d z
   . cases eG.mp z;exact hc
 . obtain⟨⟨cs,rfl,h2⟩,rfl⟩:=h
   rw[aW,ln]at hl;have hl:cs.length=many.toNat:=hl.trans (iH _);rw[u6];refine⟨cs.map iE,by rw[bp];rfl,?_,hq _ g4 (Wy ∅ h2) ⟨ok4.a,ok4.b,ok4.c.1,by have:=ok4.c.2;lia⟩⟩
   rw[bp,aW,show(λx:Str=>x.length) ∘ iE=λ_=>1 from rfl,show(Str.ofString "").length=0 from rfl,Nat.mul_zero,Nat.add_zero]
   have sm:∀l:List Nat,(l.map λ_=>1).sum=l.length:=λl=>by
    induction l with
    |nil=>rfl
    |cons c r ih=>rw[bX,List.sum_cons,ih,bW];lia
   rw[sm];lia
end
section
variable {e:Env}{n:Nat}{M M0 M1 L L1:RM}{Q:ak}{f F0:Fm}{i j:ba}{k k' d:Nat}{t u m mo p q tt:Int}{v:Ow}{st s1 wd kd tx nm:Str}{a b x y g g1 g2:Addr}{o o':RO}{s s' F:Gs}{an:An}{r:List Ge}
theorem Gt.set(h:Gt e g f k s M0 L)(l:M0 a=some o):Gt e g f k s (put M0 a o') (put L a o'):=
 h.move (λb u z w=>by rw[put_ne λy=>by rw[y,l]at z;cases z];exact w) (λb u c=>by
  by_cases z:b=a
  . subst z;rw[bo]at c ⊢;exact c
  . rw[put_ne z]at c ⊢;exact h.sub c) (λb u c z=>by
  by_cases y:b=a
  . subst y;rw[l]at z;cases z
  . rw[put_ne y,z]at c;cases c)
theorem bq.set:∀{l:List Ge} {M0 L:RM},bq e l M0 L->M0 a=some o->bq e l (put M0 a o') (put L a o')
 | [],M0,L,h,ha=>λb u c=>by
  by_cases z:b=a
  . subst z;rw[bo]at c ⊢;exact c
  . rw[put_ne z]at c ⊢;exact h b u c
 |_::_,_,_,⟨M1,h1,h2⟩,ha=>⟨put M1 a o',h1.set (h2.sub a o ha),h2.set ha⟩
theorem bq.new:∀{l:List Ge} {M0 L:RM},bq e l M0 L->L a=none->bq e l (put M0 a o) (put L a o)/\M0 a=none
 | [],M0,L,h,ha=>⟨λb u c=>by
  by_cases z:b=a
  . subst z;rw[bo]at c ⊢;exact c
  . rw[put_ne z]at c ⊢;exact h b u c,by
  cases q:M0 a with
  |none=>rfl
  |some u=>rw[h a u q]at ha;cases ha⟩
 |_::_,_,L,⟨M1,h1,h2⟩,ha=>by
  have z:M1 a=none:=by
   cases q:M1 a with
   |none=>rfl
   |some u=>rw[h1.sub q]at ha;cases ha
  obtain⟨C,D⟩:=h2.new z;refine⟨⟨put M1 a o,h1.move (λb u w A=>by rw[put_ne λy=>by rw[y,ha]at A;cases A];exact A) (λb u c=>?_) (λb u c w=>?_),C⟩,D⟩
  . by_cases y:b=a
    . subst y;rw[bo]at c ⊢;exact c
    . rw[put_ne y]at c ⊢;exact h1.sub c
  . by_cases y:b=a
    . rw[y];exact ha
    . rw[put_ne y,w]at c;cases c
noncomputable abbrev oY (e:Env) (g1 g2:Addr):RO:=hE e (.ref g1) (.ls [.ref g2])
noncomputable def yP (m:Int)(x:Str):RV:=.tup [.str "stopped",.int m,.str x]
theorem UD(A:Kw kd wd)(hx:Tx tx)(c:0<=t/\t<=99)(h:1<=u/\u<=9999)(l:0<=p/\p<=1000000)(w:1<=q/\q<=9999)(z:Q (.bl true) M):ao (P e) (n+5) 49 [.tup [.str "out",.int 0,.str kd,.int t,.int u,.int p,.int q,.str wd,.str tx],.int 1] M Q:=by
 rw[us (i:=49) (d:=uO) rfl];simp only[uO];fail"ev";rw[By];fail"ev";rw[lQ];fail"ev";exact IF A hx c h l w z
theorem CZ(d:nm= "come"∨nm= "lost"∨nm= "wait"){ps:LR}(hd:ao (P e) (n+5) 14 [.tup (.str nm::ps)] M Q):ao (P e) (n+6) 49 [.tup (.str nm::ps),.int 1] M Q:=by
 rw[us (i:=49) (d:=uO) rfl];simp only[uO];fail"ev";rw[By];fail"ev";rw[ab (by rcases d with rfl|rfl|rfl<;>decide+kernel)]
 refine⟨eQ.mpr trivial,rfl,?_⟩;rw[show(if false=true then !inR (.str nm) [.str "come",.str "lost",.str "wait"]else inR (.str nm) [.str "come",.str "lost",.str "wait"])=true by rcases d with rfl|rfl|rfl<;>decide+kernel,kf,ag rfl]
 exact hd
theorem YA:(∃m,(bz f s i wd).1= .led m)∨∃x,(bz f s i wd).1= .kept x:=by
 unfold bz;split
 . split
   . exact .inr ⟨_,rfl⟩
   . exact .inl ⟨_,rfl⟩
 . split
   . exact .inr ⟨_,rfl⟩
   . unfold lV
     split
     . exact .inl ⟨_,rfl⟩
     . split
       . exact .inr ⟨_,rfl⟩
       . split
         . exact .inr ⟨_,rfl⟩
         . exact .inl ⟨_,rfl⟩
theorem Wv:(∃h d,qW f s kd p m= .je h d)∨∃x,qW f s kd p m= .kept x:=by
 unfold qW;split
 . exact .inr ⟨_,rfl⟩
 . split
   . exact .inr ⟨_,rfl⟩
   . split
     . exact .inr ⟨_,rfl⟩
     . exact .inl ⟨_,_,rfl⟩
theorem BS:(∃h d,(bZ f s kd wd m p q).1= .je h d)∨∃x,(bZ f s kd wd m p q).1= .kept x:=by
 unfold bZ;split
 . split
   . exact .inr ⟨_,rfl⟩
   . exact .inl ⟨_,_,rfl⟩
 . split
   . exact Wv
   . exact .inr ⟨_,rfl⟩
theorem BL:(∃h d,fN s kd m p q= .told h d)∨∃x,fN s kd m p q= .kept x:=by
 unfold fN;split
 . exact .inl ⟨_,_,rfl⟩
 . exact .inr ⟨_,rfl⟩
def cY(i:ba)(m:Int):ba:=⟨i.kind,0,m,i.place,i.far⟩
noncomputable def Dq (m N:Int):RV:=.tup [.str "led",.int m,.int N]
theorem qur(G:bq e (⟨g1,F0,k',F⟩::⟨g2,f,k,s⟩::r) M0 L)(hy:M0 y=some (oY e g1 g2))(tb:Tb e)(okf:f.Ok)(okF:F0.Ok)(hk:k<700)(hk':k'<700)(oki:i.Ok)(hp:1<=i.place)(kw:Kw i.kind wd)(hx:Tx tx)(hm:∀m,(bz f s i wd).1= .led m->1<=m/\m<=9999)
 (h1:∀x,(bz f s i wd).1= .kept x->∀L',bq e (⟨g1,F0,k',F⟩::⟨g2,f,k+1,(bz f s i wd).2⟩::r) M0 L'->Q (An.kept x).r L')
 (h2:∀m,(bz f s i wd).1= .led m->∃N,(bz F0 F (cY i m) wd).1= .led N/\∀L',bq e (⟨g1,F0,k'+1,(bz F0 F (cY i m) wd).2⟩::⟨g2,f,k+1,(bz f s i wd).2⟩::r) M0 L'->Q (Dq m N) L'):
 ao (P e) (n+12) 51 [.ref y,.tup [.str "out",.int 0,.str i.kind,.int i.house,.int i.door,.int i.place,.int i.far,.str wd,.str tx]] L Q:=by
 have y0:=G.sub _ _ hy;rw[us (i:=51) (d:=kc) rfl];simp only[kc];unfold vG;fail"ev";rw[y0];fail"ev";refine UD kw hx oki.house oki.door oki.place oki.far ?_;fail"ev";unfold vF;fail"ev";rw[y0];fail"ev";rw[us (i:=77) (d:=xm) rfl];simp only[xm];unfold Mj;fail"ev";rw[y0];fail"ev";obtain⟨M1,G2,G1⟩:=G.swap;have G2:Gt e g2 f k s M1 L:=G2;obtain⟨_,_,_,hg2⟩:=G2.gate;rw[hg2];fail"ev";rw[show gj [.str "out",.int 0,.str i.kind,.int i.house,.int i.door,.int i.place,.int i.far,.str wd,.str tx] (some 2) none= [.str i.kind,.int i.house,.int i.door,.int i.place,.int i.far,.str wd,.str tx]from rfl]
 refine⟨show 8<=sizeLine by decide,G2.qi (n:=n+1) tb okf ∅ oki hp kw hx λL2 G2'=>?_⟩
 have G':bq e (⟨g1,F0,k',F⟩::⟨g2,f,k+1,(bz f s i wd).2⟩::r) M0 L2:=bq.swap ⟨M1,G2',G1⟩;have y2:=G'.sub _ _ hy;rcases YA (f:=f) (s:=s) (i:=i) (wd:=wd)with⟨m,hA⟩|⟨x,hA⟩
 . obtain⟨N,hN,h3⟩:=h2 m hA
   have hm:=hm m hA;obtain⟨M3,G3,G4⟩:=G';have G3:Gt e g1 F0 k' F M3 L2:=G3;obtain⟨_,_,_,hg1⟩:=G3.gate;have fin:∀Q:ak,(∀L',Gt e g1 F0 (k'+1) (bz F0 F (cY i m) wd).2 M3 L'->Q (.tup [.str "led",.int N]) L')->ao (P e) (n+10) 91 [.ref g1,.str i.kind,.int 0,.int m,.int i.place,.int i.far,.str wd,.str tx] L2 Q:=λQ hq=>G3.out (n:=n) (i:=cY i m) tb okF ∅ ⟨oki.kind,⟨rU _,show(0:Int)<=99 by decide⟩,hm,oki.place,oki.far⟩ hp kw hx λL' G5=>by
    rw[hN];exact hq L' G5
   clear h1 h2;rw[hA];unfold CK An.r;fail"ev";unfold Mi;fail"ev";unfold Mh;fail"ev";unfold Mg;fail"ev";rw[y2];fail"ev";rw[hg1];fail"ev";refine fin _ λL3 G5=>?_
   have h4:=h3 L3 ⟨M3,G5,G4⟩;unfold Mf;fail"ev"
   (try rw[ab (by decide+kernel)])
   unfold Me;fail"ev";exact h4
 . have:=h1 x hA L2 G'
   rw[hA];unfold CK An.r;fail"ev";exact this
end
section
variable {e:Env}{n:Nat}{M M0 M1 L L1:RM}{Q:ak}{f F0:Fm}{i j:ba}{k k' d:Nat}{t u m mo p q tt N:Int}{st s1 wd kd tx nm:Str}{a b x y g g1 g2:Addr}{o o':RO}{s s' F:Gs}{an:An}{r:List Ge}
noncomputable def iP:An->RV
 | .kept x=>yP 0 x
 | .je h d=>.tup [.str "in",.int 0,.int h,.int d]
 | .told h d=>.tup [.str "told",.int 0,.int h,.int d]
 |_=>.aw
theorem JY{x:Str}:ao (P e) (n+1) 50 [.int 0,.tup [.str "kept",.str x]] M Q=Q (iP (.kept x)) M:=by
 rw[us (i:=50) (d:=qC) rfl];simp only[qC];fail"ev";rfl
theorem qwO{h d:Int}:ao (P e) (n+1) 50 [.int 0,.tup [.str "in",.int h,.int d]] M Q=Q (iP (.je h d)) M:=by
 rw[us (i:=50) (d:=qC) rfl];simp only[qC];fail"ev";rfl
theorem Xl{h d:Int}:ao (P e) (n+1) 50 [.int 0,.tup [.str "told",.int h,.int d]] M Q=Q (iP (.told h d)) M:=by
 rw[us (i:=50) (d:=qC) rfl];simp only[qC];fail"ev";rfl
theorem Yb(G:bq e (⟨g1,F0,k',F⟩::⟨g2,f,k,s⟩::r) M0 L)(hy:M0 y=some (oY e g1 g2))(tb:Tb e)(okf:f.Ok)(okF:F0.Ok)(hk:k<700)(hk':k'<700)(hp:1<=p/\p<=1000000)(hp2:1<=q/\q<=9999)(hN:1<=N/\N<=9999)(kw:Kw kd wd)(hx:Tx tx)
 (h1:∀x,(bZ F0 F kd wd N p q).1= .kept x->∀L',bq e (⟨g1,F0,k'+1,(bZ F0 F kd wd N p q).2⟩::⟨g2,f,k,s⟩::r) M0 L'->Q (An.kept x).r L')
 (h2:∀h m,(bZ F0 F kd wd N p q).1= .je h m->h=0/\(1<=m/\m<=9999)/\∀L',bq e (⟨g1,F0,k'+1,(bZ F0 F kd wd N p q).2⟩::⟨g2,f,k+1,(bZ f s kd wd m p q).2⟩::r) M0 L'->Q (iP (bZ f s kd wd m p q).1) L'):
 ao (P e) (n+12) 51 [.ref y,.tup [.str "come",.str kd,.int p,.int q,.int N,.str wd,.str tx]] L Q:=by
 have y0:=G.sub _ _ hy;rw[us (i:=51) (d:=kc) rfl];simp only[kc];unfold vG;fail"ev";rw[y0];fail"ev";refine CZ (.inl rfl) (qM tb.come (HF kw hx hp hp2 hN ?_));fail"ev";unfold vF;fail"ev"
 (try rw[ab (by decide+kernel)])
 unfold yT;fail"ev"
 (try rw[ag (by decide+kernel)])
 rw[y0];fail"ev";rw[us (i:=52) (d:=xf) rfl];simp only[xf];unfold LZ;fail"ev";rw[y0];fail"ev";obtain⟨M1,G1,G2⟩:=G;have G1:Gt e g1 F0 k' F M1 L:=G1;obtain⟨_,_,_,hg1⟩:=G1.gate;rw[hg1];fail"ev";refine G1.jF (n:=n+1) tb okF ∅ hp hp2 hN kw hx λL2 G1'=>?_
 have G':bq e (⟨g1,F0,k'+1,(bZ F0 F kd wd N p q).2⟩::⟨g2,f,k,s⟩::r) M0 L2:=⟨M1,G1',G2⟩;have y2:=G'.sub _ _ hy;rcases BS (f:=F0) (s:=F) (kd:=kd) (wd:=wd) (m:=N) (p:=p) (q:=q)with⟨h,m,hA⟩|⟨x,hA⟩
 . obtain⟨rfl,hm,h3⟩:=h2 h m hA
   obtain⟨M3,G3,G4⟩:=G'.swap;have G3:Gt e g2 f k s M3 L2:=G3;obtain⟨_,_,_,hg2⟩:=G3.gate;have fin:∀Q:ak,(∀L',bq e (⟨g1,F0,k'+1,(bZ F0 F kd wd N p q).2⟩::⟨g2,f,k+1,(bZ f s kd wd m p q).2⟩::r) M0 L'->Q (bZ f s kd wd m p q).1.r L')->ao (P e) (n+10) 90 [.ref g2,.str kd,.int p,.int q,.int m,.str wd,.str tx] L2 Q:=λQ hq=>G3.come (n:=n) tb okf ∅ hp hp2 hm kw hx λL' G5=>hq L' (bq.swap ⟨M3,G5,G4⟩)
   clear h1 h2;rw[hA];unfold CM An.r;fail"ev"
   (try rw[ab (by decide+kernel)])
   unfold LY;fail"ev";unfold LX;fail"ev";unfold LW;fail"ev";rw[y2];fail"ev";rw[hg2];fail"ev";refine fin _ λL3 G5=>?_
   have h4:=h3 L3 G5;rcases BS (f:=f) (s:=s) (kd:=kd) (wd:=wd) (m:=m) (p:=p) (q:=q)with⟨h,d,hB⟩|⟨x,hB⟩
   . rw[hB]at h4 ⊢
     unfold An.r;dsimp only;rw[qwO];exact h4
   . rw[hB]at h4 ⊢
     unfold An.r;dsimp only;rw[JY];exact h4
 . have:=h1 x hA L2 G'
   rw[hA];unfold CM An.r;fail"ev";exact this
theorem X9(G:bq e (⟨g1,F0,k',F⟩::⟨g2,f,k,s⟩::r) M0 L)(hy:M0 y=some (oY e g1 g2))(tb:Tb e)(hk:k<700)(hk':k'<700)(ht:1<=tt/\tt<=1000000)(hp:1<=p/\p<=1000000)(hp2:1<=q/\q<=9999)(hN:1<=N/\N<=9999)(kk:Kd kd)
 (h1:∀x,fN F kd N p q= .kept x->∀L',bq e (⟨g1,F0,k'+1,F⟩::⟨g2,f,k,s⟩::r) M0 L'->Q (An.kept x).r L')
 (h2:∀h m,fN F kd N p q= .told h m->h=0/\(1<=m/\m<=9999)/\∀L',bq e (⟨g1,F0,k'+1,F⟩::⟨g2,f,k+1,s⟩::r) M0 L'->Q (iP (fN s kd m p q)) L'):
 ao (P e) (n+12) 51 [.ref y,.tup [.str "lost",.int tt,.str kd,.int N,.int p,.int q]] L Q:=by
 have y0:=G.sub _ _ hy;rw[us (i:=51) (d:=kc) rfl];simp only[kc];unfold vG;fail"ev";rw[y0];fail"ev";refine CZ (.inr (.inl rfl)) (qM tb.lost (HC kk ht hN hp hp2 ?_));fail"ev";unfold vF;fail"ev"
 (try rw[ab (by decide+kernel)])
 unfold yT;fail"ev"
 (try rw[ab (by decide+kernel)])
 unfold CN;fail"ev"
 (try rw[ag (by decide+kernel)])
 rw[y0];fail"ev";rw[us (i:=53) (d:=xc) rfl];simp only[xc];unfold LU;fail"ev";rw[y0];fail"ev";obtain⟨M1,G1,G2⟩:=G;have G1:Gt e g1 F0 k' F M1 L:=G1;obtain⟨_,_,_,hg1⟩:=G1.gate;rw[hg1];fail"ev";refine G1.il (n:=n+1) tb ∅ ht hp hp2 hN kk λL2 G1'=>?_
 have G':bq e (⟨g1,F0,k'+1,F⟩::⟨g2,f,k,s⟩::r) M0 L2:=⟨M1,G1',G2⟩;have y2:=G'.sub _ _ hy;rcases BL (s:=F) (kd:=kd) (m:=N) (p:=p) (q:=q)with⟨h,m,hA⟩|⟨x,hA⟩
 . obtain⟨rfl,hm,h3⟩:=h2 h m hA
   obtain⟨M3,G3,G4⟩:=G'.swap;have G3:Gt e g2 f k s M3 L2:=G3;obtain⟨_,_,_,hg2⟩:=G3.gate;have fin:∀Q:ak,(∀L',bq e (⟨g1,F0,k'+1,F⟩::⟨g2,f,k+1,s⟩::r) M0 L'->Q (fN s kd m p q).r L')->ao (P e) (n+10) 87 [.ref g2,.int tt,.str kd,.int m,.int p,.int q] L2 Q:=λQ hq=>G3.lost (n:=n) tb ∅ ht hp hp2 hm kk λL' G5=>hq L' (bq.swap ⟨M3,G5,G4⟩)
   clear h1 h2;rw[hA];unfold CL An.r;fail"ev"
   (try rw[ab (by decide+kernel)])
   unfold LS;fail"ev";unfold LQ;fail"ev";unfold Ml;fail"ev";rw[y2];fail"ev";rw[hg2];fail"ev";refine fin _ λL3 G5=>?_
   have h4:=h3 L3 G5;rcases BL (s:=s) (kd:=kd) (m:=m) (p:=p) (q:=q)with⟨h,d,hB⟩|⟨x,hB⟩
   . rw[hB]at h4 ⊢
     unfold An.r;dsimp only;rw[Xl];exact h4
   . rw[hB]at h4 ⊢
     unfold An.r;dsimp only;rw[JY];exact h4
 . have:=h1 x hA L2 G'
   rw[hA];unfold CL An.r;fail"ev";exact this
theorem X8(G:bq e (⟨g1,F0,k',F⟩::⟨g2,f,k,s⟩::r) M0 L)(hy:M0 y=some (oY e g1 g2))(htb:M0 e.lP=some (ck e))(tb:Tb e)(hk:k<64)(hk':k'<64)(ht:0<=t/\t<=1000000)
 (hq:∀L',bq e (⟨g1,F0,k'+1,fY F0 F t⟩::⟨g2,f,k+1,fY f s t⟩::r) M0 L'->Q .aw L'):
 ao (P e) (n+12) 51 [.ref y,.tup [.str "wait",.int t]] L Q:=by
 have y0:=G.sub _ _ hy;rw[us (i:=51) (d:=kc) rfl];simp only[kc];unfold vG;fail"ev";rw[y0];fail"ev";refine CZ (.inr (.inr rfl)) (qM tb.wait (HB ht.1 ht.2 ?_));fail"ev";unfold vF;fail"ev"
 (try rw[ab (by decide+kernel)])
 unfold yT;fail"ev"
 (try rw[ab (by decide+kernel)])
 unfold CN;fail"ev"
 (try rw[ab (by decide+kernel)])
 unfold L0;fail"ev";rw[y0];fail"ev";rw[us (i:=54) (d:=xX) rfl];simp only[xX];fail"ev";rw[y0];fail"ev";obtain⟨M1,G1,G2⟩:=G;have G1:Gt e g1 F0 k' F M1 L:=G1;obtain⟨_,_,_,hg1⟩:=G1.gate;rw[hg1];fail"ev";refine G1.jG (n:=n+1) tb hk' (bq.sub G2 _ _ htb) ht λL2 G1'=>?_
 have G':bq e (⟨g1,F0,k'+1,fY F0 F t⟩::⟨g2,f,k,s⟩::r) M0 L2:=⟨M1,G1',G2⟩;have y2:=G'.sub _ _ hy
 (try fail"ev")
 rw[y2];fail"ev";obtain⟨M3,G3,G4⟩:=G'.swap;have G3:Gt e g2 f k s M3 L2:=G3;obtain⟨_,_,_,hg2⟩:=G3.gate;refine⟨fW,?_⟩;unfold jU;fail"ev";rw[hg2];fail"ev";refine G3.jG (n:=n+1) tb hk (bq.sub G4 _ _ htb) ht λL3 G5=>?_
 refine⟨fW,?_⟩
 (try fail"ev")
 exact hq L3 (bq.swap ⟨M3,G5,G4⟩)
end
section
variable {e:Env}{n:Nat}{M M0 M1 L L1:RM}{Q:ak}{ad:Nat->Addr}{f:Fm}{i j:ba}{k k' d:Nat}{c:Cn}{tl:List Tk}{t u m mo p q tt N b:Int}{st s1 wd kd tx nm:Str}{a x y g g1 g2:Addr}{o o':RO}{s s' F:Gs}{an:An}{r:List Ge}{v:Ow}
noncomputable def W0:Fm:=⟨5000,5199,"door","all","next",200,true,1000000,1000000,1000000,0⟩
theorem Du:W0.Ok:=by constructor<;>decide+kernel
structure Fk(f:Fm)(k:Nat)(s:Gs):Prop where
 kk:(s.K.map (·.1)).Nodup
 km:(s.K.map (·.2)).Nodup
 tn:∀v∈s.ol,lk s.K (bD f v.i)=some v.m
 hk:∀x∈s.K,f.low<=x.2/\x.2<=f.high
 l1:s.K.length<=k
 mr:f.low<=s.mr/\s.mr<=f.high
 nw:0<=s.now
 d1:(s.ol.map (·.i)).Nodup
theorem Gt.fk(h:Gt e g f k s M0 L):Fk f k s:=by
 have kt:=h.kt;obtain⟨ad,c,tl,M,G,_,_,rfl,_⟩:=h;exact⟨G.d4,G.d3,λv w=>by obtain⟨T,l,rfl⟩:=aA.mp w;exact G.tn T l,λx hx=>(G.hk x hx).2,G.s1,G.mr,G.nw,kt.d1⟩
noncomputable def j9 (m:Int):TK:=[some (.inr "note"),some (.inl 0),some (.inl m),none,none]
noncomputable def door (t:TK):Int:=(sh t).2.2
noncomputable def bH (F:Gs):List (Int×Int):=F.K.map λx=>(x.2,door x.1)
structure Iv(s F:Gs)(b:Int):Prop where
 nw:F.now=s.now
 tb:s.now<=b
 ki:∀x∈F.K,x.1=j9 (door x.1)/\1<=door x.1/\door x.1<=9999
 fo:∀v∈F.ol,v.i.kind= "note"/\v.i.house=0/\v.st= "note"/\1000000<=v.ov
 so:∀v∈s.ol,v.i.kind= "note"/\v.st= "note"/\∃u∈F.ol,u.i=⟨"note",0,v.m,v.i.place,v.i.far⟩
 un:∀x,F.un x=0
theorem zm:nx "note" (some ("note":Str)) sd "say" =some ("note":Str):=by
 unfold nx;rw[ag rfl,ag ⟨rfl,.inr rfl⟩]
theorem OM:nx "note" none sd "say" =some ("note":Str):=by
 unfold nx;rw[ag rfl,ag ⟨rfl,.inl rfl⟩]
theorem OS(h:i.kind= "note")(l:i.house=0):bD W0 i=j9 i.door:=by
 unfold bD j9;rw[ag (show W0.lend= "door" from rfl),h,l]
theorem Fk.hold(h:Fk W0 k F)(I:Iv s F b)(l:v∈F.ol):(j9 v.i.door,v.m)∈F.K:=by
 have:=h.tn v l;rw[OS (I.fo v l).1 (I.fo v l).2.1]at this;exact gB this
theorem Fk.gy(h:Fk f k F){x:TK×Int}(hx:x∈F.K):lk (bH F) x.2=some (door x.1):=
 ml (x:=(x.2,door x.1)) (by unfold bH;rw[bp];exact h.km) (aA.mpr ⟨x,hx,rfl⟩)
theorem Li(h:lk (bH F) N=some m):∃x∈F.K,x.2=N/\door x.1=m:=by
 obtain⟨x,hx,e1⟩:=aA.mp (gB h);injection e1 with e1 l
 exact⟨x,hx,e1,l⟩
theorem Fk.uniq(h:Fk W0 k F)(I:Iv s F b){x y:TK×Int}(hx:x∈F.K)(l:y∈F.K)(e1:door x.1=door y.1):x=y:=
 et h.kk hx l (by rw[(I.ki x hx).1,(I.ki y l).1,e1])
def Le(s s':Gs):Prop:=s'.now=s.now/\∀v∈s'.ol,∃u∈s.ol,u.i=v.i/\u.m=v.m/\u.st=v.st
theorem JD(w:v∈s.ol)(hs:v.st=st)(l:st≠"shut")(d1:(s.ol.map (·.i)).Nodup):Le s (jl f s v st):=by
 unfold jl;rw[ab l];refine⟨rfl,λw A=>?_⟩
 obtain⟨u,h,rfl⟩:=aA.mp A;refine⟨u,h,?_⟩
 by_cases z:u.i=v.i
 . rw[ag z];exact⟨rfl,rfl,by rw[et d1 h w z];exact hs⟩
 . rw[ab z];exact⟨rfl,rfl,rfl⟩
theorem yt:("note":Str)≠"shut":=by decide+kernel
theorem Lo(d1:(s.ol.map (·.i)).Nodup)(hs:∀v∈s.ol,v.i.kind= "note"/\v.st= "note")(hi:i.kind= "note"):(bz f s i "say").2.now=s.now/\∀v∈(bz f s i "say").2.ol,(∃u∈s.ol,u.i=v.i/\u.m=v.m/\u.st=v.st)∨((bz f s i "say").1= .led v.m/\v.i=i/\v.st= "note"):=by
 unfold bz;cases hf:s.ol.find? λu=>decide (u.i=i)with
 |some v=>
  have h:=gP hf;dsimp only;rw[hi,(hs v h).2,zm];dsimp only;obtain⟨D,E⟩:=JD (f:=f) h (hs v h).2 yt d1;exact⟨D,λw H=>.inl (E w H)⟩
 |none=>
  dsimp only;rw[hi,OM];dsimp only;unfold lV;have l:∀s' m,s'.ol=s.ol->s'.now=s.now->(l8 f s' i m "note").now=s.now/\∀v∈(l8 f s' i m "note").ol,(∃u∈s.ol,u.i=v.i/\u.m=v.m/\u.st=v.st)∨(An.led m=An.led v.m/\v.i=i/\v.st= "note"):=λs' m e1 C=>⟨C,λv h=>by
   rcases c6.mp h with z|z
   . rw[e1]at z;exact .inl ⟨v,z,rfl,rfl,rfl⟩
   . cases eG.mp z;exact .inr ⟨rfl,rfl,rfl⟩⟩
  have A:s.now=s.now/\∀x,∀v∈s.ol,(∃u∈s.ol,u.i=v.i/\u.m=v.m/\u.st=v.st)∨(An.kept x=An.led v.m/\v.i=i/\v.st= "note"):=⟨rfl,λx v h=>.inl ⟨v,h,rfl,rfl,rfl⟩⟩
  split
  . exact l s _ rfl rfl
  . split
    . exact⟨rfl,A.2 _⟩
    . split
      . exact⟨rfl,A.2 _⟩
      . exact l (tq f s i _) _ rfl rfl
theorem Y2(d1:(s.ol.map (·.i)).Nodup)(hs:∀v∈s.ol,v.i.kind= "note"/\v.st= "note"):Le s (bZ f s "note" "say" m p q).2:=by
 have l:Le s s:=⟨rfl,λv h=>⟨v,h,rfl,rfl,rfl⟩⟩
 unfold bZ;split
 . rename_i v h
   have h:=gP h;rw[(hs v h).1,(hs v h).2,zm];dsimp only;split
   . exact JD h (hs v h).2 yt d1
   . exact l
 . split<;>exact l
end
section
variable {e:Env}{n:Nat}{M M0 M1 L L1:RM}{Q:ak}{ad:Nat->Addr}{f:Fm}{i j:ba}{k k' d:Nat}{c:Cn}{tl:List Tk}{t u m mo p q tt N b dd:Int}{st s1 wd kd tx nm:Str}{a x y g g1 g2:Addr}{o o':RO}{s s' F:Gs}{an:An}{r:List Ge}{v:Ow}
theorem Fk.pick(h:Fk W0 k F)(hk:k<200)(un:∀x,F.un x=0):∃N,qY W0 F dd=some N:=by
 have l1:=h.l1;have nw:=h.nw;obtain⟨m1,m2⟩:=h.mr;have m1:5000<=F.mr:=m1;have m2:F.mr<=5199:=m2;obtain⟨x,x1,x2,x3⟩:∃x,5000<=x/\x<=5199/\x∉F.K.map (·.2):=by
  refine Classical.byContradiction λno=>?_
  have all:∀x∈(List.range 200).map (λ(j:Nat)=>(5000:Int)+(j:Int)),x∈F.K.map (·.2):=λx hx=>by
   obtain⟨j,hj,rfl⟩:=aA.mp hx;have hj:=jv.mp hj;exact Classical.byContradiction λz=>no ⟨5000+j,∅,∅,z⟩
  have:=sub_len qv3 all;rw[aW,wz,aW]at this;lia
 have fr:jo W0 F x=true:=by
  unfold jo;rw[un x];simp only[bj,ib,i9,decide_eq_false_iff_not];exact⟨⟨⟨x1,x2⟩,x3⟩,nw⟩
 unfold qY;rw[ab (by rw[show(W0.pick==("keep":Str))=false by decide+kernel];simp)]
 cases z:(CI W0 F.mr).find? (jo W0 F)with
 |some N=>exact⟨N,rfl⟩
 |none=>
  rw[jZ]at z;refine aU fr (z x ?_);unfold CI aI.line;rw[c6,aA,aA];dsimp only[W0]
  by_cases y:F.mr<=x
  . exact .inl ⟨(x-F.mr).toNat,jv.mpr ∅,∅⟩
  . exact .inr ⟨(x-5000).toNat,jv.mpr ∅,∅⟩
theorem IX{l:List (Int×Int)}(nd:(l.map (·.1)).Nodup)(h:lk l N=some m):pt l N m=l:=by
 unfold pt;rw[ag (List.any_eq_true.mpr ⟨_,gB h,cu rfl⟩)]
 conv=>rhs;rw[<-List.map_id l]
 refine jx λx hx=>?_
 split
 . rename_i z
   have:=ml nd hx;rw[z,h]at this;injection this with this
   show(x.1,m)=x;rw[this]
 . rfl
theorem CF(h:Fk f k F):((bH F).map (·.1)).Nodup:=by unfold bH;rw[bp];exact h.km
structure Fo(F F':Gs)(i:ba)(m N:Int):Prop where
 nw:F'.now=F.now
 un:∀x,F'.un x=0
 ki:∀x∈F'.K,x.1=j9 (door x.1)/\1<=door x.1/\door x.1<=9999
 fo:∀v∈F'.ol,v.i.kind= "note"/\v.i.house=0/\v.st= "note"/\1000000<=v.ov
 mo:∀v∈F.ol,∃u∈F'.ol,u.i=v.i
 me:∃u∈F'.ol,u.i=cY i m
 pt:pt (bH F) N m=bH F'
 n1:lk (bH F) N=none∨lk (bH F) N=some m
 n2:(bH F).filter (λx=>decide (x.2=m))= []∨(bH F).filter (λx=>decide (x.2=m))= [(N,m)]
theorem Ks(h:Fk W0 k F)(I:Iv s F b){x:TK×Int}(hx:x∈F.K)(e1:door x.1=m):(bH F).filter (λx=>decide (x.2=m))= [(x.2,m)]:=by
 have key:∀y∈F.K,(door y.1=m↔y=x):=λy hy=>⟨λz=>h.uniq I hy hx (z.trans e1.symm),λz=>by rw[z];exact e1⟩
 have nd:F.K.Nodup:=(nR.mp h.km).imp λh z=>h (by rw[z])
 unfold bH;rw[nO];show List.map _ (F.K.filter λy=>decide (door y.1=m))=_
 rw[jy (q:=λy=>decide (y=x)) λy hy=>kM.mpr (key y hy)]
 have:∀{l:List (TK×Int)},l.Nodup->x∈l->l.filter (λy=>decide (y=x))= [x]:=λ{l}=>by
  induction l with
  |nil=>intro _ h;cases h
  |cons y l ih=>
   intro nd hx;rw[iL]at nd;rw[ju]
   by_cases z:y=x
   . subst z
     rw[ag (cu rfl),wq.mpr λw hw q=>nd.1 (by rw[<-eI q];exact hw)]
   . rw[ab (by simpa using z)]
     exact ih nd.2 ((fC.mp hx).resolve_left (cx z))
 rw[this nd hx];show [(x.2,door x.1)]=_;rw[e1]
theorem Uj(h:Fk W0 k F)(hk:k<200)(I:Iv s F b)(hi:i.kind= "note")(hm:1<=m/\m<=9999):∃N,(bz W0 F (cY i m) "say").1= .led N/\Fo F (bz W0 F (cY i m) "say").2 i m N:=by
 have O:(cY i m).kind= "note":=hi;have U:bD W0 (cY i m)=j9 m:=OS O rfl;have A:1000000<=F.now+W0.tm "note":=by
  have:=h.nw;show 1000000<=F.now+1000000;lia
 have Y:∀D N,D.ol=F.ol->D.now=F.now->(∀x,D.un x=0)->(∀x∈D.K,x.1=j9 (door x.1)/\1<=door x.1/\door x.1<=9999)->R.pt (bH F) N m=bH D->(lk (bH F) N=none∨lk (bH F) N=some m)->((bH F).filter (λx=>decide (x.2=m))= []∨(bH F).filter (λx=>decide (x.2=m))= [(N,m)])->Fo F (l8 W0 D (cY i m) N "note") i m N:=λF1 N e1 Z e3 e4 e5 e6 e7=>by
  refine⟨Z,e3,e4,λv C=>?_,λv C=>⟨v,c6.mpr (.inl (by rw[e1];exact C)),rfl⟩,⟨_,c6.mpr (.inr (.head _)),rfl⟩,e5,e6,e7⟩
  rcases c6.mp C with z|z
  . rw[e1]at z;exact I.fo v z
  . cases eG.mp z
    exact⟨O,rfl,rfl,by rw[Z];exact A⟩
 unfold bz;cases hf:F.ol.find? λu=>decide (u.i=cY i m)with
 |some v=>
  have C:=gP hf;have J:v.i=cY i m:=eI (j4 (p:=λu:Ow=>decide (u.i=cY i m)) hf)
  have E:=h.hold I C;rw[show v.i.door=m by rw[J];rfl]at E
  dsimp only;rw[O,(I.fo v C).2.2.1,zm];dsimp only;refine⟨v.m,rfl,?_⟩;have l:lk (bH F) v.m=some m:=h.gy E;unfold jl;rw[ab yt];refine⟨rfl,I.un,I.ki,λw X=>?_,λw X=>?_,?_,IX (CF h) l,.inr l,.inr (Ks h I E rfl)⟩
  . obtain⟨u,W,rfl⟩:=aA.mp X
    split
    . exact⟨(I.fo u W).1,(I.fo u W).2.1,rfl,A⟩
    . exact I.fo u W
  . refine⟨_,aA.mpr ⟨w,X,rfl⟩,?_⟩
    split<;>rfl
  . refine⟨_,aA.mpr ⟨v,C,rfl⟩,?_⟩
    rw[ag rfl];exact J
 |none=>
  dsimp only;rw[O,OM];dsimp only;unfold lV;rw[U];cases E:lk F.K (j9 m)with
  |some N=>
   have H:=gB E;have l:lk (bH F) N=some m:=h.gy H;exact⟨N,rfl,Y F N rfl rfl I.un I.ki (IX (CF h) l) (.inr l) (.inr (Ks h I H rfl))⟩
  |none=>
   have ne:∀x∈F.K,door x.1≠m:=λx hx z=>aQ.mp E (aA.mpr ⟨x,hx,by rw[(I.ki x hx).1,z]⟩)
   dsimp only;have l2:heldW F (cY i m).house<=(k:Int):=by
    unfold heldW;have:=jY (λx:TK×Int=>decide (x.1[1]? =some (some (.inl (cY i m).house)))) F.K
    have:=h.l1;lia
   rw[ab (show ¬W0.most<=heldW F (cY i m).house fromλz=>by have z:(200:Int)<=heldW F (cY i m).house:=z;lia)]
   obtain⟨N,hN⟩:=h.pick hk I.un (dd:=(cY i m).door);rw[hN];obtain⟨n1,_⟩:=BO (Bg hN);have nn:lk (bH F) N=none:=aQ.mpr (by unfold bH;rw[bp];exact n1)
   refine⟨N,rfl,Y (tq W0 F (cY i m) N) N rfl rfl (λx=>?_) (λx hx=>?_) ?_ (.inl nn) (.inl (wq.mpr λy hy z=>?_))⟩
   . show(if x=N then 0 else F.un x)=0
     rw[I.un x];split<;>rfl
   . rcases c6.mp hx with z|z
     . exact I.ki x z
     . cases eG.mp z
       rw[U];exact⟨rfl,hm.1,hm.2⟩
   . rw[m9 nn]
     unfold bH tq;rw[eC,U];rfl
   . obtain⟨x,hx,rfl⟩:=aA.mp hy
     exact ne x hx (eI z)
end
section
variable {e:Env}{n:Nat}{f:Fm}{i j:ba}{k k' d:Nat}{t u m mo p q tt N b dd:Int}{st s1 wd kd tx nm:Str}{s s' F F':Gs}{v:Ow}
structure Fs(F F':Gs):Prop where
 nw:F'.now=F.now
 un:∀x,F'.un x=0
 K:F'.K=F.K
 fo:∀v∈F'.ol,v.i.kind= "note"/\v.i.house=0/\v.st= "note"/\1000000<=v.ov
 mo:∀v∈F.ol,∃u∈F'.ol,u.i=v.i
theorem Fs.refl(I:Iv s F b):Fs F F:=⟨rfl,I.un,rfl,I.fo,λv a=>⟨v,a,rfl⟩⟩
theorem Fs.Es(h:Fs F F'):bH F'=bH F:=by unfold bH;rw[h.K]
theorem Xh{i:ba}(h:bA i=oK kd p q):i.kind=kd/\i.place=p/\i.far=q:=by
 unfold bA oK at h;simp only[List.cons.injEq,mL,Sum.inr.injEq,Sum.inl.injEq,and_true]at h;exact h
theorem BB{v:Ow}(h:i4 kd m p q v=true):v.m=m/\v.i.kind=kd/\v.i.place=p/\v.i.far=q:=by
 obtain⟨a,c⟩:=eI h;exact⟨a,Xh c⟩
theorem TX(h:Fk W0 k F)(I:Iv s F b)(J:5000<=N/\N<=5199):(lk (bH F) N=none/\(bZ W0 F "note" "say" N p q).1= .kept "nobody"∨∃m,lk (bH F) N=some m/\(bZ W0 F "note" "say" N p q).1= .je 0 m/\1<=m/\m<=9999)/\Fs F (bZ W0 F "note" "say" N p q).2:=by
 unfold bZ;cases hf:F.ol.find? (i4 "note" N p q)with
 |some v=>
  have A:=gP hf;have g:=(BB (j4 (p:=i4 "note" N p q) hf)).1;obtain⟨C,D,E,Q⟩:=I.fo v A;have a:=h.hold I A;have c:=h.gy a;rw[show((j9 v.i.door,v.m):TK×Int).2=N from g]at c
  dsimp only;rw[C,E,zm];dsimp only;rw[ag (.inl rfl),D];refine⟨.inr ⟨v.i.door,c,rfl,(I.ki _ a).2⟩,?_⟩;unfold jl;rw[ab yt];refine⟨rfl,I.un,rfl,λw o=>?_,λw o=>⟨_,aA.mpr ⟨w,o,rfl⟩,by split<;>rfl⟩⟩
  obtain⟨u,l,rfl⟩:=aA.mp o;split
  . refine⟨(I.fo u l).1,(I.fo u l).2.1,rfl,?_⟩
    have:=h.nw;show 1000000<=F.now+1000000;lia
  . exact I.fo u l
 |none=>
  dsimp only;rw[ag (show W0.low<=N/\N<=W0.high from J)]
  refine⟨?_,Fs.refl I⟩;unfold qW;cases hx:F.K.find? λx=>decide (x.2=N)with
  |none=>
   refine .inl ⟨aQ.mpr λz=>?_,rfl⟩
   obtain⟨y,L,e1⟩:=aA.mp z;obtain⟨x,r,rfl⟩:=aA.mp L;rw[jZ]at hx;exact hx x r (cu e1)
  |some x=>
   have a:=gP hx;have g:x.2=N:=eI (j4 (p:=λx:TK×Int=>decide (x.2=N)) hx)
   obtain⟨M,O⟩:=I.ki x a;have H:sh x.1=(("note":Str),(0:Int),door x.1):=by rw[M];rfl
   dsimp only;rw[H];dsimp only;rw[ab (λz=>z rfl),ab (λz=>z.elim (by decide+kernel) λz=>z (.inl rfl))]
   exact .inr ⟨door x.1,by rw[<-g];exact h.gy a,rfl,O⟩
theorem TV(h:Fk W0 k F)(I:Iv s F b):(fN F "note" N p q= .kept "nobody"/\∀m,lk (bH F) N=some m->∃x,fN s "note" m p q= .kept x)∨∃m,lk (bH F) N=some m/\fN F "note" N p q= .told 0 m/\1<=m/\m<=9999:=by
 unfold fN;cases hf:F.ol.find? (i4 "note" N p q)with
 |some v=>
  have o:=gP hf;have g:=(BB (j4 (p:=i4 "note" N p q) hf)).1;have c:=h.hold I o;have a:=h.gy c;rw[show((j9 v.i.door,v.m):TK×Int).2=N from g]at a
  exact .inr ⟨v.i.door,a,by dsimp only;rw[(I.fo v o).2.1],(I.ki _ c).2⟩
 |none=>
  refine .inl ⟨rfl,λm g=>?_⟩
  cases hs:s.ol.find? (i4 "note" m p q)with
  |none=>exact⟨_,rfl⟩
  |some w=>
   have A:=gP hs;obtain⟨r,E,y,z⟩:=BB (j4 (p:=i4 "note" m p q) hs);obtain⟨_,_,u,l,e1⟩:=I.so w A;have c:=h.hold I l;obtain⟨x,hx,C,D⟩:=Li g;have:=h.uniq I c hx (by rw[D];show u.i.door=m;rw[e1];exact r)
   rw[jZ]at hf;refine aU (cu ⟨?_,?_⟩) (hf u l)
   . rw[<-C,<-this]
   . rw[e1]
     show oK "note" w.i.place w.i.far=_;rw[y,z]
theorem Iv.out(I:Iv s F b)(d1:(s.ol.map (·.i)).Nodup)(hi:i.kind= "note")(D:(bz f s i "say").1= .led m)(h:Fo F F' i m N):Iv (bz f s i "say").2 F' b:=by
 obtain⟨r,C⟩:=Lo (f:=f) d1 (λv c=>⟨(I.so v c).1,(I.so v c).2.1⟩) hi
 refine⟨h.nw.trans (I.nw.trans r.symm),by rw[r];exact I.tb,h.ki,h.fo,λv c=>?_,h.un⟩
 rcases C v c with⟨u,E,e1,a,l⟩|⟨e1,a,l⟩
 . obtain⟨x,y,w,H,A⟩:=I.so u E
   obtain⟨z,o,g⟩:=h.mo w H;exact⟨by rw[<-e1];exact x,by rw[<-l];exact y,z,o,by rw[g,A,e1,a]⟩
 . rw[D]at e1
   injection e1 with e1
   obtain⟨z,o,g⟩:=h.me;exact⟨by rw[a];exact hi,l,z,o,by rw[g,a,<-e1];show(⟨i.kind,0,m,i.place,i.far⟩:ba)=_;rw[hi]⟩
theorem Iv.le(I:Iv s F b)(h:Le s s')(a:Fs F F'):Iv s' F' b:=by
 refine⟨a.nw.trans (I.nw.trans h.1.symm),by rw[h.1];exact I.tb,by rw[a.K];exact I.ki,a.fo,λv A=>?_,a.un⟩
 obtain⟨u,y,e1,r,x⟩:=h.2 v A;obtain⟨c,g,w,C,l⟩:=I.so u y;obtain⟨z,D,o⟩:=a.mo w C;exact⟨by rw[<-e1];exact c,by rw[<-x];exact g,z,D,by rw[o,l,e1,r]⟩
theorem Iv.kept(I:Iv s F b)(d1:(s.ol.map (·.i)).Nodup)(hi:i.kind= "note"){x:Str}(h:(bz f s i "say").1= .kept x):Iv (bz f s i "say").2 F b:=by
 obtain⟨c,g⟩:=Lo (f:=f) d1 (λv a=>⟨(I.so v a).1,(I.so v a).2.1⟩) hi
 refine I.le ⟨c,λv a=>(g v a).resolve_right λz=>?_⟩ (Fs.refl I)
 rw[h]at z;cases z.1
theorem Iv.wait(I:Iv s F b)(h:Kt F)(H:0<=t)(E:b+t<1000000):Iv (fY f s t) (fY W0 F t) (b+t)/\bH (fY W0 F t)=bH F:=by
 have tb:=I.tb;have nw:=I.nw;have c:nr F (F.now+t)=F.ol:=mF.mpr λv a=>cu (by have:=(I.fo v a).2.2.2;lia)
 have g:(fY W0 F t).K=F.K:=by
  show(F.K.filter λx=>cW (nr F (F.now+t)) x.2)=F.K
  rw[c];exact mF.mpr λx hx=>h.kt x hx
 refine⟨⟨by show F.now+t=s.now+t;rw[nw],by show s.now+t<=b+t;lia,by rw[g];exact I.ki,λv a=>I.fo v (by rw[<-c];exact a),λv a=>?_,λx=>?_⟩,by unfold bH;rw[g]⟩
 . obtain⟨o,r,w,A,z⟩:=I.so v (cb.mp a).1
   exact⟨o,r,w,by show w∈nr F (F.now+t);rw[c];exact A,z⟩
 . show(if x∈F.K.map (·.2)/\cW (nr F (F.now+t)) x=false then _ else F.un x)=0
   rw[ab,I.un x];rintro ⟨D,l⟩;obtain⟨y,C,rfl⟩:=aA.mp D;rw[c,h.kt y C]at l;cases l
theorem Iv.init:Iv (qo f) (qo W0) 0:=⟨rfl,rU _,gm _,gm _,gm _,λ_=>rfl⟩
end
section
variable {e:Env}{n:Nat}{M M0 M1 L L1:RM}{Q:ak}{f:Fm}{i j:ba}{k k' d:Nat}{t u m mo p q tt N b dd:Int}{st s1 wd kd tx nm:Str}{a x y g g1 g2:Addr}{o o':RO}{s s' F:Gs}{an:An}{r:List Ge}
noncomputable def tmG:RV->RV
 | .int i=>.int (1+i % 400)
 |x=>x
theorem WV{x:Addr}{g:cF}(hx:M x=some g.l)(ok:g.In k)(hk:k<800000)(hq:∀f g',Fm.Ok f->cF.In g' (k+19)->Q f.r (put M x g'.l)):ao (P e) (n+3) 28 [.ref x] M Q:=by
 rw[us (i:=28) (d:=AZ) rfl];simp only[AZ];unfold EM;fail"ev";refine VH hx ok ∅ λf g1 Z Y=>?_
 unfold EL;fail"ev";refine df bo Y ∅ ⋯ ⋯ λv2 g2 a2 b2 C=>?_
 obtain⟨J,⟨m1,m2⟩,ey⟩:=jT 1 40 (xs:=[.int 1,.int 2,.int 3,.int 12,.int 40]) a2 b2 (by simp only[iD];lia)
 rw[ey];obtain⟨D,h1,v,l,A,w,c,E,H,I,O⟩:=f;obtain⟨o1,o2,o3,o4,o5,o6,o7,o8,o9,U,W,X⟩:=Z;dsimp only at o1 o2 o3 o4 o5 o6 o7 o8 o9 U W X;unfold Fm.r Fm.times;unfold EK;fail"ev";unfold EJ;fail"ev";rw[show gj [RV.int E,RV.int H,RV.int I,RV.int O] none (some 3)= [RV.int E,RV.int H,RV.int I]from rfl]
 refine⟨(by decide:3<sizeLine),jN (bd:=gk false 1) (λ_=>true) tmG fW _ _ (λx hx=>⟨[x],rfl,λK h=>h,λ_ K h=>?_⟩) ?_⟩
 . have:∃i:Int,x= .int i:=by
    simp only[fC,List.not_mem_nil,or_false]at hx;rcases hx with rfl|rfl|rfl<;>exact⟨_,rfl⟩
   obtain⟨i,rfl⟩:=this;fail"ev";exact h
 . show n9 "tuple" [.ls [.int (1+E % 400),.int (1+H % 400),.int (1+I % 400)]] _ _
   rw[show ∀xs M Q,n9 "tuple" [.ls xs] M Q=Q (.tup xs) M fromλ_ _ _=>rfl]
   rw[show ∀xs ys M Q,iX .Add (.tup xs) (.tup ys) M Q=(xs.length+ys.length<=sizeLine/\Q (.tup (xs++ys)) M)fromλ_ _ _ _=>rfl]
   refine⟨(by decide:4<=sizeLine),?_⟩
   unfold EI;fail"ev";rw[show gj [RV.int D,RV.int h1,RV.str v,RV.str l,RV.str A,RV.int w,RV.bl c,RV.tup [RV.int E,RV.int H,RV.int I,RV.int O]] (some 2) (some 7)= [RV.str v,RV.str l,RV.str A,RV.int w,RV.bl c]from rfl]
   generalize hlo:(if 9960<D then 9960 else D)=lo
   have l1:1<=lo/\lo<=9960:=by rw[<-hlo];split<;>lia
   have R:∀z:Int,0<=z % 400/\z % 400<400:=λz=>⟨uh _ ⋯,uc _ ⋯⟩
   have:=R E;have:=R H;have:=R I;have q3:0<=O % 200/\O % 200<200:=⟨uh _ ⋯,uc _ ⋯⟩
   have fin:=hq ⟨lo,lo+J-1,v,l,A,w,c,1+E % 400,1+H % 400,1+I % 400,O % 200⟩ g2 ⟨l1.1,by dsimp only;lia,by dsimp only;lia,by dsimp only;lia,o5,o6,o7,o8,by dsimp only;lia,by dsimp only;lia,by dsimp only;lia,by dsimp only;lia⟩ ⟨C.a,C.b,C.c.1,by have:=C.c.2;lia⟩
   unfold Fm.r Fm.times at fin;exact⟨show 7<=sizeLine by decide,show 8<=sizeLine by decide,fin⟩
noncomputable def outD (h d p q:Int)(tx:Str):RV:=.tup [.str "out",.int 0,.str "note",.int h,.int d,.int p,.int q,.str "say",.str tx]
noncomputable def iC (p q N:Int)(tx:Str):RV:=.tup [.str "come",.str "note",.int p,.int q,.int N,.str "say",.str tx]
noncomputable def iA (N p q:Int):RV:=.tup [.str "lost",.int 4,.str "note",.int N,.int p,.int q]
noncomputable def yL (t:Int):RV:=.tup [.str "wait",.int t]
theorem XD{nm:List (Int×Int)}{g:cF}(hx:M x=some g.l)(ok:g.In k)(hk:k<800000)(hn:M a=some (.dk (eU nm)))(hl:nm.length<64)(hr:∀y∈nm,5000<=y.1/\y.1<=5199)
 (h1:∀h d p q tx g',0<=h/\h<=99->1<=d/\d<=9999->1<=p/\p<=1000000->1<=q/\q<=9999->Tx tx->cF.In g' (k+12)->Q (outD h d p q tx) (put M x g'.l))
 (h2:∀p q N tx g',1<=p/\p<=1000000->1<=q/\q<=9999->5000<=N/\N<=5199->Tx tx->cF.In g' (k+12)->Q (iC p q N tx) (put M x g'.l))
 (h3:∀N p q g',1<=p/\p<=1000000->1<=q/\q<=9999->5000<=N/\N<=5199->cF.In g' (k+12)->Q (iA N p q) (put M x g'.l))
 (h4:∀t g',0<=t/\t<500->cF.In g' (k+12)->Q (yL t) (put M x g'.l)):ao (P e) (n+3) 59 [.ref x,.ref a] M Q:=by
 have nxa:x≠a:=λz=>by rw[z,hn]at hx;unfold cF.l at hx;cases hx
 rw[us (i:=59) (d:=AU) rfl];simp only[AU];unfold Fy;fail"ev";refine df hx ok ∅ ⋯ ⋯ λv1 g1 a1 b1 ok1=>?_
 unfold Fx;fail"ev";refine df bo ok1 ∅ ⋯ ⋯ λv2 g2 a2 b2 ok2=>?_
 obtain⟨p,hp,ey⟩:=jT 1 1000000 (xs:=[.int 1,.int 2,.int 1000000]) a2 b2 (by simp only[iD];lia)
 rw[ey];unfold Fw;fail"ev";refine df bo ok2 ∅ ⋯ ⋯ λv3 g3 a3 b3 ok3=>?_
 obtain⟨q,hq2,ey⟩:=jT 1 9999 (xs:=[.int 7,.int 80]) a3 b3 (by simp only[iD];lia)
 rw[ey];unfold Fv;fail"ev"
 by_cases z1:v1<6
 . rw[ag (by simpa using z1)]
   unfold JM;fail"ev";refine df bo ok3 ∅ ⋯ ⋯ λv4 g4 a4 b4 ok4=>?_
   obtain⟨d,hd,ey⟩:=jT 1 9999 (xs:=[.int 1,.int 5300,.int 9999]) a4 b4 (by simp only[iD];lia)
   rw[ey];unfold JL;fail"ev";refine df bo ok4 ∅ ⋯ ⋯ λv5 g5 a5 b5 ok5=>?_
   refine Kj (n:=n) bo ok5 ∅ λtx g6 htx ok6=>?_
   (try simp only[fK])
   exact h1 v5 d p q tx g6 ⟨a5,∅⟩ hd hp hq2 htx (wN ok6 ∅)
 . rw[ab (by simpa using z1)]
   unfold Fu;fail"ev";have hn3:put M x g3.l a=some (.dk (eU nm)):=(put_ne (cx nxa)).trans hn;refine XM (ns:=nm.map (·.1)) hn3 (by unfold eU enc;rw[bp,bp];rfl) (by rw[aW];exact hl) λns' p1 p2=>?_
   refine df bo ok3 ∅ ⋯ ⋯ λv4 g4 a4 b4 ok4=>?_
   have ln:ns'.length<64:=by rw[p1.length_eq,aW];exact hl
   rw[vg,show ∀(xs ys:LR) (M:RM) (Q:ak),iX .Add (.ls xs) (.ls ys) M Q=(xs.length+ys.length<=sizeLine/\Q (.ls (xs++ys)) M)fromλ_ _ _ _=>rfl]
   rw[show ns'.map RV.int++ [RV.int (5000+v4)]=(ns'++ [5000+v4]).map RV.int by rw[eC];rfl]
   refine⟨by rw[aW];exact bQ (show ns'.length+1<=64 by lia) ⋯,?_⟩
   generalize hns:ns'++ [5000+v4]=ls;have ll:0<ls.length/\ls.length<100:=by rw[<-hns,fF];exact⟨show 0<ns'.length+1 by lia,show ns'.length+1<100 by lia⟩
   have lr:∀y∈ls,5000<=y/\y<=5199:=λy hy=>by
    rw[<-hns]at hy;rcases c6.mp hy with z|z
    . obtain⟨w,hw,rfl⟩:=aA.mp (p1.mem_iff.mp z)
      exact hr w hw
    . cases eG.mp z;lia
   unfold Ft;fail"ev";rw[aW]
   (try simp only[fK])
   refine df bo ok4 ∅ ∅ ∅ λv5 g5 a5 b5 ok5=>?_
   obtain⟨y0,hy0,ey⟩:=CB (xs:=ls.map RV.int) a5 (by rw[aW];exact b5)
   obtain⟨N,hN,rfl⟩:=aA.mp hy0;rw[ey];have hN:=lr N hN;unfold Fq;fail"ev"
   by_cases z2:v1<10
   . rw[ag (by simpa using z2)]
     (try simp only[fK])
     refine Kj (n:=n) bo ok5 ∅ λtx g6 htx ok6=>?_
     (try simp only[fK])
     exact h2 p q N tx g6 hp hq2 hN htx (wN ok6 ∅)
   . rw[ab (by simpa using z2)]
     unfold Fp;fail"ev"
     by_cases z3:v1=10
     . rw[ag (by simpa using z3)]
       (try simp only[fK])
       exact h3 N p q g5 hp hq2 hN (wN ok5 ∅)
     . rw[ab (by simpa using z3)]
       unfold Fn;fail"ev"
       (try simp only[fK])
       refine df bo ok5 ∅ ⋯ ⋯ λv6 g6 a6 b6 ok6=>?_
       obtain⟨w,hw,ey⟩:=jT 4 500 (xs:=[.int 4,.int 60,.int 500]) a6 b6 (by simp only[iD];lia)
       rw[ey]
       (try simp only[fK])
       refine df bo ok6 ∅ ∅ ∅ λv7 g7 a7 b7 ok7=>?_
       (try simp only[fK])
       exact h4 v7 g7 ⟨a7,∅⟩ (wN ok7 ∅)
end
section
variable {e:Env}{n:Nat}{M M0 M1 L L1:RM}{Q:ak}{f:Fm}{i j:ba}{k k' dd:Nat}{t u m mo p q tt N b h d:Int}{st s1 wd kd tx:Str}{a x y g g1 g2:Addr}{o o':RO}{s s' F:Gs}{an:An}{r:List Ge}{nm:List (Int×Int)}
theorem ke{x:RV}(o:bK 16 x=true)(c:dR M x=x)(l:Q (.bl true) M):eO .Eq x x M Q:=by
 show bK 16 (dR M x)=true/\bK 16 (dR M x)=true/\Q (.bl (cK (dR M x) (dR M x))) M;rw[c,R.c8 x ⟨16,o⟩];exact⟨o,o,l⟩
theorem yu{x:RV}(o:bK 16 x=true)(c:dR M x=x)(l:Q (.bl false) M):eO .NotEq x x M Q:=by
 show bK 16 (dR M x)=true/\bK 16 (dR M x)=true/\Q (.bl (!cK (dR M x) (dR M x))) M;rw[c,R.c8 x ⟨16,o⟩];exact⟨o,o,l⟩
theorem ZP(hG:Gt e g f k s M0 L)(tb:Tb e)(okf:f.Ok)(hk:k<800)(hh:0<=h/\h<=99)(hd:1<=d/\d<=9999)(hp:1<=p/\p<=1000000)(hp2:1<=q/\q<=9999)(hx:Tx tx)(hq:∀L',Gt e g f (k+1) (bz f s ⟨"note",h,d,p,q⟩ "say").2 M0 L'->Q (bz f s ⟨"note",h,d,p,q⟩ "say").1.r L'):
 ao (P e) (n+10) 78 [.ref g,.ref a,outD h d p q tx] L Q:=by
 obtain⟨_,_,_,hg⟩:=hG.gate;have fin:∀Q:ak,(∀L',Gt e g f (k+1) (bz f s ⟨"note",h,d,p,q⟩ "say").2 M0 L'->Q (bz f s ⟨"note",h,d,p,q⟩ "say").1.r L')->ao (P e) (n+9) 44 [.ref g,.tup [.str "out",.str "note",.int h,.int d,.int p,.int q,.str "say",.str tx]] L Q:=λQ hQ=>hG.qi (n:=n) (i:=⟨"note",h,d,p,q⟩) tb okf hk ⟨.inl rfl,hh,hd,⟨by show 0<=p;lia,hp.2⟩,hp2⟩ hp.1 (.inl ⟨rfl,rfl⟩) hx hQ
 unfold outD;rw[us (i:=78) (d:=qB) rfl];simp only[qB];unfold zq;fail"ev";unfold JK;fail"ev";rw[hg];fail"ev";rw[show gj [.str "out",.int 0,.str "note",.int h,.int d,.int p,.int q,.str "say",.str tx] (some 2) none= [.str "note",.int h,.int d,.int p,.int q,.str "say",.str tx]from rfl]
 refine⟨show 8<=sizeLine by decide,fin _ λL' G'=>?_⟩
 unfold JJ;fail"ev";exact hq L' G'
theorem JI(w:L a=some (.dk (eU nm)))(c:∃z rs v,L g=some (bF e f.r z rs v .aw))(h0:lk nm N=none->Q (.tup [.str "none"]) L)
 (l:∀m,lk nm N=some m->ao (P e) (n+9) 44 [.ref g,.tup [.str "come",.str "note",.int p,.int q,.int m,.str "say",.str tx]] L Q):
 ao (P e) (n+10) 78 [.ref g,.ref a,iC p q N tx] L Q:=by
 obtain⟨_,_,_,c⟩:=c;unfold iC;rw[us (i:=78) (d:=qB) rfl];simp only[qB];unfold zq;fail"ev"
 (try rw[ab (by decide+kernel)])
 unfold Dg;fail"ev";rw[w];fail"ev";rw[tj];cases hl:lk nm N with
 |none=>
  have:=h0 hl;simp only[Option.map_none,Option.getD_none];unfold wg;fail"ev";exact this
 |some m=>
  have:=l m hl;clear h0 l;simp only[uf,Option.getD_some];unfold wg;fail"ev";unfold Df;fail"ev"
  (try rw[ag (by decide+kernel)])
  rw[c];fail"ev";exact⟨show 5<=sizeLine by decide,show 7<=sizeLine by decide,this⟩
theorem JH(w:L a=some (.dk (eU nm)))(c:∃z rs v,L g=some (bF e f.r z rs v .aw))(h0:lk nm N=none->Q (.tup [.str "none"]) L)
 (l:∀m,lk nm N=some m->ao (P e) (n+9) 44 [.ref g,.tup [.str "lost",.int 4,.str "note",.int m,.int p,.int q]] L Q):
 ao (P e) (n+10) 78 [.ref g,.ref a,iA N p q] L Q:=by
 obtain⟨_,_,_,c⟩:=c;unfold iA;rw[us (i:=78) (d:=qB) rfl];simp only[qB];unfold zq;fail"ev"
 (try rw[ab (by decide+kernel)])
 unfold Dg;fail"ev";rw[w];fail"ev";rw[ab (by decide+kernel),tj]
 cases hl:lk nm N with
 |none=>
  have:=h0 hl;simp only[Option.map_none,Option.getD_none];unfold wg;fail"ev";exact this
 |some m=>
  have:=l m hl;clear h0 l;simp only[uf,Option.getD_some];unfold wg;fail"ev";unfold Df;fail"ev"
  (try rw[ab (by decide+kernel)])
  unfold Fl;fail"ev";rw[c];fail"ev";exact⟨show 4<=sizeLine by decide,show 6<=sizeLine by decide,this⟩
theorem Xy{x:Str}(c:Q (.bl true) L):ao (P e) (n+1) 84 [.ref a,outD h d p q tx,(An.kept x).r,(An.kept x).r] L Q:=by
 unfold outD An.r;rw[us (i:=84) (d:=gA) rfl];simp only[gA];unfold mw;fail"ev";unfold BG;fail"ev";exact ke rfl rfl c
noncomputable def wo (nm:List (Int×Int))(m:Int):RV->Bool
 | .int i=>decide (lk nm i=some m)
 |_=>false
theorem Ze(l:L a=some (.dk (eU nm)))(v:nm.length<900)(C:lk nm N=none∨lk nm N=some m)(R:nm.filter (λx=>decide (x.2=m))= []∨nm.filter (λx=>decide (x.2=m))= [(N,m)])(D:(nm.map (·.1)).Nodup)(w:Q (.bl true) (put L a (.dk (eU (pt nm N m))))):
 ao (P e) (n+1) 84 [.ref a,outD h d p q tx,(An.led m).r,Dq m N] L Q:=by
 unfold outD An.r Dq;rw[us (i:=84) (d:=gA) rfl];simp only[gA];unfold mw;fail"ev";unfold BG;fail"ev";unfold JP;fail"ev";have at_:∀K:ak,K (.bl false) L->(dO (λx M1=>eO .NotEq x (.int m) M1 K) (.int N) (.int m) L (L a)):=λK c=>by
  rw[l];fail"ev";rw[tj];have e1:(Option.map RV.int (lk nm N)).getD (.int m)= .int m:=by rcases C with z|z<;>rw[z]<;>rfl
  rw[e1];exact yu rfl rfl c
 refine yu (x:=.tup [.str "led",.int m]) rfl rfl ?_;rw[gd,ab ⋯]
 refine⟨by rw[l];trivial,at_ _ ?_⟩
 rw[gd,ab ⋯]
 clear at_ C;unfold JO;fail"ev";unfold kH;simp only[l];have J:mq true (eU nm)=nm.map λx=>RV.int x.1:=by unfold mq eU enc;rw[ag rfl,bp];rfl
 have I:((nm.map λx=>RV.int x.1).filter (wo nm m)).map id=((nm.filter λx=>decide (x.2=m)).map (·.1)).map RV.int:=by
  rw[List.map_id,nO,bp];have:nm.filter (wo nm m ∘ λx=>RV.int x.1)=nm.filter λx=>decide (x.2=m):=jy λx hx=>by
   show decide (lk nm x.1=some m)=_;rw[ml D hx];exact kM.mpr ⟨λz=>eV z,λz=>by rw[z]⟩
  rw[this];rfl
 rw[J];refine⟨by rw[aW];exact gn v ⋯,jN (wo nm m) id bo _ _ (λx hx=>?_) ?_⟩
 . obtain⟨y,O,rfl⟩:=aA.mp hx
   have A:=ml D O;refine⟨[.int y.1],rfl,λK c=>?_,λ_ K c=>?_⟩
   . show(tr ((P e).Gn n) _).T [some (.int y.1),some (.ref a),some (.tup [.str "led",.int m])] (put L a (.fk (eU nm))) K
     have e1:lk (eU nm) (.inl y.1)=some (.int y.2):=by rw[tj,A];rfl
     have E:wo nm m (.int y.1)=(y.2==m):=by
      show decide (lk nm y.1=some m)=_;rw[A,Bool.eq_iff_iff,ib,eW];exact⟨λz=>eV z,λz=>by rw[z]⟩
     rw[E]at c;fail"ev";have H:rJ (.fk (eU nm)) (.int y.1)=some (some (.int y.2)):=by show some (lk (eU nm) (.inl y.1))=_;rw[e1]
     unfold gO;simp only[Option.bind_some,H];fail"ev";exact c
   . fail"ev";exact c
 . show(tr ((P e).Gn n) BF).S _ [_,_,_,_,some (.ls ([]++((nm.map λx=>RV.int x.1).filter (wo nm m)).map id))] (put (put L a (.fk (eU nm))) a (.dk (eU nm)))
   rw[kL,I,fK,uU l];unfold BF;fail"ev";rw[l];fail"ev";refine⟨by unfold eU;rw[jM];exact gn v ⋯,?_⟩
   rw[show pt (eU nm) (.inl N) (.int m)=eU (pt nm N m)from lX iZ]
   unfold JN;fail"ev";rcases R with z|z<;>rw[z]
   . refine ke (x:=.ls []) rfl rfl ?_
     rw[B3,ag rfl];exact w
   . show bK 16 (.ls [.int N])=true/\bK 16 (.ls [])=true/\wW _ _ (.bl (cK (.ls [.int N]) (.ls []))) _
     refine⟨rfl,rfl,?_⟩;rw[show cK (.ls [.int N]) (.ls [])=false from rfl,B3,ab ⋯]
     exact ke rfl rfl w
theorem JS(c:Q (.bl true) L)(l:D=iC p q N tx∨D=iA N p q):ao (P e) (n+1) 84 [.ref a,D,.tup [.str "none"],(An.kept "nobody").r] L Q:=by
 unfold An.r;rcases l with rfl|rfl
 . unfold iC
   rw[us (i:=84) (d:=gA) rfl];simp only[gA];unfold mw;fail"ev"
   (try rw[ab (by decide+kernel)])
   unfold rG;fail"ev";refine ke rfl rfl ?_;fail"ev";exact ke rfl rfl c
 . unfold iA
   rw[us (i:=84) (d:=gA) rfl];simp only[gA];unfold mw;fail"ev"
   (try rw[ab (by decide+kernel)])
   unfold rG;fail"ev";refine ke rfl rfl ?_;fail"ev";exact ke rfl rfl c
end
section
variable {e:Env}{n:Nat}{M M0 M1 L L1:RM}{Q:ak}{f:Fm}{i j:ba}{k k' dd:Nat}{t u m mo p q tt N b h d:Int}{st s1 wd kd tx:Str}{a x y g g1 g2:Addr}{o o':RO}{s s' F:Gs}{an:An}{r:List Ge}{nm:List (Int×Int)}
theorem yx(l:(w==("none":Str))=false)(o:bK 16 (.tup (.str w::xs))=true)(c:Q (.bl false) M):eO .Eq (.tup (.str w::xs)) (.tup [.str "none"]) M Q:=by
 show bK 16 (.tup (.str w::xs))=true/\bK 16 (.tup [.str "none"])=true/\Q (.bl (cK (.tup (.str w::xs)) (.tup [.str "none"]))) M;refine⟨o,rfl,?_⟩;rw[show cK (.tup (.str w::xs)) (.tup [.str "none"])=false from congrArg (·&&jq xs []) l]
 exact c
theorem qwy(c:Q (.bl true) L):ao (P e) (n+1) 84 [.ref a,iC p q N tx,(An.je h d).r,iP (.je h d)] L Q:=by
 unfold iC An.r iP;rw[us (i:=84) (d:=gA) rfl];simp only[gA];unfold mw;fail"ev"
 (try rw[ab (by decide+kernel)])
 unfold rG;fail"ev";refine yx (by decide+kernel) rfl ?_
 fail"ev";unfold vX;fail"ev"
 (try rw[ab (by decide+kernel)])
 unfold zr;fail"ev"
 (try rw[ab (by decide+kernel)])
 unfold Dh;fail"ev";exact⟨show 2<=sizeLine by decide,show 4<=sizeLine by decide,ke rfl rfl c⟩
theorem qwz(c:Q (.bl true) L):ao (P e) (n+1) 84 [.ref a,iC p q N tx,(An.kept z).r,iP (.kept z)] L Q:=by
 unfold iC An.r iP yP;rw[us (i:=84) (d:=gA) rfl];simp only[gA];unfold mw;fail"ev"
 (try rw[ab (by decide+kernel)])
 unfold rG;fail"ev";refine yx (by decide+kernel) rfl ?_
 fail"ev";unfold vX;fail"ev"
 (try rw[ab (by decide+kernel)])
 unfold zr;fail"ev"
 (try rw[ag (by decide+kernel)])
 exact ke rfl rfl c
theorem Xx(c:Q (.bl true) L):ao (P e) (n+1) 84 [.ref a,iA N p q,(An.told h d).r,iP (.told h d)] L Q:=by
 unfold iA An.r iP;rw[us (i:=84) (d:=gA) rfl];simp only[gA];unfold mw;fail"ev"
 (try rw[ab (by decide+kernel)])
 unfold rG;fail"ev";refine yx (by decide+kernel) rfl ?_
 fail"ev";unfold vX;fail"ev"
 (try rw[ab (by decide+kernel)])
 unfold zr;fail"ev"
 (try rw[ab (by decide+kernel)])
 unfold Dh;fail"ev";exact⟨show 2<=sizeLine by decide,show 4<=sizeLine by decide,ke rfl rfl c⟩
theorem LC(l:D=(An.kept "nobody").r∨D=yP 0 "nobody")(v:Q (.bl true) L):ao (P e) (n+1) 84 [.ref a,iA N p q,(An.kept "nobody").r,D] L Q:=by
 have c:∀{D:RV},(D=(An.kept "nobody").r∨D=yP 0 "nobody")->bK 15 D=true/\inR D [.tup [.str "kept",.str "nobody"],.tup [.str "stopped",.int 0,.str "nobody"]]=true:=λh=>by
  rcases h with rfl|rfl<;>exact⟨rfl,by decide+kernel⟩
 obtain⟨c,w⟩:=c l;unfold iA An.r;rw[us (i:=84) (d:=gA) rfl];simp only[gA];unfold mw;fail"ev"
 (try rw[ab (by decide+kernel)])
 unfold rG;fail"ev";refine yx (by decide+kernel) rfl ?_
 fail"ev";unfold vX;fail"ev"
 (try rw[ag (by decide+kernel)])
 refine⟨c,rfl,?_⟩;rw[show(if false=true then !inR D [.tup [.str "kept",.str "nobody"],.tup [.str "stopped",.int 0,.str "nobody"]]else inR D [.tup [.str "kept",.str "nobody"],.tup [.str "stopped",.int 0,.str "nobody"]])=true from w]
 exact v
end
section
variable {e:Env}{n:Nat}{M M0 M1 L L1:RM}{Q:ak}{f F0:Fm}{k k' dd:Nat}{a x y g g1 g2:Addr}{o o':RO}{s s' F:Gs}{r:List Ge}
theorem UH(okf:f.Ok)(okF:F0.Ok)(hx:M x=none)(hq:∀g1 g2 L',bq e [⟨g1,F0,0,qo F0⟩,⟨g2,f,0,qo f⟩] (put M x (oY e g1 g2)) L'->Q .aw L'):ao (P e) (n+8) 76 [.ref x,F0.r,.ls [f.r]] (put M x (.ins (e.C 5) [])) Q:=by
 rw[us (i:=76) (d:=xF) rfl];simp only[xF];unfold L5;fail"ev";refine Bf (n:=n+2) okF ?_;fail"ev";rw[us (i:=23) (d:=Bk) rfl];simp only[Bk];fail"ev";rw[show ∀(xs:LR) (M:RM) (Q:ak),eY "isinstance" [.ls xs,.ty "list"] M Q=Q (.bl true) M fromλ_ _ _=>rfl,gd,ab ⋯]
 refine jN (bd:=gk false 1) (λ_=>true) (λ_=>.bl true) fW _ _ (λz hz=>⟨[z],rfl,λK h=>h,λ_ K h=>?_⟩) ?_
 . cases eG.mp hz
   fail"ev";exact Bf (n:=n+1) okf h
 . refine(Cp (bs:=[true])).mpr ?_
   rw[show [true].all id=true from rfl,gd,ab ⋯]
   unfold L4;fail"ev";intro g1 h1;obtain⟨m1,ne1⟩:=Bn h1;refine Bz (n:=n) okF h1 λL1 G1=>?_
   have x1:L1 x=some (.ins (e.C 5) []):=G1.sub bo;refine⟨rfl,?_⟩;rw[x1];have G1:Gt e g1 F0 0 (qo F0) (put M x (.ins (e.C 5) [("front",.ref g1)])) (put L1 x (.ins (e.C 5) [("front",.ref g1)])):=by
    have:=G1.set (o':=.ins (e.C 5) [("front",.ref g1)]) bo
    rwa [show id (put M x (.ins (e.C 5) []))=put M x (.ins (e.C 5) [])from rfl,fK]at this
   refine⟨rfl,show(0:Nat)<1000 by decide,?_⟩
   show(tr ((P e).Gn (n+7)) CO).S (rd Q) _ (put L1 x (.ins (e.C 5) [("front",.ref g1)]));have x2:put L1 x (.ins (e.C 5) [("front",.ref g1)]) x=some (.ins (e.C 5) [("front",.ref g1)]):=bo;generalize put L1 x (.ins (e.C 5) [("front",.ref g1)])=L2 at G1 x2 ⊢;unfold CO;fail"ev";refine uW (λacc M'=>(acc= []/\M'=L2)∨∃g2,acc= [.ref g2]/\Gt e g2 f 0 (qo f) L2 M') (λσ M K h=>h) (λ_ _ _=>fW) _ _ _ (.inl ⟨rfl,rfl⟩) (λy hy acc M' hlt h=>?_) λacc' M' hl h=>?_
   . cases eG.mp hy
     have hl:acc= []:=wC.mp (by have:acc.length<0+1:=hlt;lia)
     subst hl;obtain⟨_,rfl⟩:=h.resolve_right λ⟨_,z,_⟩=>by cases z
     refine⟨[f.r],rfl,λK hK=>?_⟩
     show(tr ((P e).Gn (n+7)) _).E [some f.r] _ K;fail"ev";intro g2 h2;refine Bz (n:=n) okf h2 λL3 G3=>⟨rfl,hK _ _ (.inr ⟨g2,rfl,G3⟩)⟩
   . obtain⟨g2,rfl,G3⟩:=h.resolve_left λ⟨z,_⟩=>by rw[z]at hl;cases hl
     have x3:=G3.sub x2;rw[u6];show sO (e.C 5) "courts" (.ls [.ref g2]) _ x M' (M' x);rw[x3];refine⟨rfl,show(1:Nat)<1000 by decide,?_⟩
     fail"ev";have h3:=G3.set (o':=oY e g1 g2) x2;have h1:=G1.set (o':=oY e g1 g2) bo;rw[fK]at h1;exact hq g1 g2 _ (bq.swap ⟨_,h3,_,h1,λa o h=>h⟩)
theorem UC(G:bq e (⟨g1,F0,k',F⟩::r) M0 L)(j:M0 y=some (oY e g1 g2))(h:Q (.int F.now) L):ao (P e) (n+2) 24 [.ref y] L Q:=by
 have l:=G.sub _ _ j;obtain⟨M1,b,_⟩:=G;have b:Gt e g1 F0 k' F M1 L:=b;obtain⟨_,_,_,c⟩:=b.gate;rw[us (i:=24) (d:=xS) rfl];simp only[xS];fail"ev";rw[l];fail"ev";rw[c];fail"ev";exact b.moment h
theorem Wj(G:bq e (⟨g1,F0,k',F⟩::⟨g2,f,k,s⟩::r) M0 L)(hk:k<64)(hy:M0 y=some (oY e g1 g2))(hq:Q (.ls [.ls (qJ s)]) L):ao (P e) (n+3) 25 [.ref y] L Q:=by
 have y0:=G.sub _ _ hy;obtain⟨M1,G1,_⟩:=G.swap;have G1:Gt e g2 f k s M1 L:=G1;obtain⟨_,_,_,hg⟩:=G1.gate;rw[us (i:=25) (d:=xW) rfl];simp only[xW];fail"ev";rw[y0];fail"ev";refine uW (λacc M'=>(acc= []∨acc= [.ls (qJ s)])/\M'=L) (λσ M K h=>h) (λ_ _ _=>fW) _ _ _ ⟨.inl rfl,rfl⟩ (λz hz acc M' hlt h=>?_) λacc' M' hl h=>?_
 . cases eG.mp hz
   have hl:acc= []:=wC.mp (by have:acc.length<0+1:=hlt;lia)
   subst hl;obtain⟨_,rfl⟩:=h;refine⟨[.ref g2],rfl,λK hK=>?_⟩
   show(tr ((P e).Gn (n+2)) _).E [some (.ref g2)] _ K;fail"ev";rw[hg];fail"ev";exact G1.talks hk (hK _ _ ⟨.inr rfl,rfl⟩)
 . obtain⟨rfl,rfl⟩:acc'= [.ls (qJ s)]/\M'=L:=⟨h.1.resolve_left (λz=>(by rw[z]at hl;cases hl)),h.2⟩
   rw[u6];exact hq
end
section
variable {e:Env}{n:Nat}{M M0 M1 L L1:RM}{Q:ak}{D:RD}{f F0:Fm}{k k' dd:Nat}{t u m p q N b h d:Int}{tx:Str}{a x y na g g1 g2 g3:Addr}{o o':RO}{s s' F:Gs}{r:List Ge}{A B:Ge}
theorem lC(G:bq e [A,B,⟨g,f,k,s⟩] M0 L):∃M1,Gt e g f k s M1 L/\bq e [A,B] M0 M1:=bq.perm (List.perm_append_comm (l₁:=[A,B]) (l₂:=[_])) G
theorem tW(h:Gt e g f k s M1 L)(c:bq e [A,B] M0 M1):bq e [A,B,⟨g,f,k,s⟩] M0 L:=bq.perm (List.perm_append_comm (l₁:=[_]) (l₂:=[A,B])) ⟨M1,h,c⟩
theorem zH(G:bq e [⟨g1,F0,k1,s1⟩,⟨g2,f,k2,s2⟩,⟨g3,f,k3,s3⟩] M0 L)(w:k1<=k)(z:k2<=k)(C:k3<=k):bq e [⟨g1,F0,k,s1⟩,⟨g2,f,k,s2⟩,⟨g3,f,k,s3⟩] M0 L:=by
 obtain⟨M1,i,M2,j,c,l,v⟩:=G;exact⟨M1,Gt.mono i w,M2,Gt.mono j z,c,Gt.mono l C,v⟩
structure Sv(e:Env)(y na g1 g2 g3:Addr)(f:Fm)(k1 k2 k3:Nat)(F s s3:Gs)(b:Int)(L:RM):Prop where
 ex:∃M0,bq e [⟨g1,W0,k1,F⟩,⟨g2,f,k2,s⟩,⟨g3,f,k3,s3⟩] M0 L/\M0 y=some (oY e g1 g2)/\M0 na=some (.dk (eU (bH F)))/\M0 e.lP=some (ck e)
 iv:Iv s F b
def St(e:Env)(y na g3:Addr)(f:Fm)(k:Nat)(b:Int)(L:RM):Prop:=∃g1 g2 F s,Sv e y na g1 g2 g3 f k k k F s s b L
theorem WI(l:List TK):bK 16 (.ls (l.map cV))=true:=by
 show(l.map cV).all (bK 15)=true;rw[List.all_map,fx];intro k _;show((k.map oR).all (bK 14))=true;rw[List.all_map,fx];intro x _;cases x with
 |none=>rfl
 |some v=>cases v<;>rfl
theorem nj{v7 v8 sc:Option RV}(S:Sv e y na g1 g2 g3 f k k k F s s b L)(v:k<64)(z:D.nx [sc,some f.r,some (.ref y),some (.ref g3),some (.ref na),some (.ls ys),some (.int ki),v7,v8] L):
 (tr ((P e).Gn (n+12)) Cq).S D [sc,some f.r,some (.ref y),some (.ref g3),some (.ref na),some (.ls ys),some (.int ki),v7,v8] L:=by
 obtain⟨M0,G,l,_⟩:=S.ex;have I:=S.iv;have w:=G.sub _ _ l;obtain⟨H,c,_⟩:=lC G;obtain⟨_,_,_,j⟩:=c.gate;have E:∀K:ak,K (.ls [.ls (qJ s)]) L->ao (P e) (n+12) 25 [.ref y] L K:=λK i=>Wj (n:=n+9) G v l i
 have tg:∀K:ak,K (.ls (qJ s)) L->ao (P e) (n+12) 22 [.ref g3] L K:=λK i=>c.talks (n:=n+10) v i
 have mk:∀K:ak,K (.int F.now) L->ao (P e) (n+12) 24 [.ref y] L K:=λK i=>UC (n:=n+10) G l i
 have C:∀K:ak,K (.int s.now) L->ao (P e) (n+12) 21 [.ref g3] L K:=λK i=>c.moment (n:=n+11) i
 unfold Cq;fail"ev";rw[w];fail"ev";refine E _ ?_;rw[Kq];fail"ev"
 (try rw[j];fail"ev")
 refine tg _ ?_;refine yu (WI _) rfl ?_;rw[gd,ab ⋯]
 rw[w];fail"ev";refine mk _ ?_;rw[j];fail"ev";refine C _ ?_;rw[I.nw];refine yu rfl rfl ?_;rw[gd,ab ⋯]
 exact z
theorem led_in{i:ba}(h:Fk f k s)(c:(bz f s i wd).1= .led m):f.low<=m/\m<=f.high:=by
 have j:∀{x:TK} {y:Int},lk s.K x=some y->f.low<=y/\y<=f.high:=λz=>h.hk _ (gB z)
 unfold bz at c;split at c
 . rename_i v l
   split at c
   . cases c
   . cases c
     exact j (h.tn v (gP l))
 . split at c
   . cases c
   . unfold lV at c
     split at c
     . rename_i z;cases c;exact j z
     . split at c
       . cases c
       . split at c
         . cases c
         . rename_i z;cases c;exact(BO (Bg z)).2
theorem qxc{v8 sc:Option RV}(S:Sv e y na g1 g2 g3 f k k k F s s b L)(tb:Tb e)(okf:f.Ok)(hk:k<62)(hh:0<=h/\h<=99)(hd:1<=d/\d<=9999)(hp:1<=p/\p<=1000000)(hp2:1<=q/\q<=9999)(hx:Tx tx)
 (hq:∀L' v8,St e y na g3 f (k+1) b L'->D.nx [sc,some f.r,some (.ref y),some (.ref g3),some (.ref na),some (.ls ys),some (.int ki),some (outD h d p q tx),v8] L'):
 (tr ((P e).Gn (n+12)) lW).S D [sc,some f.r,some (.ref y),some (.ref g3),some (.ref na),some (.ls ys),some (.int ki),some (outD h d p q tx),v8] L:=by
 obtain⟨M0,G,hy,hn,hl⟩:=S.ex;have I:=S.iv;have y0:=G.sub _ _ hy;have kF:Fk W0 k F:=by obtain⟨M1,a1,_⟩:=G;exact Gt.fk a1
 obtain⟨M3,G3',_⟩:=lC G;have ks:=G3'.fk;clear G3';have oki:(⟨"note",h,d,p,q⟩:ba).Ok:=⟨.inl rfl,hh,hd,⟨by show 0<=p;lia,hp.2⟩,hp2⟩
 unfold lW;fail"ev";rw[y0];fail"ev";have ar:∀{k1 k2:Nat} {F':Gs} {L':RM},bq e [⟨g1,W0,k1,F'⟩,⟨g2,f,k2,(bz f s ⟨"note",h,d,p,q⟩ "say").2⟩,⟨g3,f,k,s⟩] M0 L'->k1<=k+1->k2<=k+1->∀K:ak,(∀L2,bq e [⟨g1,W0,k+1,F'⟩,⟨g2,f,k+1,(bz f s ⟨"note",h,d,p,q⟩ "say").2⟩,⟨g3,f,k+1,(bz f s ⟨"note",h,d,p,q⟩ "say").2⟩] M0 L2->K (bz f s ⟨"note",h,d,p,q⟩ "say").1.r L2)->ao (P e) (n+12) 78 [.ref g3,.ref na,outD h d p q tx] L' K:=λG' e1 e2 K hK=>by
  obtain⟨M4,A1,A2⟩:=lC G';exact ZP (n:=n+2) A1 tb okf ∅ hh hd hp hp2 hx λL2 A3=>hK L2 (zH (tW A3 A2) e1 e2 (aD _))
 refine qur (n:=n) (i:=⟨"note",h,d,p,q⟩) G hy tb okf Du ∅ ∅ oki hp.1 (.inl ⟨rfl,rfl⟩) hx (λm hm=>?_) (λz hz L1 G1=>?_) λm hm=>?_
 . have:=led_in ks hm
   have:=okf.lo;have:=okf.hi;lia
 . have I':=I.kept (f:=f) ks.d1 rfl hz
   unfold nk outD;fail"ev";rw[ab (by decide+kernel)]
   unfold qE;fail"ev";refine ar G1 (ja k) (aD _) _ λL2 G2=>?_
   rw[hz];refine Xy (n:=n+11) ?_;rw[gd,ab ⋯]
   (try fail"ev")
   exact nj ⟨⟨M0,G2,hy,hn,hl⟩,I'⟩ ∅ (hq L2 _ ⟨_,_,_,_,⟨⟨M0,G2,hy,hn,hl⟩,I'⟩⟩)
 . have bm:=led_in ks hm
   have o1:=okf.lo;have o2:=okf.hi;obtain⟨N,hN,fo⟩:=Uj (i:=⟨"note",h,d,p,q⟩) (m:=m) kF ∅ I rfl ⟨∅,∅⟩
   refine⟨N,hN,λL1 G1=>?_⟩
   have I':=I.out (f:=f) ks.d1 rfl hm fo;unfold nk outD;fail"ev";rw[ab (by decide+kernel)]
   unfold qE;fail"ev";refine ar G1 (aD _) (aD _) _ λL2 G2=>?_
   rw[hm];refine Ze (n:=n+11) (G2.sub _ _ hn) (by unfold bH;rw[aW];exact iJ kF.l1 ∅) fo.n1 fo.n2 (CF kF) ?_
   rw[fo.pt,gd,ab ⋯]
   (try fail"ev")
   have G3':=G2.set (o':=.dk (eU (bH (bz W0 F (cY ⟨"note",h,d,p,q⟩ m) "say").2))) hn;have ny:y≠na:=λz=>by rw[z,hn]at hy;cases hy
   have nl:e.lP≠na:=λz=>by rw[z,hn]at hl;cases hl
   have S':Sv e y na g1 g2 g3 f (k+1) (k+1) (k+1) (bz W0 F (cY ⟨"note",h,d,p,q⟩ m) "say").2 (bz f s ⟨"note",h,d,p,q⟩ "say").2 (bz f s ⟨"note",h,d,p,q⟩ "say").2 b (put L2 na (.dk (eU (bH (bz W0 F (cY ⟨"note",h,d,p,q⟩ m) "say").2)))):=⟨⟨_,G3',(put_ne ny).trans hy,bo,(put_ne nl).trans hl⟩,I'⟩;exact nj S' ∅ (hq _ _ ⟨_,_,_,_,S'⟩)
theorem ZK{v8 sc:Option RV}(S:Sv e y na g1 g2 g3 f k k k F s s b L)(tb:Tb e)(H:f.Ok)(hk:k<62)(hN:5000<=N/\N<=5199)(hp:1<=p/\p<=1000000)(E:1<=q/\q<=9999)(hx:Tx tx)
 (hq:∀L' v8,St e y na g3 f (k+1) b L'->D.nx [sc,some f.r,some (.ref y),some (.ref g3),some (.ref na),some (.ls ys),some (.int ki),some (iC p q N tx),v8] L'):
 (tr ((P e).Gn (n+12)) lW).S D [sc,some f.r,some (.ref y),some (.ref g3),some (.ref na),some (.ls ys),some (.int ki),some (iC p q N tx),v8] L:=by
 obtain⟨M0,G,X,U,hl⟩:=S.ex;have I:=S.iv;have y0:=G.sub _ _ X;have kF:Fk W0 k F:=by obtain⟨M1,a1,_⟩:=G;exact Gt.fk a1
 have ks:Fk f k s:=by obtain⟨M3,Z,_⟩:=lC G;exact Z.fk
 obtain⟨fc,R⟩:=TX (p:=p) (q:=q) kF I hN;unfold lW;fail"ev";rw[y0];fail"ev";have J:Le s s:=⟨rfl,λv W=>⟨v,W,rfl,rfl,rfl⟩⟩
 refine Yb (n:=n) G X tb H Du ∅ ∅ hp E ⟨∅,∅⟩ (.inl ⟨rfl,rfl⟩) hx (λz Y L1 j=>?_) λz m c=>?_
 . obtain⟨n0,hz2⟩:=fc.resolve_right λ⟨m,_,w,_⟩=>by rw[w]at Y;cases Y
   rw[hz2]at Y;cases Y;have I':=I.le J R;have i:M0 na=some (.dk (eU (bH (bZ W0 F "note" "say" N p q).2))):=by rw[R.Es];exact U
   unfold nk iC;fail"ev";rw[ab (by decide+kernel)]
   unfold qE;fail"ev";have hg:∃rt rs ds,L1 g3=some (bF e f.r rt rs ds .aw):=by obtain⟨_,O,_⟩:=lC j;exact O.gate
   refine JI (n:=n+2) (nm:=bH F) (j.sub _ _ U) hg (λ_=>?_) (λm c=>by rw[n0]at c;cases c)
   refine JS (n:=n+11) (p:=p) (q:=q) (N:=N) (tx:=tx) ?_ (.inl rfl);rw[gd,ab ⋯]
   (try fail"ev")
   have l:Sv e y na g1 g2 g3 f (k+1) (k+1) (k+1) (bZ W0 F "note" "say" N p q).2 s s b L1:=⟨⟨M0,zH j (aD _) (ja k) (ja k),X,i,hl⟩,I'⟩;exact nj l ∅ (hq _ _ ⟨_,_,_,_,l⟩)
 . obtain⟨m',n1,w,b1,b2⟩:=fc.resolve_left λ⟨_,w⟩=>by rw[w]at c;cases c
   rw[w]at c;cases c;refine⟨rfl,⟨b1,b2⟩,λL1 j=>?_⟩
   have cs:=Y2 (f:=f) (m:=m) (p:=p) (q:=q) ks.d1 λv W=>⟨(I.so v W).1,(I.so v W).2.1⟩
   have I':=I.le cs R;have i:M0 na=some (.dk (eU (bH (bZ W0 F "note" "say" N p q).2))):=by rw[R.Es];exact U
   unfold nk iC;fail"ev";rw[ab (by decide+kernel)]
   unfold qE;fail"ev";obtain⟨M4,O,A2⟩:=lC j;refine JI (n:=n+2) (nm:=bH F) (j.sub _ _ U) O.gate (λz=>by rw[n1]at z;cases z) (λm2 C=>?_)
   rw[n1]at C;cases C;refine O.jF (n:=n+2) tb H ∅ hp E ⟨b1,b2⟩ (.inl ⟨rfl,rfl⟩) hx λL2 A3=>?_
   have l:Sv e y na g1 g2 g3 f (k+1) (k+1) (k+1) (bZ W0 F "note" "say" N p q).2 (bZ f s "note" "say" m p q).2 (bZ f s "note" "say" m p q).2 b L2:=⟨⟨M0,tW A3 A2,X,i,hl⟩,I'⟩;have fin:=nj (n:=n) (sc:=sc) (ki:=ki) (ys:=ys) (v7:=some (iC p q N tx)) (v8:=some (iP (bZ f s "note" "say" m p q).1)) (D:=D) l ∅ (hq _ _ ⟨_,_,_,_,l⟩)
   rcases BS (f:=f) (s:=s) (kd:="note") (wd:="say") (m:=m) (p:=p) (q:=q)with⟨h,d,hB⟩|⟨z,hB⟩
   . rw[hB]at fin ⊢
     refine qwy (n:=n+11) (p:=p) (q:=q) (N:=N) (tx:=tx) ?_;rw[gd,ab ⋯]
     (try fail"ev")
     exact fin
   . rw[hB]at fin ⊢
     refine qwz (n:=n+11) (p:=p) (q:=q) (N:=N) (tx:=tx) ?_;rw[gd,ab ⋯]
     (try fail"ev")
     exact fin
theorem BK{x:Str}(h:fN s kd m p q= .kept x):x= "nobody":=by
 unfold fN at h;split at h
 . cases h
 . cases h;rfl
theorem ZI{v8 sc:Option RV}(S:Sv e y na g1 g2 g3 f k k k F s s b L)(tb:Tb e)(okf:f.Ok)(hk:k<62)(hN:5000<=N/\N<=5199)(X:1<=p/\p<=1000000)(j:1<=q/\q<=9999)
 (Y:∀L' v8,St e y na g3 f (k+1) b L'->D.nx [sc,some f.r,some (.ref y),some (.ref g3),some (.ref na),some (.ls ys),some (.int ki),some (iA N p q),v8] L'):
 (tr ((P e).Gn (n+12)) lW).S D [sc,some f.r,some (.ref y),some (.ref g3),some (.ref na),some (.ls ys),some (.int ki),some (iA N p q),v8] L:=by
 obtain⟨M0,G,J,H,W⟩:=S.ex;have I:=S.iv;have y0:=G.sub _ _ J;have kF:Fk W0 k F:=by obtain⟨M1,a1,_⟩:=G;exact Gt.fk a1
 have fl:=TV (p:=p) (q:=q) (N:=N) kF I;have t4:(1:Int)<=4/\(4:Int)<=1000000:=by decide
 unfold lW;fail"ev";rw[y0];fail"ev";refine X9 (n:=n) G J tb ∅ ∅ t4 X j ⟨∅,∅⟩ (.inl rfl) (λz Z L1 l=>?_) λz m i=>?_
 . obtain⟨_,n0⟩:=fl.resolve_right λ⟨m,_,C,_⟩=>by rw[C]at Z;cases Z
   cases BK Z;unfold nk iA;fail"ev";rw[ab (by decide+kernel)]
   unfold qE;fail"ev";obtain⟨M4,v,R⟩:=lC l;refine JH (n:=n+2) (nm:=bH F) (l.sub _ _ H) v.gate (λ_=>?_) (λm i=>?_)
   . refine JS (n:=n+11) (p:=p) (q:=q) (N:=N) (tx:="") ?_ (.inr rfl)
     rw[gd,ab ⋯]
     (try fail"ev")
     have c:Sv e y na g1 g2 g3 f (k+1) (k+1) (k+1) F s s b L1:=⟨⟨M0,zH l (aD _) (ja k) (ja k),J,H,W⟩,I⟩;exact nj c ∅ (Y _ _ ⟨_,_,_,_,c⟩)
   . obtain⟨x,hx⟩:=n0 m i
     obtain⟨w,_,w1,w2⟩:=Li i;have bm:1<=m/\m<=9999:=by rw[<-w2];exact(I.ki w (by assumption)).2
     refine v.il (n:=n+2) tb ∅ t4 X j bm (.inl rfl) λL2 U=>?_
     rw[hx];cases BK hx;refine LC (n:=n+11) (p:=p) (q:=q) (N:=N) (.inl rfl) ?_;rw[gd,ab ⋯]
     (try fail"ev")
     have c:Sv e y na g1 g2 g3 f (k+1) (k+1) (k+1) F s s b L2:=⟨⟨M0,zH (tW U R) (aD _) (ja k) (aD _),J,H,W⟩,I⟩;exact nj c ∅ (Y _ _ ⟨_,_,_,_,c⟩)
 . obtain⟨m',n1,C,b1,b2⟩:=fl.resolve_left λ⟨C,_⟩=>by rw[C]at i;cases i
   rw[C]at i;cases i;refine⟨rfl,⟨b1,b2⟩,λL1 l=>?_⟩
   unfold nk iA;fail"ev";rw[ab (by decide+kernel)]
   unfold qE;fail"ev";obtain⟨M4,v,R⟩:=lC l;refine JH (n:=n+2) (nm:=bH F) (l.sub _ _ H) v.gate (λz=>by rw[n1]at z;cases z) (λm2 E=>?_)
   rw[n1]at E;cases E;refine v.il (n:=n+2) tb ∅ t4 X j ⟨b1,b2⟩ (.inl rfl) λL2 U=>?_
   have c:Sv e y na g1 g2 g3 f (k+1) (k+1) (k+1) F s s b L2:=⟨⟨M0,tW U R,J,H,W⟩,I⟩;have fin:=nj (n:=n) (sc:=sc) (ki:=ki) (ys:=ys) (v7:=some (iA N p q)) (v8:=some (iP (fN s "note" m p q))) (D:=D) c ∅ (Y _ _ ⟨_,_,_,_,c⟩)
   rcases BL (s:=s) (kd:="note") (m:=m) (p:=p) (q:=q)with⟨h,d,O⟩|⟨z,O⟩
   . rw[O]at fin ⊢
     refine Xx (n:=n+11) (p:=p) (q:=q) (N:=N) ?_;rw[gd,ab ⋯]
     (try fail"ev")
     exact fin
   . cases BK O
     rw[O]at fin ⊢;refine LC (n:=n+11) (p:=p) (q:=q) (N:=N) (.inr rfl) ?_;rw[gd,ab ⋯]
     (try fail"ev")
     exact fin
theorem ZG{v8 sc:Option RV}(S:Sv e y na g1 g2 g3 f k k k F s s b L)(tb:Tb e)(hk:k<62)(ht:0<=t/\t<500)(hb:b+500<1000000)
 (hq:∀L' v8,St e y na g3 f (k+1) (b+500) L'->D.nx [sc,some f.r,some (.ref y),some (.ref g3),some (.ref na),some (.ls ys),some (.int ki),some (yL t),v8] L'):
 (tr ((P e).Gn (n+12)) lW).S D [sc,some f.r,some (.ref y),some (.ref g3),some (.ref na),some (.ls ys),some (.int ki),some (yL t),v8] L:=by
 obtain⟨M0,G,hy,hn,hl⟩:=S.ex;have I:=S.iv;have y0:=G.sub _ _ hy;have kF:Kt F:=by obtain⟨M1,a1,_⟩:=G;exact Gt.kt a1
 obtain⟨I',en⟩:=I.wait (f:=f) kF ht.1 ∅
 have I2:Iv (fY f s t) (fY W0 F t) (b+500):={ I' with tb:=by have:=I'.tb;lia }
 unfold lW;fail"ev";rw[y0];fail"ev";refine X8 (n:=n) G hy hl tb ∅ ∅ ⟨ht.1,∅⟩ λL1 G1=>?_
 unfold nk yL;fail"ev";obtain⟨M4,A1,A2⟩:=lC G1;obtain⟨_,_,_,hg⟩:=A1.gate;rw[hg];fail"ev";refine A1.wait (n:=n+2) tb ∅ (bq.sub A2 _ _ hl) ⟨ht.1,∅⟩ λL2 A3=>?_
 (try fail"ev")
 have S':Sv e y na g1 g2 g3 f (k+1) (k+1) (k+1) (fY W0 F t) (fY f s t) (fY f s t) (b+500) L2:=⟨⟨M0,tW A3 A2,hy,by rw[en];exact hn,hl⟩,I2⟩
 exact nj S' ∅ (hq _ _ ⟨_,_,_,_,S'⟩)
end
section
variable {e:Env}{n:Nat}{M M0 M1 L L1:RM}{Q:ak}{D:RD}{f F0:Fm}{k k' dd:Nat}{t u m p q N b h d:Int}{tx:Str}{a x y na g g1 g2 g3:Addr}{o o':RO}{s s' F:Gs}{r:List Ge}{A B:Ge}
theorem St.mono(h:St e y na g3 f k b L)(c:b<=b'):St e y na g3 f k b' L:=by
 obtain⟨g1,g2,F,s,S⟩:=h;exact⟨g1,g2,F,s,S.ex,{ S.iv with tb:=Int.le_trans S.iv.tb c }⟩
theorem Sv.new(S:Sv e y na g1 g2 g3 f k k k F s s b L)(hx:L x=none):Sv e y na g1 g2 g3 f k k k F s s b (put L x o):=by
 obtain⟨M0,G,w,v,l⟩:=S.ex;obtain⟨j,c⟩:=G.new (o:=o) hx;have i:∀{a u},M0 a=some u->put M0 x o a=some u:=λh=>(put_ne λz=>by rw[z,c]at h;cases h).trans h
 exact⟨⟨_,j,i w,i v,i l⟩,S.iv⟩
theorem ZH{v7 v8 sc:Option RV}{ns:List Int}{j:Int}(S:St e y na g3 f k b L)(tb:Tb e)(okf:f.Ok)(hk:k<62)(hb:b+500<1000000)(hx:0<ns.length)(hl:ns.length<1000)(h0:0<=j)(hj:j<1000)
 (hq:∀L' v7 v8,St e y na g3 f (k+1) (b+500) L'->D.nx [sc,some f.r,some (.ref y),some (.ref g3),some (.ref na),some (.ls (ns.map RV.int)),some (.int j),v7,v8] L'):
 (tr ((P e).Gn (n+12)) Cr).S D [sc,some f.r,some (.ref y),some (.ref g3),some (.ref na),some (.ls (ns.map RV.int)),some (.int j),v7,v8] L:=by
 obtain⟨g1,g2,F,s,S⟩:=S;have bb:b<=b+500:=by lia
 unfold Cr;fail"ev";refine VG (n:=n+10) h0 hj hx hl λp gb hp ok=>?_
 have S1:=λo=>S.new (o:=o) hp
 obtain⟨M0,G,hy,hn,hl⟩:=(S1 gb.l).ex;have kF:Fk W0 k F:=by obtain⟨M1,a1,_⟩:=G;exact Gt.fk a1
 refine XD (n:=n+9) bo ok ⋯ (G.sub _ _ hn) (by unfold bH;rw[aW];exact iJ kF.l1 ∅) (λz hz=>?_) (λh d p' q' tx g' hh hd hp' hq' hx _=>?_) (λp' q' N tx g' hp' hq' hN hx _=>?_) (λN p' q' g' hp' hq' hN _=>?_) λt g' ht _=>?_
 . obtain⟨w,hw,rfl⟩:=aA.mp hz
   exact kF.hk w hw
 . rw[fK]
   exact qxc (n:=n) (S1 g'.l) tb okf hk hh hd hp' hq' hx λL' v8 h=>hq L' _ v8 (h.mono bb)
 . rw[fK]
   exact ZK (n:=n) (S1 g'.l) tb okf hk hN hp' hq' hx λL' v8 h=>hq L' _ v8 (h.mono bb)
 . rw[fK]
   exact ZI (n:=n) (S1 g'.l) tb okf hk hN hp' hq' λL' v8 h=>hq L' _ v8 (h.mono bb)
 . rw[fK]
   exact ZG (n:=n) (S1 g'.l) tb hk ht hb λL' v8 h=>hq L' _ v8 h
theorem WL{n c:Nat}(h:c<(nums n).length):(nums n)[c]=RV.int (c:Int):=by simp[nums]
theorem rg6{x:RV}{c i j l v w z:Option RV}{r:List (Option RV)}{K:List (Option RV)->RM->Prop}:jU 6 x (c::i::j::l::v::w::z::r) M K=K (c::i::j::l::v::w::some x::r) M:=rfl
theorem St.lP(h:St e y na g3 f k b L):L e.lP=some (ck e):=by
 obtain⟨g1,g2,F,s,S⟩:=h;obtain⟨M0,G,_,_,c⟩:=S.ex;exact G.sub _ _ c
theorem ZJ{sc v6 v7 v8:Option RV}{ns:List Int}(h:St e y na g3 f 0 0 L)(tb:Tb e)(okf:f.Ok)(hx:0<ns.length)(hl:ns.length<=61)(hq:∀L',L' e.lP=some (ck e)->D.rt (.bl true) L'):
 (tr ((P e).Gn (n+12)) Ds).S D [sc,some f.r,some (.ref y),some (.ref g3),some (.ref na),some (.ls (ns.map RV.int)),v6,v7,v8] L:=by
 unfold Ds;fail"ev";rw[aW];generalize hN:(if(ns.length:Int) > 16 then(ns.length:Int)else 16)=N
 have n1:0<=N/\N<=61:=by rw[<-hN];split<;>lia
 refine⟨∅,∅,?_⟩
 refine Jj (λys σ L=>∃(c:Nat) (v6 v7 v8:Option RV),ys=(nums N.toNat).drop c/\c+ys.length=N.toNat/\St e y na g3 f c (500*c) L/\σ= [sc,some f.r,some (.ref y),some (.ref g3),some (.ref na),some (.ls (ns.map RV.int)),v6,v7,v8]) (λ_ _ _ _=>fW) (λσ M h=>?_) (λz ys σ M W2 h hW=>?_) _ _ _ ⟨0,v6,v7,v8,rfl,by rw[yn];lia,(by show St e y na g3 f 0 (500*((0:Nat):Int)) L;simpa using h),rfl⟩
 . obtain⟨c,v6,v7,v8,_,_,h,rfl⟩:=h
   show(tr ((P e).Gn (n+12)) Di).S D _ M;unfold Di;fail"ev";exact hq _ h.lP
 . obtain⟨c,v6,v7,v8,h1,h2,h,rfl⟩:=h
   rw[bW]at h2;have hc:c<(nums N.toNat).length:=by rw[yn];lia
   rw[List.drop_eq_getElem_cons hc]at h1;injection h1 with e1 e2
   have e1:z= .int (c:Int):=by rw[e1,WL]
   subst e1;rw[rg6];refine ZH (n:=n) h tb okf ∅ ∅ hx ∅ ∅ ∅ λL' v7 v8 h'=>?_
   exact hW _ _ ⟨c+1,_,v7,v8,e2,∅,by rw[show(500*((c+1:Nat):Int))=500*(c:Int)+500 by lia];exact h',rfl⟩
theorem qxd{xs:List Int}(h:St e y na g3 f 0 0 L)(tb:Tb e)(c:f.Ok)(v:∀i,i e.lP=some (ck e)->D.rt (.bl true) i):
 (tr ((P e).Gn (n+12)) Dt).S D [some (.ls (xs.map RV.int)),some f.r,some (.ref y),some (.ref g3),some (.ref na),none,none,none,none] L:=by
 unfold Dt;rw[Mm,Kr];dsimp only[List.set_cons_zero,List.set_cons_succ];fail"ev";have e1:gj (xs.map RV.int) (some 1) (some 60)=((xs.drop (HT.aJ xs.length 0 (some 1))).take (HT.aJ xs.length xs.length (some 60)-HT.aJ xs.length 0 (some 1))).map RV.int:=by unfold gj;rw[aW,List.map_take,List.map_drop]
 have j:HT.aJ xs.length 0 (some 1)=min 1 xs.length:=by rw[show(1:Int)=((1:Nat):Int)from rfl,HT.iF]
 rw[e1];have w:((xs.drop (HT.aJ xs.length 0 (some 1))).take (HT.aJ xs.length xs.length (some 60)-HT.aJ xs.length 0 (some 1))).length<=59:=by
  have l:HT.aJ xs.length xs.length (some 60)=min 60 xs.length:=by rw[show(60:Int)=((60:Nat):Int)from rfl,HT.iF]
  rw[List.length_take,j,l];refine bQ (Nat.min_le_left _ _) ?_;generalize xs.length=n;cases n with
  |zero=>decide
  |succ m=>rw[Nat.min_eq_left (Nat.succ_pos m)];exact Nat.sub_le_sub_right (Nat.min_le_left 60 _) 1
 generalize (xs.drop (HT.aJ xs.length 0 (some 1))).take (HT.aJ xs.length xs.length (some 60)-HT.aJ xs.length 0 (some 1))=ys at w ⊢;refine⟨by rw[aW];exact bQ (show ys.length+1<=60 by lia) ⋯,?_⟩
 rw[show ys.map RV.int++ [RV.int 0]=(ys++ [0]).map RV.int from by rw[eC];rfl]
 exact ZJ (n:=n) h tb c (by rw[fF];exact Nat.succ_pos _) (by rw[fF];show ys.length+1<=61;lia) v
theorem qvx(tb:Tb e)(j:M e.lP=some (ck e)){xs:List Int}(O:∀C,C e.lP=some (ck e)->Q (.bl true) C):ao (P e) (n+13) 29 [.ls (xs.map RV.int)] M Q:=by
 rw[us (i:=29) (d:=vI) rfl];refine⟨rfl,?_⟩;simp only[vI];unfold EH;rw[Mm,Kr];dsimp only[List.set_cons_zero,List.set_cons_succ];fail"ev";refine(T1 (n:=n+11) (xs:=xs) (k:=0)).mpr ?_;refine Ca (n:=n+11) λp1 I=>?_
 refine WV (n:=n+9) bo BV ⋯ λf g1 l X=>?_
 rw[fK];have l1:put M p1 g1.l e.lP=some (ck e):=(put_ne (λz=>by rw[z,I]at j;cases j)).trans j
 generalize put M p1 g1.l=M1 at l1 ⊢;unfold EG;fail"ev";intro y v;have R:RV.tup [RV.int 5000,RV.int 5199,RV.str (Str.ofString "door"),RV.str (Str.ofString "all"),RV.str (Str.ofString "next"),RV.int 200,RV.bl true,RV.tup [RV.int 1000000,RV.int 1000000,RV.int 1000000,RV.int 0]]=W0.r:=by unfold Fm.r W0;rfl
 rw[R];refine UH (n:=n+3) (e:=e) (f:=f) (F0:=W0) (x:=y) (M:=M1) l Du v λg1 g2 Y G=>⟨rfl,?_⟩
 unfold FE;fail"ev";intro g3 J;refine Bz (n:=n+5) l J λL3 A=>⟨rfl,?_⟩
 unfold FC;fail"ev";intro na w;obtain⟨H,c⟩:=(tW A G).new (o:=.dk []) w;have E:e.lP≠y:=λz=>by rw[z,v]at l1;cases l1
 have W:y≠na:=λz=>by rw[<-z,bo]at c;cases c
 have U:e.lP≠na:=λz=>by rw[<-z,put_ne E,l1]at c;cases c
 exact qxd (n:=n) ⟨g1,g2,_,_,⟨_,H,(put_ne W).trans bo,bo,(put_ne U).trans ((put_ne E).trans l1)⟩,Iv.init⟩ tb l O
end
noncomputable def Cx:Nat->Addr:=λi=>([338,411,432,552,767,866]:List Addr).getD i 0
noncomputable def Jo:List (Str×Addr):=[("out",113),("come",120),("lost",127),("wait",134),("rule",141),("unrule",148)]
noncomputable def Hg:List (Str×Int):=[("note",0),("asked",1),("called",1),("up",2),("near",2),("far",2)]
noncomputable def zp:Env:=⟨λx=>if x= "DEEDS" then wX Jo else if x= "TIME_AT" then wY Hg else [],Cx,[(113,9),(120,10),(127,11),(134,12)],546⟩
noncomputable def Gf:List (FD×FA):=S.fd.zip [fD H44.Ac,fD H44.Ae,fD H44.Af,fD H44.Ag,fD H44.Ah,fD H44.Ai,fD H44.Aj,fD H44.Al,fE H44.wU,fD H44.oj,fD H44.om,fD H44.oo,fD H44.oq,fD H44.ot,fD H44.ou,fE H44.kW,fD H44.oA,fD H44.oH,fD H44.oP,fD H44.pd,fD H44.pC,fD H44.pJ,fE H44.k7,fE H44.k8,fD H44.p5,fE H44.lj,fE H44.lu,fE H44.lx,fE H44.lz,fD H44.kQ,fD H44.Ak,fD H44.oz,fD H44.oB,fD H44.oC,fD H44.oE,fD H44.oM,fD H44.oT,fD H44.oX,fD H44.oZ,fD H44.ph,fD H44.pf,fE H44.kY,fE H44.kZ,fD H44.pD,fD H44.pE,fD H44.pI,fD H44.pL,fD H44.pP,fD H44.pW,fD H44.pX,fD H44.pY,fD H44.pZ,fD H44.p7,fD H44.p8,fD H44.p9,fD H44.qa,fD H44.qb,fD H44.qd,fD H44.qe,fD H44.qh,fD H44.Ad,fD H44.oh,fD H44.oF,fD H44.oJ,fD H44.oO,fD H44.oU,fE H44.kX,fD H44.pq,fD H44.pA,fD H44.pv,fD H44.pB,fD H44.pK,fD H44.pM,fD H44.pN,fD H44.pR,fD H44.pU,fE H44.k9,fD H44.p6,fD H44.qg,fD H44.oG,fD H44.oI,fD H44.oQ,fD H44.pz,fD H44.pT,fE H44.lA,fD H44.oW,fD H44.pb,fD H44.pH,fD H44.pQ,fD H44.pV,fD H44.pG,fD H44.pF]
section
variable(Pm:Params)
theorem Sz:OT (H44.K0 Pm) S Cx 546 Gf=true:=by kernel_rfl
theorem RK:Eo (H44.K0 Pm) Gf:=by kernel_rfl
theorem QN:uT Gf:=λ_=>by show _=_;kernel_rfl
theorem SG:(S.bl.all λx=>tV (PySem.W.nsIn (H44.K0 Pm) mainGlobals x))=true:=by kernel_rfl
theorem Sx:(S.gi.all λx=>zo x.2 (PySem.W.nsIn (H44.K0 Pm) mainGlobals x.1))=true:=by kernel_rfl
theorem Su:(S.gt.all λx=>yZ (H44.K0 Pm) x.2 (PySem.W.nsIn (H44.K0 Pm) mainGlobals x.1))=true:=by kernel_rfl
theorem SA:(S.cl.zipIdx.all λx=>rF (H44.K0 Pm) (Cx x.2)&&nv (Cx x.2) (PySem.W.nsIn (H44.K0 Pm) mainGlobals x.1))=true:=by kernel_rfl
theorem Sy:(S.fs.all λx=>rF (H44.K0 Pm) (Cx x.1)&&tV (PySem.W.findIn (H44.K0 Pm) (.ref (Cx x.1)) x.2))=true:=by kernel_rfl
theorem SF:Aa (H44.K0 Pm) 546=true:=by kernel_rfl
theorem SE:yD (H44.K0 Pm) 548 546=true:=by kernel_rfl
theorem Fi:(H44.K0 Pm).lookup 546=none:=by kernel_rfl
end
section
variable {w:World}{h:Heap}{mg:br}(X:(H44.K0 w.2).In h)(G:h.Ns mainGlobals mg)
include X G
theorem Fj:∀x∈Gf,j6 (H44.K0 w.2) mg S Cx 546 x.1 x.2.g (fdOf x.2):=Qd X G (Sz _) (RK _) QN
theorem Xw:∀d∈S.fd,∃g fd,j6 (H44.K0 w.2) mg S Cx 546 d g fd:=Zd (by rfl) (Fj X G)
omit X G in
theorem Z4(o:Option Str):H44.hx w.2 o=w5 w (o.map Sum.inr):=by cases o<;>rfl
noncomputable def tks:List (au):=[[.str "house" 567,.none,.str "open" 568],[.str "house" 570,.str "asked" 571,.str "open" 572],[.str "house" 574,.str "called" 575,.str "open" 576],[.str "house" 578,.str "up" 579,.str "say" 580],[.str "house" 582,.str "far" 583,.str "say" 584],[.str "house" 586,.str "up" 587,.str "close" 588],[.str "house" 590,.str "far" 591,.str "close" 592],[.str "far" 594,.none,.str "open" 595],[.str "far" 597,.str "called" 598,.str "open" 599],[.str "far" 601,.str "asked" 602,.str "open" 603],[.str "far" 605,.str "up" 606,.str "say" 607],[.str "far" 609,.str "near" 610,.str "say" 611],[.str "far" 613,.str "up" 614,.str "close" 615],[.str "far" 617,.str "near" 618,.str "close" 619]]
theorem Yk:qR PySem.Challenge.pw_lentgate_k44_whole_behind_a_wide_gate w (H44.K0 w.2) mg "LINE_STEPS" ((S.tt.lookup ("LINE_STEPS":Str)).getD []):=UU (tk:=tks) (kt:=H44.kt) (vt:=H44.vt) (hx:=H44.hx w.2) (mN X G (n:="LINE_STEPS") (v:=.ref 250) (by kernel_rfl)) (show(H44.K0 w.2).lookup 250=some (H44.DD w.2) by kernel_rfl) ⋯ (by kernel_rfl) Z4 (by kernel_rfl) (by decide+kernel) (by decide+kernel) (by decide+kernel)
theorem Za:Hd PySem.Challenge.pw_lentgate_k44_whole_behind_a_wide_gate w (H44.K0 w.2) mg (P zp):=by
 refine qwo X G (SG _) (Sx _) (Su _) (SA _) (Sy _) ?_ (λx l hx=>by obtain⟨rfl,rfl⟩:=Vg hx;exact Yk X G) (Xw X G) (λ_ _ _ _=>⟨⋯,λh X2=>qwV X G (SF _) X2⟩) ?_
 . show ∀x∈[("DEEDS":Str),("TIME_AT":Str)],_
   refine uk.mpr ⟨show KTab _ _ _ _ _ (wX Jo)from UY (mN X G (n:="DEEDS") (v:=.ref 149) (by kernel_rfl)) (show(H44.K0 w.2).lookup 149=some (H44.rQ w.2) by kernel_rfl) ⋯ ⟨⟨_,rfl⟩,rfl,rfl,⟨_,rfl⟩,rfl,rfl,⟨_,rfl⟩,rfl,rfl,⟨_,rfl⟩,rfl,rfl,⟨_,rfl⟩,rfl,rfl,⟨_,rfl⟩,rfl,rfl,trivial⟩ (by decide+kernel),?_⟩
   refine uk.mpr ⟨show KTab _ _ _ _ _ (wY Hg)from UX (mN X G (n:="TIME_AT") (v:=.ref 216) (by kernel_rfl)) (show(H44.K0 w.2).lookup 216=some (H44.rR w.2) by kernel_rfl) ⋯ ⟨⟨_,rfl⟩,rfl,⟨_,rfl⟩,⟨_,rfl⟩,rfl,⟨_,rfl⟩,⟨_,rfl⟩,rfl,⟨_,rfl⟩,⟨_,rfl⟩,rfl,⟨_,rfl⟩,⟨_,rfl⟩,rfl,⟨_,rfl⟩,⟨_,rfl⟩,rfl,⟨_,rfl⟩,trivial⟩ (by decide+kernel),?_⟩
   exact gm _
 . show ∀q∈[((113:Addr),(9:Nat)),((120:Addr),(10:Nat)),((127:Addr),(11:Nat)),((134:Addr),(12:Nat))],_
   refine uk.mpr ⟨⟨yh,rfl,rfl,by kernel_rfl⟩,?_⟩
   refine uk.mpr ⟨⟨yc,rfl,rfl,by kernel_rfl⟩,?_⟩
   refine uk.mpr ⟨⟨yb,rfl,rfl,by kernel_rfl⟩,?_⟩
   refine uk.mpr ⟨⟨ya,rfl,rfl,by kernel_rfl⟩,?_⟩
   exact gm _
end
noncomputable def aL:FA:=fD H44.kQ
theorem tbE:Tb zp:=⟨⟨_,by rfl,.head _⟩,⟨_,by rfl,.tail _ (.head _)⟩,⟨_,by rfl,.tail _ (.tail _ (.head _))⟩,⟨_,by rfl,.tail _ (.tail _ (.tail _ (.head _)))⟩,by rfl,by rfl,by rfl,by rfl,by rfl,by rfl⟩
theorem Vq(ns:List Int):ao (P zp) 16 29 [.ls (ns.map RV.int)] (tf 546 S.lp S.lq) (λv M2=>v= .bl true/\M2 546=some (.tb 546 S.lp S.lq)):=qvx tbE II λ_ h=>⟨rfl,h⟩
theorem lJ{p:Params}(X:(H44.K p).In h):(H44.K0 p).In h/\h.get? 546=some (PySem.W.tabObj #[]):=
 ⟨λa o e=>X a o (by show List.lookup a (H44.K0 p++_)=_;rw[List.lookup_append,e];rfl),X 546 _ (by show List.lookup _ (H44.K0 p++_)=_;rw[List.lookup_append,Fi];rfl)⟩
theorem walk{l:PySem.W.OpenLaw}{q:Program}{loose:az}{XP:(br)->Heap->Prop}{YP:World->Heap->Prop}{d:DefRec}(hn:l.most=some 63)(hp:l.prog=PySem.Challenge.pw_lentgate_k44_whole_behind_a_wide_gate)(hdn:d.name= "law")(hdf:d.params.defaults= [])
 (hY:∀(w:World) (h:Heap),YP w h->(H44.K0 w.2).In h/\h.get? 546=some (PySem.W.tabObj #[])):PySem.W.WalkO q loose XP YP l.row.toRowW d [] (λf vs=>PySem.call f vs):=by
 refine R.j0 (n:=63) (k:=16+1) (x:="script") (K:=H44.K0) (sp:=ao (P zp) 16 29) (T:=546) (c:=548) (pos:=S.lp) (lq:=S.lq) hn ⋯ hdf ⟨rfl,⋯,⋯⟩ hY Fi (λp h X=>HY (SE p) X) (λw mg fa h X G hm=>?_) λns _=>Vq ns
 have hl:=Fj X G (vI,aL) (jw (i:=29) rfl);have hf:=hl.k0 rfl;rw[hdn]at hm;have:fa=aL.g:=by have:=hm.symm.trans hf;injection this with this;injection this
 subst this;rw[hp];exact⟨fdOf aL,λs u=>.of_eq (by kernel_rfl),λbase kb _=>(Ay (Za X G) kb 16 29 vI aL.g (fdOf aL) rfl hl).1⟩
end K44
open PySem PySem.W PyProof.Rows
theorem K44.wa:looksOpen PySem.Challenge.pw_lentgate_k44_whole_behind_a_wide_gate=true:=by kernel_rfl
theorem K44.wb:(PySem.Challenge.rw_lentgate_k44_whole_behind_a_wide_gate).row.wellSaid=true:=by
 delta OpenRow.wellSaid OpenRow.partSaid
 rw[show looksOpen (PySem.Challenge.rw_lentgate_k44_whole_behind_a_wide_gate).row.prog=true from K44.wa];kernel_rfl
theorem K44.ws:PySem.Challenge.rw_lentgate_k44_whole_behind_a_wide_gate.wellSaid=true:=by
 delta OpenLaw.wellSaid
 rw[K44.wb];kernel_rfl
theorem PySem.Challenge.cw_lentgate_k44_whole_behind_a_wide_gate_holds : PySem.Challenge.rw_lentgate_k44_whole_behind_a_wide_gate.Holds := by
 w_on;refine PySem.W.holds_law K44.ws λsaid=>?_
 refine PySem.W.holds_open (r:=(PySem.Challenge.rw_lentgate_k44_whole_behind_a_wide_gate).row) (q:=H44.q) (loose:=H44.loose) (Xt:=H44.Xt) (XP:=PySem.W.XL H44.q [])
  (Yf:=(PySem.W.kHook H44.K H44.ks H44.ip).obs) (Ya:=(PySem.W.kHook H44.K H44.ks H44.ip).val) (YP:=(PySem.W.kHook H44.K H44.ks H44.ip).says) (N:=H44.NN)
  H44.left (PySem.W.Hook.of _) (PySem.W.Hook.keeps _) (λs e=>PySem.W.xl_of s (uj.mp e).1) PySem.W.XL.keeps (by rfl) (by rfl) (by rfl)
  (λs e=>PySem.W.recFacts_of (uj.mp e).2) (by rfl) (by assumption) (by decide+kernel) ⟨rfl,rfl,rfl,rfl,rfl,by decide+kernel⟩ ?hw ?hc
 (case hw=>w_witness2)
 k_fill
 exact K44.walk (l:=PySem.Challenge.rw_lentgate_k44_whole_behind_a_wide_gate) rfl rfl rfl rfl (λw h Y=>K44.lJ (PySem.W.kIn_of Y))
