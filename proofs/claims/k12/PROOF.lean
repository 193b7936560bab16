import PyProof.Rows.All
import Wide.All
import OpenK.AllK
import Wide.FinOn
import Lean
import PyProof.EqAt
import PyProof.EqKinds
import PyProof.TupleCall
import PyProof.NeKinds
import PyProof.ZipIter
import KE.KSortTup
import KE.KDictSum
import KE.KSortedM
import KE.KEqDict
import PyProof.DictWalks
import KE.KDictList
import PyProof.Conv_int_bool
import KE.KSortKey
import KE.KLam
import KE.KIntText
import PySem.Challenge.RW_lentgate_k12_told_as_lost
set_option Elab.async false
set_option linter.all false
set_option maxRecDepth 100000
set_option genInjectivity false
set_option genSizeOfSpec false
set_option genSizeOf false
set_option bootstrap.genMatcherCode false
set_option maxHeartbeats 0
set_option autoImplicit true
abbrev ag:=PySem.W.Frag
local macro_rules | `(tactic| walk_at "w9") => `(tactic| (rw [PySem.W.Fast.te10110043849684766642, PySem.W.Fast.te14364793385576792824]; kernel_rfl))
def aj:=@PySem.wpAny_bind
def bz:=@PySem.Heap.get?_push_of_some
def aY:=@Bool.and_eq_true
def ba:=@List.length_map
def aP:=@List.mem_map
def aN:=@Nat.le_refl
def ae:=@if_neg
def aI:=@PySem.wpAny_pure
def ah:=@if_pos
def bA:=@PySem.Heap.lt_size
def dv:=@PySem.Heap.get?_push_size
def cQ:=@List.length_cons
def bU:=@List.map_cons
def dW:=@List.size_toArray
def bQ:=@Nat.le_trans
def bR:=@List.map_map
def dw:=@List.all_eq_true
def dz:=@Option.some.inj
def fe:=@List.length_append
def fq:=@Nat.lt_of_lt_of_le
def cE:=@Nat.ne_of_lt
def nz:=@PySem.W.Fast.te10295753902157049106
def eR:=@List.mem_filter
def eS:=@List.mem_append
def gv:=@List.mem_cons_of_mem
def fJ:=@List.getElem?_map
def fU:=@decide_eq_true_eq
def jG:=@List.getElem?_eq_some_iff
def iP:=@List.mem_append_right
def gG:=@Nat.lt_of_le_of_lt
def aS:=@absurd
def g8:=@List.forall_mem_nil
def fb:=@List.all_cons
def eG:=@Nat.lt_trans
def fV:=@List.map_append
def fK:=@decide_eq_true
def fw:=@List.mem_cons
def iQ:=@Bool.false_ne_true
def iR:=@List.mem_cons_self
def jH:=@List.mem_of_getElem?
def kc:=@List.length_filter_le
def jI:=@Bool.false_eq_true
def jc:=@List.mem_singleton
def gH:=@decide_eq_false
def jd:=@Bool.not_eq_true'
def eQ:=@beq_iff_eq
def iT:=@List.nodup_cons
def je:=@List.filter_cons
def jJ:=@PySem.wpAny_truthy_bool
def qM:=@List.getElem?_append_left
def sZ:=@PyProof.Rows.callWith_type1
def nv:=@List.map_congr_left
def jE:=@PySem.wpAny_call_entry
def j7:=@Option.some.injEq
def j8:=@PySem.wpAny_newObj_type
def j9:=@of_decide_eq_true
def ka:=@List.nil_append
def jF:=@List.find?_cons
def oB:=@beq_eq_false_iff_ne
def cN:=@Ne.symm
def ny:=@PySem.W.emptyDict
def jL:=@List.mem_range
def qP:=@List.forall_mem_cons
def nE:=@List.lookup_cons
def jf:=@Nat.zero_add
def zQ:=@PyProof.Rows.slot_tuple_getitem
def qQ:=@List.replicate_succ
def gw:=@PySem.wpAny_mono
def jM:=@PySem.wpAny_holding
def iU:=@Nat.le_succ
def gh:=@LawfulBEq.eq_of_beq
def ke:=@Nat.lt_irrefl
def kf:=@List.any_cons
def nG:=@PySem.W.mg_of
def nH:=@List.nodup_nil
def qR:=@Option.isSome_map
def qS:=@Nat.le_succ_of_le
def oC:=@PySem.W.instObj
def oE:=@List.append_nil
def oF:=@Bool.or_eq_true
def kh:=@Nat.le_of_lt
def jN:=@Nat.zero_le
def zR:=@Option.isSome_iff_exists
def tw:=@List.flatten_cons
def qT:=@PySem.W.kia_one
def tG:=@Nat.lt_succ_of_le
def zS:=@Nat.add_sub_cancel_left
def wz:=@List.filter_eq_self
def wB:=@List.mem_filterMap
def wC:=@List.find?_eq_none
def tf:=@Nat.not_lt_zero
def zK:=@List.length_replicate
def qN:=@List.map_nil
def tj:=@List.forIn_cons
def wD:=@List.filter_congr
def wF:=@PySem.wpAny_dictEntries
def zL:=@List.mem_append_left
def Dm:=@List.mem_of_find?_eq_some
def wG:=@PySem.W.plainGet
def wH:=@decide_eq_decide
def zM:=@PySem.W.callWith_K
def wJ:=@Bool.true_and
def zN:=@PySem.W.hasDictIn
def zO:=@Nat.lt_succ_of_lt
def zP:=@List.length_range
def tq:=@List.all_map
noncomputable section
abbrev aH:=List (PySem.Addr×PySem.Obj)
abbrev aQ:=PySem.Value->PySem.Shared->Prop
abbrev bq:=PySem.Str->Option PySem.Value
abbrev ak:=List PySem.Value
abbrev bb:=List PySem.Expr
abbrev aB:=List PySem.Str
abbrev cK:=Option PySem.Value
namespace R
open PySem PySem.W PyProof.Rows
def pw(b:Nat->Nat->Bool)(n:Nat):KasT α->(α->Prop)->Prop
 | .ret a,Q=>Q a
 | .ask i j k,Q=>i<n/\j<n/\pw b n (k (b i j)) Q
theorem rT{n:Nat}{g:α->KasT β}:∀{t:KasT α},pw lt n t (λa=>pw lt n (g a) Q)->pw lt n (t.bind g) Q
 | .ret _,h=>h
 | .ask _ _ _,⟨a,b,h⟩=>⟨a,b,rT h⟩
theorem NQ{n:Nat}{s:Shared}(c:∀i j C,i<n->j<n->C (lt i j) s->cmp i j C s):∀{t:KasT α},pw lt n t (λa=>Q a s)->t.kasWp cmp Q s
 | .ret _,h=>h
 | .ask i j _,⟨a,b,h⟩=>c i j _ a b (NQ c h)
structure Ar(n:Nat)(p:Array Nat):Prop where
 sz:p.size=n
 pm:p.toList.Perm (List.range n)
section
variable {O:KeyOrd}{f:Nat->O.α}{n:Nat}{p:Array Nat}
theorem nV:p.getD k 0=(p[k]?).getD 0:=by simp
theorem Ar.lt(a:Ar n p)(b:0<n)(k):p.getD k 0<n:=by
 rw[nV];cases e:p[k]? with
 |none=>exact b
 |some x=>
  have:x∈p.toList:=jH (by rw[Array.getElem?_toList];exact e)
  exact jL.mp (a.pm.mem_iff.mp this)
noncomputable def ky (f:Nat->O.α)(p:Array Nat)(i:Nat):O.α:=f (p.getD i 0)
def SU(f:Nat->O.α)(p:Array Nat)(k:Nat):Prop:=∀i j,i<=j->j<k->O.kle (ky f p i) (ky f p j)
def SD(f:Nat->O.α)(p:Array Nat)(k:Nat):Prop:=∀i j,i<=j->j<k->O.kle (ky f p j) (ky f p i)
theorem SU.snoc(h:SU f p m)(d:1<=m)(c:O.kle (ky f p (m-1)) (ky f p m)):SU f p (m+1):=λi j a g=>by
 by_cases e:j<m
 . exact h i j a e
 have:j=m:=by omega
 subst this
 by_cases b:i=j
 . subst b;exact KeyOrd.kle_refl _
 . exact KeyOrd.kle_trans (h i (j-1) (by omega) (by omega)) c
theorem SD.snoc(h:SD f p m)(d:1<=m)(c:O.kle (ky f p m) (ky f p (m-1))):SD f p (m+1):=λi j a g=>by
 by_cases e:j<m
 . exact h i j a e
 have:j=m:=by omega
 subst this
 by_cases b:i=j
 . subst b;exact KeyOrd.kle_refl _
 . exact KeyOrd.kle_trans c (h i (j-1) (by omega) (by omega))
theorem BG{i j:Nat}(a:j<=p.size)(k:Nat):ky f (kas_rev p i j) k=if i<=k/\k<j then ky f p (i+j-1-k)else ky f p k:=by
 unfold ky kas_rev;rw[nV,getElem?_mirror_all a,nV,nV];split<;>rfl
theorem A2{i j:Nat}(a:j<=p.size)(h:∀k,i<=k->k<j->ky f p k=ky f p (j-1))(k:Nat):ky f (kas_rev p i j) k=ky f p k:=by
 rw[BG a];split
 . rename_i q
   rw[h (i+j-1-k) (by omega) (by omega),h k q.1 q.2]
 . rfl
theorem Ar.rev(a:Ar n p)(i j):Ar n (kas_rev p i j):=⟨by rw[kas_rev_size];exact a.sz,(Array.perm_iff_toList_perm.mp (mirror_perm p i j _)).trans a.pm⟩
theorem Ar.O2(a:Ar n p)(i j):Ar n (bubble p i j):=⟨by rw[bubble_size];exact a.sz,(Array.perm_iff_toList_perm.mp (bubble_perm p i j)).trans a.pm⟩
theorem SD.up(h:SD f p m)(a:m<=p.size):SU f (kas_rev p 0 m) m:=λi j b c=>by
 rw[BG a,BG a,ah ⟨by omega,by omega⟩,ah ⟨by omega,by omega⟩]
 exact h _ _ (by omega) (by omega)
theorem Be(h:SD f p m)(e:∀k,ky f p' k=ky f p k):SD f p' m:=λi j a b=>by rw[e,e];exact h i j a b
noncomputable abbrev gK (f:Nat->O.α) (i j:Nat):Bool:=O.blt (f i) (f j)
theorem BI{Q:Nat->Prop}(a:Ar n p)(hn:0<n):∀(u m:Nat),1<=m->m+u<=n->SU f p m->(∀m',m<=m'->m'<=m+u->SU f p m'->(m'=m+u∨O.klt (ky f p m') (ky f p (m'-1)))->Q m')->pw (gK f) n (kas_asc p u m) Q
 |0,m,_,_,hs,hq=>hq m (aN _) (aN _) hs (.inl rfl)
 |u+1,m,h1,h2,hs,hq=>by
  refine⟨a.lt hn _,a.lt hn _,?_⟩;cases e:gK f (p.getD m 0) (p.getD (m-1) 0)with
  |true=>exact hq m (aN _) (by omega) hs (.inr e)
  |false=>exact BI a hn u (m+1) (by omega) (by omega) (hs.snoc h1 e) λm' b c d e=>hq m' (by omega) (by omega) d (e.elim (λz=>.inl (by omega)) .inr)
structure Dn(f:Nat->O.α)(n:Nat)(p:Array Nat)(m q:Nat):Prop where
 a:Ar n p
 s:SD f p m
 le:q+1<=m
 r:∀i,m-(q+1)<=i->i<m->ky f p i=ky f p (m-1)
theorem yB{Q:Array Nat×Nat×Nat->Prop}(hn:0<n):∀(u:Nat) (p:Array Nat) (m q:Nat),m+u<=n->Dn f n p m q->(∀p' m' q',Dn f n p' m' q'->m<=m'->m'<=m+u->Q (p',m',q'))->pw (gK f) n (kas_desc u p m q) Q
 |0,p,m,q,_,d,hq=>hq p m q d (aN _) (aN _)
 |u+1,p,m,q,hu,d,hq=>by
  have m1:1<=m:=bQ (Nat.le_add_left 1 q) d.le;refine⟨d.a.lt hn _,d.a.lt hn _,?_⟩;cases e:gK f (p.getD m 0) (p.getD (m-1) 0)with
  |true=>
   have e':O.klt (ky f p m) (ky f p (m-1)):=e;dsimp only;rw[ah rfl];split
   . have sm:=A2 (f:=f) (p:=p) (i:=m-(q+1)) (j:=m) (by rw[d.a.sz];omega) d.r
     refine yB hn u _ (m+1) 0 (by omega) ⟨d.a.rev _ _,(Be d.s sm).snoc m1 (by rw[sm,sm];exact KeyOrd.kle_of_klt e'),by omega,λi a b=>by rw[show i=m+1-1 by omega]⟩ λp' m' q' d' b c=>hq p' m' q' d' (by omega) (by omega)
   . exact yB hn u _ (m+1) 0 (by omega) ⟨d.a,d.s.snoc m1 (KeyOrd.kle_of_klt e'),by omega,λi a b=>by rw[show i=m+1-1 by omega]⟩ λp' m' q' d' b c=>hq p' m' q' d' (by omega) (by omega)
  |false=>
   have e':O.kle (ky f p (m-1)) (ky f p m):=e;dsimp only;rw[ae (by simp)]
   refine⟨d.a.lt hn _,d.a.lt hn _,?_⟩;cases e2:gK f (p.getD (m-1) 0) (p.getD m 0)with
   |true=>exact hq p m q d (aN _) (by omega)
   |false=>
    have e3:ky f p m=ky f p (m-1):=O.total _ _ e e2;exact yB hn u p (m+1) (q+1) (by omega) ⟨d.a,d.s.snoc m1 e2,by have:=d.le;omega,λi a b=>by
     rw[show m+1-1=m by omega]
     by_cases z:i=m
     . rw[z]
     . rw[d.r i (by omega) (by omega),e3]⟩ λp' m' q' d' b c=>hq p' m' q' d' (by omega) (by omega)
theorem LB{Q:Nat×Array Nat->Prop}{m:Nat}(hn:0<n)(h1:1<=m)(hm:m<=n)(a:Ar n p)(s:SD f p m)(hq:∀m' p',Ar n p'->SU f p' m'->1<=m'->m'<=n->Q (m',p')):pw (gK f) n (kas_tail3 m n p) Q:=by
 unfold kas_tail3;exact rT (BI (a.rev _ _) hn _ _ h1 (by omega) (s.up (by rw[a.sz];exact hm)) λm' b c d _=>hq m' _ (a.rev _ _) d (by omega) (by omega))
theorem LC{Q:Nat×Array Nat->Prop}{m:Nat}(hn:0<n)(hm:m+1<=n)(a:Ar n p)(s:SD f p (m+1))(hq:∀m' p',Ar n p'->SU f p' m'->1<=m'->m'<=n->Q (m',p')):pw (gK f) n (kas_descPart m n p) Q:=by
 unfold kas_descPart;refine rT (yB hn _ p (m+1) 0 (by omega) ⟨a,s,by omega,λi b c=>by rw[show i=m+1-1 by omega]⟩ λp' m' q' d b c=>?_)
 dsimp only;split
 . have sm:=A2 (f:=f) (p:=p') (i:=m'-(q'+1)) (j:=m') (by rw[d.a.sz];omega) d.r
   exact LB hn (by omega) (by omega) (d.a.rev _ _) (Be d.s sm) hq
 . exact LB hn (by omega) (by omega) d.a d.s hq
theorem VC(d:1<=n)(a:Ar n p)(g:∀l t,Ar n t->SU f t l->1<=l->l<=n->Q (l,t)):pw (gK f) n (kas_count n p) Q:=by
 unfold kas_count;refine rT (BI a d _ 1 (aN _) (by omega) (λi j b c=>by rw[show i=j by omega];exact KeyOrd.kle_refl _) λm b c o z=>?_)
 split
 . exact g m p a o b (by omega)
 . rename_i y
   have A:m≠n:=by simpa using y
   have z:O.klt (ky f p m) (ky f p (m-1)):=z.resolve_left (by omega)
   split
   . refine⟨a.lt d _,a.lt d _,?_⟩
     cases e:gK f (p.getD 0 0) (p.getD (m-1) 0)with
     |true=>exact g m p a o b (by omega)
     |false=>
      have x:O.kle (ky f p (m-1)) (ky f p 0):=e;have r:∀k,0<=k->k<m->ky f p k=ky f p (m-1):=λk _ h=>KeyOrd.kle_antisymm (o k (m-1) (by omega) (by omega)) (KeyOrd.kle_trans x (o 0 k (by omega) h))
      have v:=A2 (f:=f) (p:=p) (i:=0) (j:=m) (by rw[a.sz];omega) r
      have u:SD f p m:=λi j s w=>by rw[r j (by omega) w,r i (by omega) (by omega)];exact KeyOrd.kle_refl _
      exact LC d (by omega) (a.rev _ _) ((Be u v).snoc b (by rw[v,v];exact KeyOrd.kle_of_klt z)) g
   . have:m=1:=by omega
     subst this;have u:SD f p 1:=λi j s w=>by rw[show i=j by omega];exact KeyOrd.kle_refl _
     exact LC d (by omega) a (u.snoc b (KeyOrd.kle_of_klt z)) g
theorem A6(a:Ar n p)(d:0<n)(h:SU f p k)(g:∀l,l<=k->(∀i,i<l->O.kle (ky f p i) (ky f p k))->(∀i,l<=i->i<k->O.kle (ky f p k) (ky f p i))->Q l):
 ∀u l r,l<=r->r<=k->r-l<=u->(∀i,i<l->O.kle (ky f p i) (ky f p k))->(∀i,r<=i->i<k->O.kle (ky f p k) (ky f p i))->pw (gK f) n (kas_place p k u l r) Q
 |0,l,r,h1,h2,h3,h4,h5=>g l (by omega) h4 (by rw[show l=r by omega];exact h5)
 |u+1,l,r,h1,h2,h3,h4,h5=>by
  unfold kas_place;split
  . exact g l (by omega) h4 (by rw[show l=r by omega];exact h5)
  . refine⟨a.lt d _,a.lt d _,?_⟩
    cases e:gK f (p.getD k 0) (p.getD ((l+r) / 2) 0)with
    |true=>
     have j:O.klt (ky f p k) (ky f p ((l+r) / 2)):=e;exact A6 a d h g u l ((l+r) / 2) (by omega) (by omega) (by omega) h4 λi b c=>KeyOrd.kle_trans (KeyOrd.kle_of_klt j) (h _ i b c)
    |false=>
     have j:O.kle (ky f p ((l+r) / 2)) (ky f p k):=e;exact A6 a d h g u ((l+r) / 2+1) r (by omega) h2 (by omega) (λi b=>KeyOrd.kle_trans (h i _ (by omega) (by omega)) j) h5
theorem MM{k l:Nat}(a:k<p.size)(b:l<=k)(i:Nat):ky f (bubble p k (k-l)) i=if i=l then ky f p k else if l<i/\i<=k then ky f p (i-1)else ky f p i:=by
 unfold ky;rw[nV,getElem?_bubble a _ (by omega),nV,nV,nV,show k-(k-l)=l by omega]
 repeat' split
 all_goals rfl
theorem L9(r:0<n)(t:∀g,Ar n g->SU f g n->Q g):∀(u:Nat) (p:Array Nat) (k:Nat),Ar n p->SU f p k->k+u=n->pw (gK f) n (kas_bin u p k) Q
 |0,p,k,a,s,h=>t p a (by rw[<-show k=n by omega];exact s)
 |u+1,p,k,a,s,h=>by
  refine rT (A6 a r s (λl o lo hi=>L9 r t u _ (k+1) (a.O2 _ _) (λi j v y=>?_) (by omega)) k 0 k (jN _) (aN _) (by omega) (λi z=>aS z (tf _)) λi b c=>aS c (by omega))
  have m:k<p.size:=by rw[a.sz];omega
  rw[MM m o,MM m o]
  by_cases d:i=l<;>by_cases e:j=l
  . rw[ah d,ah e];exact KeyOrd.kle_refl _
  . rw[ah d,ae e,ah ⟨by omega,by omega⟩];exact hi _ (by omega) (by omega)
  . rw[ae d,ah e,ae (by omega)];exact lo _ (by omega)
  . rw[ae d,ae e]
    by_cases w:l<i
    . rw[ah ⟨w,by omega⟩,ah ⟨by omega,by omega⟩];exact s _ _ (by omega) (by omega)
    . rw[ae (by omega)]
      by_cases x:l<j
      . rw[ah ⟨x,by omega⟩];exact s _ _ (by omega) (by omega)
      . rw[ae (by omega)];exact s _ _ (by omega) (by omega)
theorem WY(b:1<=n)(c:∀p,Ar n p->SU f p n->Q p):pw (gK f) n (kas_sort n) Q:=by
 unfold kas_sort;refine rT (VC b ⟨by simp,by simp⟩ λm p a s d e=>?_)
 dsimp only;split
 . rw[show max m 1=m by omega]
   exact L9 b c _ p m a s (by omega)
 . exact c p a ((show m=n by omega) ▸ s)
end
end R
namespace L2
open PySem PySem.Spec PyProof.Rows
abbrev Key:=Sum Int Str
def jX:Key->Value->Bool
 | .inl k,v=>Value.isInt k v
 | .inr x,v=>Value.isStrOf x v
def GJ(w:World):Key->Int
 | .inl k=>hashInt k
 | .inr x=>hashStr w x
theorem i3:∀{k:Key} {v:Value},jX k v=true->(∃i t,k=Sum.inl i/\v=Value.int i t)∨(∃x t,k=Sum.inr x/\v=Value.str x t)
 | .inl i,v,h=>by
  obtain⟨t,e⟩:=Value.isInt_shape (k:=i) (v:=v) h;exact .inl ⟨i,t,rfl,e⟩
 | .inr x,v,h=>by
  obtain⟨t,e⟩:=Value.isStrOf_shape (x:=x) (v:=v) h;exact .inr ⟨x,t,rfl,e⟩
theorem Ub(i)(t):jX (.inl i) (.int i t)=true:=by simp[jX,Value.isInt]
theorem Ua(x)(t):jX (.inr x) (.str x t)=true:=by simp[jX,Value.isStrOf]
theorem Zf(a b):decide ((Sum.inl a:Key)=Sum.inl b)=(a==b):=by
 by_cases e:a=b
 . subst e;simp
 . have h:¬(Sum.inl a:Key)=Sum.inl b:=λq=>e (Sum.inl.inj q)
   rw[gH h];exact(oB.mpr e).symm
theorem Zc(a b):decide ((Sum.inr a:Key)=Sum.inr b)=decide (a=b):=by
 by_cases e:a=b
 . subst e;simp
 . have h:¬(Sum.inr a:Key)=Sum.inr b:=λq=>e (Sum.inr.inj q)
   rw[gH h,gH e]
theorem Ze(a)(b):decide ((Sum.inl a:Key)=Sum.inr b)=false:=gH (λq=>nomatch q)
theorem Zd(a)(b):decide ((Sum.inr a:Key)=Sum.inl b)=false:=gH (λq=>nomatch q)
noncomputable def c6 (prog:Program)(w:World):PySem.KeyKind prog w Key where
 is:=jX
 hash:=GJ w
 inj:=λv a b ha hb=>by
  rcases i3 ha with⟨i,t,rfl,rfl⟩|⟨x,t,rfl,rfl⟩
  . rcases i3 hb with⟨j,u,rfl,e⟩|⟨y,u,rfl,e⟩
    . injection e with e1 _;rw[e1]
    . exact nomatch e
  . rcases i3 hb with⟨j,u,rfl,e⟩|⟨y,u,rfl,e⟩
    . exact nomatch e
    . injection e with e1 _;rw[e1]
 byValue:=λk v h=>by
  rcases i3 h with⟨i,t,rfl,rfl⟩|⟨x,t,rfl,rfl⟩<;>rfl
 pyHash:=λhv h=>by
  rcases i3 hv with⟨i,t,rfl,rfl⟩|⟨x,t,rfl,rfl⟩
  . exact wpAny_pyHash_int h
  . exact wpAny_pyHash_str h
 eqBool:=λhu hv h=>by
  rcases i3 hu with⟨i,t,rfl,rfl⟩|⟨x,t,rfl,rfl⟩
  . rcases i3 hv with⟨j,u,rfl,rfl⟩|⟨y,u,rfl,rfl⟩
    . rw[Zf]at h;exact wpAny_eqBool_int h
    . rw[Ze]at h;exact SeqAt.EqAt.int_str i t y u _ _ _ _ h
  . rcases i3 hv with⟨j,u,rfl,rfl⟩|⟨y,u,rfl,rfl⟩
    . rw[Zd]at h;exact SeqAt.EqAt.str_int x t j u _ _ _ _ h
    . rw[Zc]at h;exact wpAny_eqBool_str h
 «strs»:=λk x t v h=>by
  rcases i3 h with⟨i,u,rfl,e⟩|⟨y,u,rfl,e⟩
  . exact nomatch e
  . injection e with e1 _
    subst e1;cases v<;>rfl
theorem SW(prog)(w)(i)(t):(c6 prog w).is (.inl i) (.int i t)=true:=Ub i t
theorem Jz(prog)(w)(x)(t):(c6 prog w).is (.inr x) (.str x t)=true:=Ua x t
inductive V where
 |aq|bl (b:Bool)|int (i:Int)|str (x:Str)|w5 (b:Array UInt8)|mH (b:UInt64)|ref (a:Addr)|ty (n:String)
 deriving DecidableEq
abbrev LV:=List V
noncomputable def RelV:V->Value->Prop
 | .aq,u=>u=Value.none
 | .bl b,u=>u=Value.bool b
 | .int i,u=>∃t,u=Value.int i t
 | .str x,u=>∃t,u=Value.str x t
 | .w5 b,u=>∃t,u=Value.bytes b t
 | .mH b,u=>∃t,u=Value.float b t
 | .ref a,u=>u=Value.ref a
 | .ty n,u=>u=Value.type n
abbrev Vals:LV->ak->Prop:=Paired RelV
theorem Vals.length{us:ak}(r:Vals xs us):xs.length=us.length:=Paired.length r
theorem Vals.get:∀{xs:LV} {us:ak} {i:Nat} {x:V},Vals xs us->xs[i]? =some x->∃u,us[i]? =some u/\RelV x u
 |_,_,_,_,.nil,e=>by simp at e
 |_,_,0,_,.cons r _,e=>by simp at e;subst e;exact⟨_,rfl,r⟩
 |_,_,i+1,x,.cons _ t,e=>by
  obtain⟨u,a,b⟩:=Vals.get (i:=i) (x:=x) t (by simpa using e)
  exact⟨u,by simpa using a,b⟩
theorem Vals.set{x:V}(r:RelV x u):∀{xs:LV} {us:ak} (i:Nat),Vals xs us->Vals (xs.set i x) (us.set i u)
 |_,_,_,.nil=>.nil
 |_,_,0,.cons _ t=>.cons r t
 |_,_,i+1,.cons q t=>.cons q (Vals.set r i t)
theorem Vals.append:∀{xs a:LV} {us ws:ak},Vals xs us->Vals a ws->Vals (xs++a) (us++ws)
 |_,_,_,_,.nil,s=>s
 |_,_,_,_,.cons r t,s=>.cons r (Vals.append t s)
theorem Vals.take:∀{xs:LV} {us:ak} (n:Nat),Vals xs us->Vals (xs.take n) (us.take n)
 |_,_,0,_=>.nil
 |_,_,_+1,.nil=>.nil
 |_,_,n+1,.cons r t=>.cons r (Vals.take n t)
theorem Vals.drop:∀{xs:LV} {us:ak} (n:Nat),Vals xs us->Vals (xs.drop n) (us.drop n)
 |_,_,0,r=>r
 |_,_,_+1,.nil=>.nil
 |_,_,n+1,.cons _ t=>Vals.drop n t
def bK:Option V->cK->Prop
 |some v,some u=>RelV v u
 |none,none=>True
 |_,_=>False
def KV:List (κ×V)->List (κ×Value)->Prop:=Paired λ(p:κ×V) (q:κ×Value)=>p.1=q.1/\RelV p.2 q.2
def kV:Key->V
 | .inl i=>.int i
 | .inr x=>.str x
abbrev bB:=Option Key
def oV:bB->V
 |none=>.aq
 |some k=>kV k
def zt:Option Key->Value->Bool
 |none,.none=>true
 |none,_=>false
 |some k,v=>jX k v
def xr(w:World):Option Key->Int
 |none=>0xFCA86420
 |some k=>GJ w k
theorem mQ:∀{k:Option Key} {v:Value},zt k v=true->(k=none/\v=Value.none)∨∃j,k=some j/\jX j v=true
 |none,v,h=>by cases v<;>first|exact .inl ⟨rfl,rfl⟩|(simp[zt]at h)
 |some k,v,h=>.inr ⟨k,rfl,h⟩
theorem JS:jX k Value.none=false:=by cases k<;>rfl
section
variable {prog:Program}{w:World}{A:Around}{E:aQ}{s:Shared}
theorem UH(h:Q 0xFCA86420 { s with toks:=s.toks+1 }):wpAny (model prog w) A (PySem.pyHash .none) Q E s:=by
 have a:s.TypeIs .none "NoneType":=rfl;unfold PySem.pyHash;have b:[Value.none].any Value.onHeap=false:=rfl;refine aj ?_;rw[cRoomFor,ae (by rw[b];exact iQ)];refine aI ?_
 refine aj (wpAny_specialOf a F.slot_NoneType_hash.lookup ?_);show wpAny _ _ (if(some (Value.builtin "NoneType.__hash__")==some Value.none)=true then _ else _) Q E s
 rw[ae (by rw[beq_builtin_none];exact iQ)]
 refine aj (wpAny_specialOf a F.slot_NoneType_hash.lookup ?_);show wpAny _ _ (callSpecialIfBoundUnlessNone? .none "__hash__" _ >>= _) Q E s;refine aj (wpAny_callSpecialIfBoundUnlessNone?_slot a F.slot_NoneType_hash
  (jE F.slot_NoneType_hash a F.entry_NoneType_hash
   (show wpAny _ _ (do ret (<-mkInt 0xFCA86420)) _ _ s from wpAny_ret_mkInt ?_) (F.args_NoneType_hash_1 _)))
 show wpAny _ _ (if(decide (-(2:Int) ^ 63<=0xFCA86420)&&decide ((0xFCA86420:Int)<2 ^ 63))=true then _ else _) Q E _
 rw[ah (by decide)]
 exact aI h
end
noncomputable def optKind (prog:Program)(w:World):PySem.KeyKind prog w (Option Key) where
 is:=zt
 hash:=xr w
 inj:=λv a b ha hb=>by
  rcases mQ ha with⟨rfl,rfl⟩|⟨j,rfl,hj⟩
  . rcases mQ hb with⟨rfl,_⟩|⟨i,rfl,hi⟩
    . rfl
    . rw[JS]at hi;cases hi
  . rcases mQ hb with⟨rfl,rfl⟩|⟨i,rfl,hi⟩
    . rw[JS]at hj;cases hj
    . rw[(c6 prog w).inj v j i hj hi]
 byValue:=λk v h=>by
  rcases mQ h with⟨rfl,rfl⟩|⟨j,rfl,hj⟩
  . rfl
  . exact(c6 prog w).byValue j v hj
 pyHash:=λhv h=>by
  rcases mQ hv with⟨rfl,rfl⟩|⟨j,rfl,hj⟩
  . exact UH h
  . exact(c6 prog w).pyHash hj h
 eqBool:=λ{A E s a b u v Q} hu hv h=>by
  rcases mQ hu with⟨rfl,rfl⟩|⟨i,rfl,hi⟩
  . rcases mQ hv with⟨rfl,rfl⟩|⟨j,rfl,hj⟩
    . exact SeqAt.EqAt.same _ _ _ _ _ (by simpa using h)
    . have e:decide ((none:Option Key)=some j)=false:=gH (λq=>nomatch q)
      rw[e]at h;rcases i3 hj with⟨k,t,rfl,rfl⟩|⟨x,t,rfl,rfl⟩
      . exact SeqAt.EqAt.none_int k t _ _ _ _ h
      . exact SeqAt.EqAt.none_str x t _ _ _ _ h
  . rcases mQ hv with⟨rfl,rfl⟩|⟨j,rfl,hj⟩
    . have e:decide ((some i:Option Key)=none)=false:=gH (λq=>nomatch q)
      rw[e]at h;rcases i3 hi with⟨k,t,rfl,rfl⟩|⟨x,t,rfl,rfl⟩
      . exact SeqAt.EqAt.int_none k t _ _ _ _ h
      . exact SeqAt.EqAt.str_none x t _ _ _ _ h
    . have e:decide (some i=some j)=decide (i=j):=by
       by_cases q:i=j
       . subst q;simp
       . rw[gH q,gH λz=>q (dz z)]
      rw[e]at h;exact(c6 prog w).eqBool hi hj h
 «strs»:=λk x t v h=>by
  rcases mQ h with⟨rfl,e⟩|⟨j,rfl,hj⟩
  . cases e
  . exact(c6 prog w).strs j x t v hj
inductive HO where
 |lst (xs:LV)
 |tup (xs:LV)
 |dK (kvs:List (Key×V))|dT (kvs:List (List bB×V))
 |set (S:Int->Bool) (n:Nat)
 |ins (C dx:Addr) (fs:List (Str×V))
 |own (x:Addr)
 |xd (fs:List (Str×V))
 |met (f x:Addr)
 |qE (lo hi:Int)
 |aZ (o:Obj) (u:HO)
 |oz (ps:Array Value)
 |ext (φ:Heap->Prop)
abbrev Hp:=Addr->Option HO
def upd(H:Hp)(a:Addr)(o:HO):Hp:=λb=>if b=a then some o else H b
theorem c0{a:Addr}:upd H a o a=some o:=by unfold upd;rw[ah rfl]
theorem aE{a b:Addr}(h:b≠a):upd H a o b=H b:=by unfold upd;rw[ae h]
theorem Wh{a:Addr}:upd (upd H a o) a u=upd H a u:=by
 funext b;unfold upd;split<;>rfl
theorem jx{H:Hp}{a b:Addr}{o u:HO}(h:H a=some o)(h':H b=some u)(d:o≠u):a≠b:=by
 intro e;subst e;rw[h]at h';exact d (dz h')
theorem d9{H:Hp}{a b:Addr}{o:HO}(h:H a=some o)(h':H b=none):a≠b:=by
 intro e;subst e;rw[h]at h';cases h'
section
variable(P:Program)(w:World)
noncomputable def aD (H:Hp)(h:Heap)(a:Addr):HO->Prop
 | .lst b=>b.length<=sizeLine/\∃(ab:ak) (n:Nat),Vals b ab/\h.get? a=some { cls:=.type "list",data:=.seq ab.toArray n }
 | .tup b=>b.length<=sizeLine/\∃ab:ak,Vals b ab/\IsTup h a ab.toArray
 | .dK kvs=>kvs.length<=sizeLine/\(a==sysModules)=false/\∃vs,KV kvs vs/\h.DictOf (c6 P w) a vs
 | .dT kvs=>kvs.length<=sizeLine/\(a==sysModules)=false/\∃b:List (List bB×Addr×Value),
  Paired (λ(p:List bB×V) (q:List bB×Addr×Value)=>p.1=q.1/\H q.2.1=some (.tup (p.1.map oV))/\RelV p.2 q.2.2) kvs b/\
  ∃o d i,h.get? a=some o/\o.ExactDict/\o.data= .dict d i/\d.toList=b.map (entryOfKey (tupleKind (optKind P w)))/\(b.map (·.1)).Nodup
 | .set S n=>h.SetOf (intKind P w) a S n
 | .ins C dx fs=>H dx=some (.own a)/\fs.length<=1000/\dx≠a/\h.get? a=some (oC C dx)/\
  ∃c,h.Ns1 dx c/\(∀f,bK (fs.lookup f) (c f))/\PySem.Within c (fs.map (·.1))
 | .own _=>∃o,h.get? a=some o
 | .xd fs=>∃c,h.Ns1 a c/\∀f,bK (fs.lookup f) (c f)
 | .qE lo hi=>∃t u v,h.get? a=some { cls:=.type "range",data:=.fields #[.int lo t,.int hi u,.int 1 v] }
 | .aZ o u=>h.get? a=some o/\aD H h a u
 | .oz ps=>h.get? a=some { cls:=.none,data:=.fields ps }
 | .met f x=>h.get? a=some (PySem.W.methodObj (.ref f) (.ref x))
 | .ext φ=>φ h/\(∃o,h.get? a=some o)/\∀e g:Heap,φ e->(∀o,e.get? a=some o->g.get? a=some o)->φ g
def cJ(H:Hp)(h:Heap):Prop:=∀a o,H a=some o->aD P w H h a o
end
section
variable {P:Program}{w:World}{H H':Hp}{h h':Heap}{a:Addr}{o:HO}
theorem aD.lt(x:aD P w H h a o):a<h.objs.size:=by
 cases o with
 |lst xs=>obtain⟨_,_,_,_,e⟩:=x;exact bA e
 |tup xs=>obtain⟨_,_,_,p⟩:=x;exact p.lt
 |dK kvs=>obtain⟨_,_,_,_,o,_,_,e,_⟩:=x;exact bA e
 |dT kvs=>obtain⟨_,_,_,_,o,_,_,e,_⟩:=x;exact bA e
 |set S n=>obtain⟨o,_,_,_,e,_⟩:=x;exact bA e
 |ins C dx fs=>obtain⟨_,_,_,e,_⟩:=x;exact bA e
 |own y=>obtain⟨_,e⟩:=x;exact bA e
 |xd fs=>obtain⟨_,⟨_,_,_,e,_⟩,_⟩:=x;exact bA e
 |qE lo hi=>obtain⟨_,_,_,e⟩:=x;exact bA e
 |aZ ob u=>obtain⟨e,_⟩:=x;exact bA e
 |oz ps=>exact bA (show h.get? a=some _ from x)
 |met f y=>exact bA (show h.get? a=some _ from x)
 |ext φ=>obtain⟨_,⟨_,e⟩,_⟩:=x;exact bA e
theorem Paired.pC{F G:α->β->Prop}:∀{c:List α} {l₂:List β},Paired F c l₂->(∀a b,F a b->G a b)->Paired G c l₂
 |_,_,.nil,_=>.nil
 |_,_,.cons r t,f=>.cons (f _ _ r) (Paired.pC t f)
theorem aD.ej(x:aD P w H h a o)(k:∀b u,(b=a∨H b=some (.own a))->h.get? b=some u->h'.get? b=some u)
 (A:∀b,H b=some (.own a)->H' b=some (.own a)) (D:∀b j,H b=some (.tup j)->H' b=some (.tup j)):aD P w H' h' a o:=by
 induction o with
 |lst j=>obtain⟨z,ab,n,r,e⟩:=x;exact⟨z,ab,n,r,k _ _ (.inl rfl) e⟩
 |tup j=>obtain⟨z,ab,r,ob,e,c⟩:=x;exact⟨z,ab,r,ob,k _ _ (.inl rfl) e,c⟩
 |dK kvs=>obtain⟨z,y,vs,r,ob,i,g,e,c⟩:=x;exact⟨z,y,vs,r,ob,i,g,k _ _ (.inl rfl) e,c⟩
 |dT kvs=>
  obtain⟨z,y,j,r,ob,i,g,e,c⟩:=x;exact⟨z,y,j,Paired.pC r λp q z=>⟨z.1,D _ _ z.2.1,z.2.2⟩,ob,i,g,k _ _ (.inl rfl) e,c⟩
 |set S n=>obtain⟨ob,i,g,t,e,c⟩:=x;exact⟨ob,i,g,t,k _ _ (.inl rfl) e,c⟩
 |ins C dx fs=>
  obtain⟨d,z,E,e,l,⟨m,i,g,s,c⟩,r⟩:=x;exact⟨A _ d,z,E,k _ _ (.inl rfl) e,l,⟨m,i,g,k _ _ (.inr d) s,c⟩,r⟩
 |own y=>obtain⟨ob,e⟩:=x;exact⟨ob,k _ _ (.inl rfl) e⟩
 |xd fs=>obtain⟨l,⟨m,i,g,e,c⟩,r⟩:=x;exact⟨l,⟨m,i,g,k _ _ (.inl rfl) e,c⟩,r⟩
 |qE lo hi=>obtain⟨t,u,v,e⟩:=x;exact⟨t,u,v,k _ _ (.inl rfl) e⟩
 |aZ ob u ih=>obtain⟨e,q⟩:=x;exact⟨k _ _ (.inl rfl) e,ih q⟩
 |oz ps=>
  have e:h.get? a=some { cls:=.none,data:=.fields ps }:=x;show h'.get? a=some { cls:=.none,data:=.fields ps };exact k a _ (.inl rfl) e
 |met f y=>
  have e:h.get? a=some (PySem.W.methodObj (.ref f) (.ref y)):=x;show h'.get? a=some (PySem.W.methodObj (.ref f) (.ref y));exact k a _ (.inl rfl) e
 |ext φ=>obtain⟨p,⟨o,e⟩,st⟩:=x;exact⟨st _ _ p λo q=>k _ _ (.inl rfl) q,⟨o,k _ _ (.inl rfl) e⟩,st⟩
theorem cJ.lt(x:cJ P w H h)(e:H a=some o):a<h.objs.size:=(x a o e).lt
theorem cJ.fresh(x:cJ P w H h)(e:h.objs.size<=a):H a=none:=by
 cases q:H a with
 |none=>rfl
 |some u=>exact aS (fq (x.lt q) e) (ke _)
theorem cJ.kept(x:cJ P w H h)(k:∀b u,h.get? b=some u->h'.get? b=some u):cJ P w H h':=λa o e=>
 (x a o e).ej (λb u _ q=>k b u q) (λ_ q=>q) λ_ _ q=>q
theorem cJ.laid(x:cJ P w H h)(k:∀b u,h.get? b=some u->h'.get? b=some u)(i:h.objs.size<=a)(d:aD P w (upd H a o) h' a o):cJ P w (upd H a o) h':=λb u e=>by
 have g:=x.fresh i
 by_cases f:b=a
 . subst f;rw[c0]at e;cases e;exact d
 . rw[aE f]at e
   exact(x b u e).ej (λc v _ q=>k c v q) (λc q=>by rw[aE (d9 q g)];exact q) λc j q=>by rw[aE (d9 q g)];exact q
end
def Rd(H:Hp)(a:Addr)(u:HO):Prop:=H a=some u∨∃o,H a=some (.aZ o u)
theorem Rd.ok{P:Program}{a:Addr}(r:Rd H a u)(x:cJ P w H h):aD P w H h a u:=by
 rcases r with r|⟨o,r⟩
 . exact x a u r
 . obtain⟨_,q⟩:=x a _ r
   exact q
noncomputable def tK:Option HO->Prop
 |some (.lst _)=>True
 |some (.dK _)=>True
 |some (.dT _)=>True
 |some (.set _ _)=>True
 |some (.ins _ _ _)=>True
 |some (.ext _)=>True
 |_=>False
section
variable {P:Program}{w:World}{H:Hp}{h h':Heap}{x e:Addr}{o':HO}
theorem cJ.write(A:cJ P w H h)(j:tK (H x))(o:e=x∨H e=some (.own x))(k:∀b u,b≠e->h.get? b=some u->h'.get? b=some u)(m:∃u,h'.get? e=some u)
 (n:aD P w (upd H x o') h' x o'):cJ P w (upd H x o') h':=λb u q=>by
 have d:∀c y,H c=some (.own y)->c≠x:=λc y r z=>by subst z;rw[r]at j;exact j
 have f:∀c l,H c=some (.tup l)->c≠x:=λc l r z=>by subst z;rw[r]at j;exact j
 by_cases g:b=x
 . subst g;rw[c0]at q;cases q;exact n
 . rw[aE g]at q
   by_cases a:b=e
   . have s:H b=some (.own x):=by
      rcases o with z|z
      . exact aS (a.trans z) g
      . rw[a];exact z
     rw[q]at s;cases s;obtain⟨v,t⟩:=m;exact⟨v,by rw[a];exact t⟩
   . refine(A b u q).ej (λc v i r=>k c v ?_ r) (λc r=>by rw[aE (d c b r)];exact r) λc l r=>by rw[aE (f c l r)];exact r
     rcases i with rfl|i
     . exact a
     . rintro rfl
       rcases o with z|z
       . exact d c b i z
       . rw[i]at z;cases z;exact g rfl
end
structure Un(fs ex:List Addr)(H H':Hp)(h h':Heap):Prop where
 keep:∀b o,h.get? b=some o->H b=none->b∉fs->b∉ex->h'.get? b=some o
 slot:∀b o,h.get? b=some o->H b=none->b∈fs->b∉ex->∃sl,h'.get? b=some { o with slots:=sl }
 free:∀b o,h.get? b=some o->H b=none->b∉ex->H' b=none
 there:∀b o,h.get? b=some o->b∉ex->∃o',h'.get? b=some o'
 bj:∀b xs,H b=some (.tup xs)->H' b=some (.tup xs)
 aK:∀b o u,H b=some (.aZ o u)->H' b=some (.aZ o u)
 et:∀b ps,H b=some (.oz ps)->∃more,H' b=some (.oz (ps++more))
section
variable {fs fs' ex ex':List Addr}{H H1 H2:Hp}{h h1 h2 h':Heap}{a x e:Addr}{o:HO}
theorem Un.any(u:Un fs ex H H1 h h1){b:Addr}{ob:Obj}(q:h.get? b=some ob)(n:H b=none)(hx:b∉ex):∃sl,h1.get? b=some { ob with slots:=sl }:=by
 by_cases c:b∈fs
 . exact u.slot b ob q n c hx
 . exact⟨ob.slots,u.keep b ob q n c hx⟩
theorem Un.kept(k:∀b u,h.get? b=some u->h'.get? b=some u):Un fs ex H H h h':=
 ⟨λb ob q _ _ _=>k b ob q,λb ob q _ _ _=>⟨ob.slots,k b ob q⟩,λ_ _ _ n _=>n,λb ob q _=>⟨ob,k b ob q⟩,λ_ _ q=>q,λ_ _ _ q=>q,λ_ c q=>⟨#[],by rw[q];simp⟩⟩
theorem Un.refl:Un fs ex H H h h:=Un.kept λ_ _ q=>q
theorem Un.laid(k:∀b u,h.get? b=some u->h'.get? b=some u)(d:h.objs.size<=a)(c:H a=none):Un fs ex H (upd H a o) h h' where
 keep:=λb u q _ _ _=>k b u q
 slot:=λb u q _ _ _=>⟨u.slots,k b u q⟩
 free:=λb u q n _=>by rw[aE (cE (fq (bA q) d))];exact n
 there:=λb u q _=>⟨u,k b u q⟩
 bj:=λb f q=>by rw[aE (d9 q c)];exact q
 aK:=λb u f q=>by rw[aE (d9 q c)];exact q
 et:=λb g q=>⟨#[],by rw[aE (d9 q c),q];simp⟩
theorem Un.write(d:tK (H x))(j:e=x∨H e=some (.own x))(k:∀b u,b≠e->h.get? b=some u->h'.get? b=some u)(f:∃u,h'.get? e=some u):Un fs ex H (upd H x o) h h':=by
 have hx:∀b,H b=none->b≠x:=λb n z=>by subst z;rw[n]at d;exact d
 have i:∀b,H b=none->b≠e:=λb n z=>by
  subst z;rcases j with r|r
  . exact hx b n r
  . rw[n]at r;cases r
 have g:∀b u,H b=some u->¬tK (some u)->b≠x:=λb u q nm z=>by subst z;rw[q]at d;exact nm d
 refine⟨λb u q n _ _=>k b u (i b n) q,λb u q n _ _=>⟨u.slots,k b u (i b n) q⟩,λb u q n _=>by rw[aE (hx b n)];exact n,λb u q _=>?_,
  λb l q=>by rw[aE (g b _ q λz=>z)];exact q,λb u l q=>by rw[aE (g b _ q λz=>z)];exact q,λb m q=>⟨#[],by rw[aE (g b _ q λz=>z),q];simp⟩⟩
 by_cases c:b=e
 . subst c;exact f
 . exact⟨u,k b u c q⟩
end
def zH(h:Heap)(H:Hp):List Addr:=(List.range h.objs.size).filter λa=>(H a).isSome
def iK(h:Heap)(H:Hp):Heap:=PySem.W.hideAll h (zH h H)
theorem Kk(h)(H):(iK h H).objs.size=h.objs.size:=PySem.W.hideAll_size _ _
theorem AY{h:Heap}{b:Addr}(e:h.get? b=some o)(n:H b=none):(iK h H).get? b=some o:=
 PySem.W.hideAll_get _ e λhm=>by
  have q:(H b).isSome=true:=(eR.mp hm).2;rw[n]at q;simp at q
theorem LL{b:Addr}(e:(iK h H).get? b=some o):h.get? b=some o/\H b=none:=by
 have a:h.get? b=some o:=PySem.W.of_hideAll (zH h H) e;refine⟨a,?_⟩;cases q:H b with
 |none=>rfl
 |some x=>
  have c:b∈zH h H:=eR.mpr ⟨jL.mpr (bA a),by simp[q]⟩
  have z:(iK h H).get? b=none:=PySem.W.hideAll_none (zH h H) c;rw[z]at e;cases e
noncomputable def yp (g h:Heap)(L:Addr):aH:=(List.range h.objs.size).filterMap λa=>if a=L∨(g.get? a).isSome=true then none else(h.get? a).map λo=>(a,o)
theorem SX{g h:Heap}{L a:Addr}(c:a≠L)(d:g.get? a=none)(b:h.get? a=some o):(a,o)∈yp g h L:=
 wB.mpr ⟨a,jL.mpr (bA b),by simp[c,d,b]⟩
theorem R5{g h:Heap}{p:Addr×Obj}(c:p∈yp g h L):p.1≠L/\g.get? p.1=none/\h.get? p.1=some p.2:=by
 obtain⟨b,_,e⟩:=wB.mp c;split at e
 . cases e
 . rename_i a
   cases q:h.get? b with
   |none=>rw[q]at e;simp at e
   |some u=>
    rw[q]at e;simp only[Option.map_some,j7]at e;subst e;refine⟨λz=>a (.inl z),?_,q⟩
    show g.get? b=none;cases r:g.get? b with
    |none=>rfl
    |some v=>exact(a (.inr (by simp[r]))).elim
def rest(g h:Heap)(L d:Addr):aH:=(yp g h L).filter λp=>decide (p.1≠d)
theorem K8{g h:Heap}{L d a:Addr}(b:a≠L)(c:g.get? a=none)(e:h.get? a=some o)(f:a≠d):(a,o)∈rest g h L d:=
 eR.mpr ⟨SX b c e,fK f⟩
theorem Ve{g h:Heap}:News g L h (yp g h L):=λp d=>let⟨a,b,c⟩:=R5 d;⟨c,a,b⟩
theorem Jr{g h h':Heap}(k:∀b o,g.get? b=some o->h.get? b=some o)(F:Fr g L h' m)(N:News g L h' (rest g h L d)):
 ∀b o,b≠L->b≠d->h.get? b=some o->h'.get? b=some o:=λb o a c e=>by
 cases q:g.get? b with
 |some u=>
  have:=k b u q;rw[e]at this;cases this;exact F.keep b _ q
 |none=>exact(N (b,o) (K8 a q e c)).1
structure Mod(K:ag)(mg:bq)(base:Heap):Prop where
 iq:K.In base
 glob:base.Ns mainGlobals mg
 blt:∃mb,base.Ns builtinsNs mb/\∀x:Str,x≠"__name__"->mb x=bootBuiltins x
 nolimit:base.NoLimit
structure Cx where
 prog:Program
 w:World
 K:ag
 mg:bq
 base:Heap
 A:Around
 N:aB
 s₀:Shared
 H₀:Hp
 env:Env
 outer:List Env
 stack:List Env
 ex:List Addr
 fn:Str->Bool
 calm:Bool
 pn:aH
 xe:aQ
def ik(l:List Env):List Addr:=l.filterMap (·.frame)
abbrev Cx.fs(X:Cx):List Addr:=ik X.outer
def qX(sc:Scope)(x:Str):Prop:=sc.names.lookup x=some .local∨sc.names.lookup x=some .cell∨sc.names.lookup x=some .free
def Loc(sc:Scope)(x:Str):Prop:=sc.names.lookup x=some .local∨sc.names.lookup x=some .cell
def Look(env:Env)(h:Heap)(m:bq)(x:Str)(u:Value):Prop:=
 (env.kindOf x=some .local/\m x=some u)∨((env.kindOf x=some .cell∨env.kindOf x=some .free)/\∃c,env.cells.lookup x=some c/\h.IsCell c (some u))
structure Cx.Ok(X:Cx):Prop where
 mod:Mod X.K X.mg X.base
 kind:X.env.scope.kind= .function
 glob:X.env.globals=mainGlobals
 blt:X.env.builtins=builtinsNs
 above:X.s₀.heap.objs.size<=X.env.locals
 inj:∀x y c,X.env.cells.lookup x=some c->X.env.cells.lookup y=some c->x=y
 has:∀x,(X.env.kindOf x=some .cell∨X.env.kindOf x=some .free)->∃c,X.env.cells.lookup x=some c
 qY:∀x c,X.fn x=true->X.env.cells.lookup x=some c->X.s₀.heap.objs.size<=c
 hd:X.calm=true->X.A.handled=none
 frames:X.A.frames=some X.stack
 wx:X.stack=X.outer∨(X.stack=X.env::X.outer/\X.env.frame=some X.env.locals)
 tW:∀b∈X.ex,b≠X.env.locals/\∀x c,X.env.cells.lookup x=some c->c≠b
 bs:∀b o,X.base.get? b=some o->X.s₀.heap.get? b=some o/\X.H₀ b=none
 jj:X.base.objs.size<=X.s₀.heap.objs.size
 iw:∀b o,X.base.get? b=some o->b∉X.ex
 ib:∀b∈X.ex,b∉X.fs
 dM:X.s₀.heap.FunFrames X.base X.outer
 nN:∀b∈X.fs,X.H₀ b=none
structure Inv(X:Cx)(pins:aH)(σ:List (Option V))(H:Hp)(s:Shared):Prop where
 ok:X.Ok
 os:s.os=X.s₀.os
 bare:AllBare s.gens
 base:Un X.fs X.ex X.H₀ H X.s₀.heap s.heap
 loc:∃m,s.heap.Ns X.env.locals m/\∀(i:Nat) (x:Str) (v:V),X.N[i]? =some x->σ[i]? =some (some v)->qX X.env.scope x->∃u,RelV v u/\Look X.env s.heap m x u
 cell:∀x c,X.env.cells.lookup x=some c->∃v,s.heap.IsCell c v
 free:H X.env.locals=none
 bM:∀x c,X.env.cells.lookup x=some c->H c=none
 pin:∀p∈X.pn++pins,s.heap.get? p.1=some p.2/\H p.1=none/\p.1≠X.env.locals/\p.1∉X.fs/\∀v,p.2.data≠.cell v
 av:cJ X.prog X.w H s.heap
 len:σ.length=X.N.length
section
variable {X:Cx}{pins:aH}{σ:List (Option V)}{H H':Hp}{s:Shared}{h':Heap}
theorem Cx.Ok.Aw(ok:X.Ok){b:Addr}(e:X.base.get? b=some o):b∉X.fs:=λhb=>by
 have:=(ok.dM.mem hb).1;rw[e]at this;cases this
theorem Inv.bs(I:Inv X pins σ H s):∀b o,X.base.get? b=some o->s.heap.get? b=some o/\H b=none:=λb o e=>
 ⟨I.base.keep b o (I.ok.bs b o e).1 (I.ok.bs b o e).2 (I.ok.Aw e) (I.ok.iw b o e),I.base.free b o (I.ok.bs b o e).1 (I.ok.bs b o e).2 (I.ok.iw b o e)⟩
theorem Inv.bk(I:Inv X pins σ H s):∀b o,X.base.get? b=some o->s.heap.get? b=some o:=λb o e=>(I.bs b o e).1
theorem Inv.mod(I:Inv X pins σ H s):Mod X.K X.mg X.base:=I.ok.mod
theorem Inv.de(I:Inv X pins σ H s):X.K.In s.heap:=I.ok.mod.iq.keeps I.bk
theorem Inv.fr(I:Inv X pins σ H s):∃m,Fr X.base X.env.locals s.heap m:=
 let⟨m,hn,_⟩:=I.loc
 ⟨m,hn,I.bk,bQ I.ok.jj I.ok.above⟩
theorem Inv.lt(I:Inv X pins σ H s):X.env.locals<s.heap.objs.size:=let⟨_,hn,_⟩:=I.loc;hn.lt
theorem Inv.sz(I:Inv X pins σ H s):X.s₀.heap.objs.size<=s.heap.objs.size:=bQ I.ok.above (kh I.lt)
theorem Inv.t9(I:Inv X pins σ H s){a:Addr}(h:s.heap.objs.size<=a):a∉X.fs:=λhb=>by
 obtain⟨_,o,ho,_⟩:=I.ok.dM.mem hb;exact aS (fq (bA ho) (bQ I.sz h)) (ke _)
theorem Inv.oP(I:Inv X pins σ H s):∀x c,X.env.cells.lookup x=some c->c≠X.env.locals:=λx c e z=>by
 obtain⟨v,o,f,d⟩:=I.cell x c e;obtain⟨m,⟨i,h,g,b,a,_⟩,_⟩:=I.loc;rw[z,b]at f;cases f;rw[a]at d;cases d
theorem Inv.dM(I:Inv X pins σ H s):s.heap.FunFrames X.base X.outer:=by
 have a:∀(l:List Env),(∀b∈ik l,b∈X.fs)->X.s₀.heap.FunFrames X.base l->s.heap.FunFrames X.base l:=by
  intro l
  induction l with
  |nil=>intro _ _;trivial
  |cons env r ih=>
   intro hs i;obtain⟨h,⟨L,o,f,j,k,g⟩,m⟩:=i;have c:L∈X.fs:=hs L (by unfold ik;rw[List.filterMap_cons,f];exact iR)
   obtain⟨sl,e⟩:=I.base.slot L o k (I.ok.nN L c) c λz=>I.ok.ib L z c
   exact⟨h,⟨L,_,f,j,e,g⟩,ih (λb d=>hs b (by unfold ik;rw[List.filterMap_cons,f];exact gv _ d)) m⟩
 exact a X.outer (λ_ d=>d) I.ok.dM
theorem Inv.stack(I:Inv X pins σ H s):s.heap.FunFrames X.base X.stack:=by
 rcases I.ok.wx with e|⟨e,a⟩
 . rw[e];exact I.dM
 . rw[e]
   obtain⟨m,b,_⟩:=I.loc;refine .cons (by rw[I.ok.kind];decide) a b ?_ I.dM
   exact Heap.get?_none_of_le (bQ I.ok.jj I.ok.above)
theorem Inv.fI(I:Inv X pins σ H s):∀b∈ik X.stack,b∈X.env.locals::X.fs:=λb a=>by
 rcases I.ok.wx with e|⟨e,c⟩
 . rw[e]at a;exact gv _ a
 . rw[e]at a
   unfold ik at a;rw[List.filterMap_cons,c]at a;exact a
theorem Inv.fH(I:Inv X pins σ H s):∀b∈ik X.stack,H b=none:=λb a=>by
 rcases fw.mp (I.fI b a)with e|a
 . rw[e];exact I.free
 . obtain⟨_,o,c,_⟩:=I.ok.dM.mem a
   exact I.base.free b o c (I.ok.nN b a) λz=>I.ok.ib b z a
theorem Inv.step{t':Nat}{d':Drawn}{ch:List Addr}(I:Inv X pins σ H s)
 (hch:∀b∈ch,(b∈X.ex∨X.s₀.heap.objs.size<=b)/\b≠X.env.locals/\(∀x c,X.env.cells.lookup x=some c->c≠b)/\∀p∈X.pn++pins,p.1≠b)
 (keep:∀b o,b≠X.env.locals->b∉X.fs->b∉ch->s.heap.get? b=some o->H b=none->h'.get? b=some o)
 (slot:∀b o,b≠X.env.locals->b∈X.fs->b∉ch->s.heap.get? b=some o->H b=none->∃sl,h'.get? b=some { o with slots:=sl }) (free:∀b o,b∉ch->s.heap.get? b=some o->H b=none->H' b=none)
 (there:∀b o,b∉ch->s.heap.get? b=some o->∃o',h'.get? b=some o')
 (bj:∀b xs,H b=some (.tup xs)->H' b=some (.tup xs)) (aK:∀b o u,H b=some (.aZ o u)->H' b=some (.aZ o u)) (et:∀b ps,H b=some (.oz ps)->∃more,H' b=some (.oz (ps++more)))
 (ns:∀m,s.heap.Ns X.env.locals m->h'.Ns X.env.locals m) (av:cJ X.prog X.w H' h') (hg:AllBare g'):
 Inv X pins σ H' { s with heap:=h',gens:=g',drawn:=d',toks:=t' }:=by
 have neL:∀b o,X.s₀.heap.get? b=some o->b≠X.env.locals:=λb o e=>cE (fq (bA e) I.ok.above)
 have neC:∀b o,X.s₀.heap.get? b=some o->b∉X.ex->b∉ch:=λb o e hx hb=>by
  rcases(hch b hb).1 with z|z
  . exact hx z
  . exact aS (fq (bA e) z) (ke _)
 have cellK:∀x c,X.env.cells.lookup x=some c->∀v,s.heap.IsCell c v->h'.IsCell c v:=λx c e v ⟨o,ho,hd⟩=>by
  have nch:c∉ch:=λz=>(hch c z).2.2.1 x c e rfl
  by_cases hc:c∈X.fs
  . obtain⟨sl,q⟩:=slot c o (I.oP x c e) hc nch ho (I.bM x c e)
    exact⟨_,q,hd⟩
  . exact⟨o,keep c o (I.oP x c e) hc nch ho (I.bM x c e),hd⟩
 refine⟨I.ok,I.os,hg,⟨λb o e n hb hx=>?_,λb o e n hb hx=>?_,λb o e n hx=>?_,λb o e hx=>?_,λb xs e=>bj b xs (I.base.bj b xs e),λb o xs e=>aK b o xs (I.base.aK b o xs e),λb ps e=>?_⟩,?_,λx c e=>?_,?_,λx c e=>?_,λp hp=>?_,av,I.len⟩
 . exact keep b o (neL b o e) hb (neC b o e hx) (I.base.keep b o e n hb hx) (I.base.free b o e n hx)
 . obtain⟨sl,e1⟩:=I.base.slot b o e n hb hx
   obtain⟨sl',e2⟩:=slot b _ (neL b o e) hb (neC b o e hx) e1 (I.base.free b o e n hx);exact⟨sl',e2⟩
 . obtain⟨o',e1⟩:=I.base.there b o e hx
   exact free b o' (neC b o e hx) e1 (I.base.free b o e n hx)
 . obtain⟨o',e1⟩:=I.base.there b o e hx
   exact there b o' (neC b o e hx) e1
 . obtain⟨m1,e1⟩:=I.base.et b ps e
   obtain⟨m2,e2⟩:=et b _ e1;exact⟨m1++m2,by rw[e2,Array.append_assoc]⟩
 . obtain⟨m,hn,hl⟩:=I.loc
   refine⟨m,ns m hn,λi x v e1 e2 e3=>?_⟩
   obtain⟨u,r,l⟩:=hl i x v e1 e2 e3;refine⟨u,r,?_⟩;rcases l with l|⟨k,c,e,z⟩
   . exact .inl l
   . exact .inr ⟨k,c,e,cellK x c e _ z⟩
 . obtain⟨v,z⟩:=I.cell x c e
   exact⟨v,cellK x c e v z⟩
 . obtain⟨m,⟨o,_,_,ho,_⟩,_⟩:=I.loc
   exact free _ o (λz=>(hch _ z).2.1 rfl) ho I.free
 . obtain⟨v,o,ho,hd⟩:=I.cell x c e
   exact free c o (λz=>(hch c z).2.2.1 x c e rfl) ho (I.bM x c e)
 . obtain⟨e,n,ne,nf,d⟩:=I.pin p hp
   have nch:p.1∉ch:=λz=>(hch p.1 z).2.2.2 p hp rfl
   exact⟨keep p.1 p.2 ne nf nch e n,free p.1 p.2 nch e n,ne,nf,d⟩
theorem Inv.un(I:Inv X pins σ H s)(u:Un X.fs [] H H' s.heap h')(h:cJ X.prog X.w H' h'):Inv X pins σ H' { s with heap:=h',toks:=t' }:=by
 obtain⟨m,⟨o,t,l,g,r⟩,_⟩:=id I.loc;obtain⟨sl,i⟩:=u.any g I.free (by simp)
 exact I.step (g':=s.gens) (d':=s.drawn) (ch:=[]) (λ_ z=>nomatch z) (λb o _ f _ e n=>u.keep b o e n f (by simp)) (λb o _ f _ e n=>u.slot b o e n f (by simp)) (λb o _ e n=>u.free b o e n (by simp)) (λb o _ e=>u.there b o e (by simp)) u.bj u.aK u.et (λm' j=>by
  obtain⟨v,d,c,a,k⟩:=j;rw[g]at a;cases a;exact⟨_,d,c,i,k⟩) h I.bare
theorem Inv.call{ch:List Addr}(I:Inv X pins σ H s)(u:Un (ik X.stack) ch H H' s.heap h')(k:cJ X.prog X.w H' h')(t:AllBare g')
 (d:∀b∈ch,(b∈X.ex∨X.s₀.heap.objs.size<=b)/\b≠X.env.locals/\(∀x c,X.env.cells.lookup x=some c->c≠b)/\∀p∈X.pn++pins,p.1≠b):
 Inv X pins σ H' { s with heap:=h',gens:=g',drawn:=d',toks:=t' }:=by
 obtain⟨m,⟨o,A,y,j,r⟩,_⟩:=id I.loc;obtain⟨sl,i⟩:=u.any j I.free λz=>(d _ z).2.1 rfl
 exact I.step (ch:=ch) d (λb o i l a e n=>u.keep b o e n (λz=>(fw.mp (I.fI b z)).elim i l) a) (λb o _ _ a e n=>u.any e n a) (λb o a e n=>u.free b o e n a) (λb o a e=>u.there b o e a) u.bj u.aK u.et (λm' v=>by
  obtain⟨C,h,g,f,w⟩:=v;rw[j]at f;cases f;exact⟨_,h,g,i,w⟩) k t
theorem Inv.turned(I:Inv X pins σ H s)(k:∀b o,b≠it->s.heap.get? b=some o->h'.get? b=some o)(w:H it=none)(f:it≠X.env.locals)
 (i:it∈X.ex∨X.s₀.heap.objs.size<=it) (j:∀x c,X.env.cells.lookup x=some c->c≠it) (l:∀p∈X.pn++pins,p.1≠it):Inv X pins σ H { s with heap:=h',toks:=t' }:=by
 have d:∀b u,H b=some u->b≠it:=λb u e z=>by rw[z,w]at e;cases e
 refine I.step (g':=s.gens) (d':=s.drawn) (ch:=[it]) (λb m=>?_) (λb o _ _ a e _=>k b o (λz=>a (by simp[z])) e) (λb o _ _ a e _=>⟨o.slots,k b o (λz=>a (by simp[z])) e⟩) (λ_ _ _ _ n=>n)
  (λb o a e=>⟨o,k b o (λz=>a (by simp[z])) e⟩) (λ_ _ e=>e) (λ_ _ _ e=>e) (λb A e=>⟨#[],by rw[e];simp⟩) (λm t=>?_) (λb u e=>?_) I.bare
 . have e:b=it:=by simpa using m
   subst e;exact⟨i,f,j,l⟩
 . obtain⟨o,h,g,y,r⟩:=t
   exact⟨o,h,g,k _ o (cN f) y,r⟩
 . refine(I.av b u e).ej (λc v a q=>k c v ?_ q) (λ_ q=>q) λ_ _ q=>q
   rcases a with z|z
   . rw[z];exact d b u e
   . exact d c _ z
theorem Inv.tok(I:Inv X pins σ H s)(t:Nat):Inv X pins σ H { s with toks:=t }:=I.un (h':=s.heap) (t':=t) Un.refl I.av
theorem Inv.kept(I:Inv X pins σ H s)(k:∀b u,s.heap.get? b=some u->h'.get? b=some u):Inv X pins σ H { s with heap:=h',toks:=t' }:=I.un (Un.kept k) (I.av.kept k)
theorem Inv.laid{a:Addr}(I:Inv X pins σ H s)(k:∀b u,s.heap.get? b=some u->h'.get? b=some u)(c:s.heap.objs.size<=a)(d:aD X.prog X.w (upd H a o) h' a o):
 Inv X pins σ (upd H a o) { s with heap:=h',toks:=t' }:=I.un (Un.laid k c (I.av.fresh c)) (I.av.laid k c d)
theorem Inv.write{x e:Addr}(I:Inv X pins σ H s)(f:tK (H x))(d:e=x∨H e=some (.own x))(k:∀b u,b≠e->s.heap.get? b=some u->h'.get? b=some u)(a:∃u,h'.get? e=some u)
 (c:aD X.prog X.w (upd H x o) h' x o):Inv X pins σ (upd H x o) { s with heap:=h',toks:=t' }:=I.un (Un.write f d k a) (I.av.write f d k a c)
theorem Inv.eE(I:Inv X pins σ H s)(h:∀p∈a,s.heap.get? p.1=some p.2/\H p.1=none/\p.1≠X.env.locals/\p.1∉X.fs/\∀v,p.2.data≠.cell v):Inv X a σ H s:=
 ⟨I.ok,I.os,I.bare,I.base,I.loc,I.cell,I.free,I.bM,λp b=>(eS.mp b).elim (λz=>I.pin p (zL _ z)) (h p),I.av,I.len⟩
theorem K5{N:aB}(d:N.Nodup){i j:Nat}{x:Str}(a:N[i]? =some x)(b:N[j]? =some x):i=j:=by
 obtain⟨e,e1⟩:=jG.mp a;obtain⟨f,c⟩:=jG.mp b;exact(List.getElem_inj d).mp (e1.trans c.symm)
theorem J9{i:Nat}{x:Str}{v:V}(I:Inv X pins σ H s)(hN:X.N.Nodup)(hi:X.N[i]? =some x)(hx:Loc X.env.scope x)(r:RelV v u)
 (h:∀s',Inv X pins (σ.set i (some v)) H s'->(∃a,Heap.SameBut a s.heap s'.heap/\(a=X.env.locals∨X.env.cells.lookup x=some a))->Q () s') (hf:X.fn x=true∨X.env.scope.names.lookup x=some .local):wpAny M A (storeName X.env x u) Q E s:=by
 obtain⟨m,hn,hl⟩:=id I.loc;have O:(X.env.scope.kind== .class||(X.env.scope.kind== .module&&X.env.locals != X.env.globals))=false:=by rw[I.ok.kind];rfl
 have w:i<σ.length:=by rw[I.len];exact(jG.mp hi).1
 have oP:=I.oP;have f:∀{a:Addr} {h':Heap},(∃o,s.heap.get? a=some o/\H a=none)->Heap.SameBut a s.heap h'->cJ X.prog X.w H h':=λ{a h'} ha hs b ob e=>by
  obtain⟨_,_,l⟩:=ha;refine(I.av b ob e).ej (λc Z g q=>(hs.2 c ?_).trans q) (λ_ q=>q) λ_ _ q=>q
  rintro rfl;rcases g with rfl|g
  . rw[l]at e;cases e
  . rw[l]at g;cases g
 rcases hx with C|C
 . refine wpAny_storeName_local C hn (λh' hn' hs=>?_) O
   obtain⟨oL,_,_,hoL,_⟩:=id hn;refine h _ ⟨I.ok,I.os,I.bare,⟨λb o e n D hx=>?_,λb o e n D hx=>?_,I.base.free,λb o e hx=>?_,I.base.bj,I.base.aK,I.base.et⟩,⟨_,hn',λj y v' e1 t e3=>?_⟩,λy c e=>?_,I.free,I.bM,λp hp=>?_,f ⟨oL,hoL,I.free⟩ hs,by simpa using I.len⟩ ⟨_,hs,.inl rfl⟩
   . exact(hs.2 b (cE (fq (bA e) I.ok.above))).trans (I.base.keep b o e n D hx)
   . obtain⟨sl,e1⟩:=I.base.slot b o e n D hx
     exact⟨sl,(hs.2 b (cE (fq (bA e) I.ok.above))).trans e1⟩
   . obtain⟨o',e1⟩:=I.base.there b o e hx
     exact⟨o',(hs.2 b (cE (fq (bA e) I.ok.above))).trans e1⟩
   . by_cases J:j=i
     . subst J
       rw[hi]at e1;cases e1;rw[List.getElem?_set_self w]at t;cases t;exact⟨u,r,.inl ⟨C,by simp⟩⟩
     . rw[List.getElem?_set_ne (cN J)]at t
       obtain⟨u',r',q⟩:=hl j y v' e1 t e3;refine⟨u',r',?_⟩;rcases q with⟨k,e⟩|⟨k,c,e,z⟩
       . refine .inl ⟨k,?_⟩
         have:y≠x:=λe=>J (K5 hN e1 (e ▸ hi))
         simp[this,e]
       . exact .inr ⟨k,c,e,z.sameBut hs (oP y c e)⟩
   . obtain⟨Z,z⟩:=I.cell y c e
     exact⟨Z,z.sameBut hs (oP y c e)⟩
   . obtain⟨e,n,Y,nf,d⟩:=I.pin p hp
     exact⟨(hs.2 p.1 Y).trans e,n,Y,nf,d⟩
 . have F:X.fn x=true:=by
    rcases hf with z|z
    . exact z
    . rw[z]at C;cases C
   obtain⟨c,g⟩:=I.ok.has x (.inl C);obtain⟨Z,z⟩:=I.cell x c g;refine wpAny_storeName_cell I.ok.kind C g z (λh' L hs=>?_)
   obtain⟨oc,R,U⟩:=id z;refine h { s with heap:=h' } ⟨I.ok,I.os,I.bare,⟨λb o e n D hx=>?_,λb o e n D hx=>?_,I.base.free,λb o e hx=>?_,I.base.bj,I.base.aK,I.base.et⟩,⟨m,hn.sameBut hs (cN (oP x c g)),λj y v' e1 t e3=>?_⟩,λy W e=>?_,I.free,I.bM,λp hp=>?_,f ⟨oc,R,I.bM x c g⟩ hs,by simpa using I.len⟩ ⟨c,hs,.inr g⟩
   . exact(hs.2 b (cE (fq (bA e) (I.ok.qY x c F g)))).trans (I.base.keep b o e n D hx)
   . obtain⟨sl,e1⟩:=I.base.slot b o e n D hx
     exact⟨sl,(hs.2 b (cE (fq (bA e) (I.ok.qY x c F g)))).trans e1⟩
   . obtain⟨o',e1⟩:=I.base.there b o e hx
     exact⟨o',(hs.2 b (cE (fq (bA e) (I.ok.qY x c F g)))).trans e1⟩
   . by_cases J:j=i
     . subst J
       rw[hi]at e1;cases e1;rw[List.getElem?_set_self w]at t;cases t;exact⟨u,r,.inr ⟨.inl C,c,g,L⟩⟩
     . rw[List.getElem?_set_ne (cN J)]at t
       obtain⟨u',r',q⟩:=hl j y v' e1 t e3;refine⟨u',r',?_⟩;rcases q with q|⟨k,W,e,z'⟩
       . exact .inl q
       . refine .inr ⟨k,W,e,z'.sameBut hs ?_⟩
         rintro rfl;exact J (K5 hN e1 (I.ok.inj _ _ _ e g ▸ hi))
   . by_cases N:W=c
     . subst N;exact⟨_,L⟩
     . obtain⟨w2,z2⟩:=I.cell y W e
       exact⟨w2,z2.sameBut hs N⟩
   . obtain⟨e,n,Y,nf,d⟩:=I.pin p hp
     refine⟨(hs.2 p.1 ?_).trans e,n,Y,nf,d⟩;intro q;rw[q,R]at e;have q':oc=p.2:=dz e;exact d Z (by rw[<-q'];exact U)
theorem yg{i:Nat}{x:Str}{v:V}{Q:Unit->Shared->Prop}(I:Inv X pins σ H s)(hN:X.N.Nodup)(hi:X.N[i]? =some x)(hx:Loc X.env.scope x)(r:RelV v u)
 (h:∀s',Inv X pins (σ.set i (some v)) H s'->Q () s') (hf:X.fn x=true∨X.env.scope.names.lookup x=some .local):wpAny M A (storeName X.env x u) Q E s:=
 J9 I hN hi hx r (λs' I' _=>h s' I') hf
theorem Inv.tN{a:Shared}{ch:List Addr}(I:Inv X pins σ H s)(h:a.os=s.os)(u:Un (ik X.stack) ch H H' s.heap a.heap)(f:cJ X.prog X.w H' a.heap)(g:AllBare a.gens)
 (d:∀b∈ch,(b∈X.ex∨X.s₀.heap.objs.size<=b)/\b≠X.env.locals/\(∀x c,X.env.cells.lookup x=some c->c≠b)/\∀p∈X.pn++pins,p.1≠b):Inv X pins σ H' a:=by
 obtain⟨h',g',d',t',i⟩:=a;have e:i=s.os:=h;subst e;exact I.call (g':=g') (t':=t') (d':=d') u f g d
end
abbrev XK:=Value->Option Addr->Hp->Prop
abbrev St:=List (Option V)
abbrev VK:=V->Hp->Prop
abbrev TE:=St->Hp->VK->Prop
abbrev TT:=St->Hp->(Bool->Hp->Prop)->Prop
abbrev TA:=St->Hp->(LV->Hp->Prop)->Prop
structure Ends where
 nx:St->Hp->Prop
 rt:VK
 bk:St->Hp->Prop:=λ_ _=>False
 ct:St->Hp->Prop:=λ_ _=>False
abbrev TS:=Ends->St->Hp->Prop
def EP(X:Cx)(a:aH)(σ:St)(Q:VK)(u:Value)(c:Shared):Prop:=∃v b,Inv X a σ b c/\RelV v u/\Q v b
def TP(X:Cx)(a:aH)(σ:St)(Q:Bool->Hp->Prop)(b:Bool)(d:Shared):Prop:=∃c,Inv X a σ c d/\Q b c
def AP(X:Cx)(a:aH)(σ:St)(Q:LV->Hp->Prop)(us:ak)(c:Shared):Prop:=∃vs b,Inv X a σ b c/\Vals vs us/\Q vs b
def SP(X:Cx)(b:aH)(D:Ends)(f:Flow)(d:Shared):Prop:=
 match f with
 | .next=>∃a c,Inv X b a c d/\D.nx a c
 | .brk=>∃a c,Inv X b a c d/\D.bk a c
 | .cont=>∃a c,Inv X b a c d/\D.ct a c
 | .ret u=>∃v a c,Inv X b a c d/\RelV v u/\D.rt v c
def PE(X:Cx)(e:Expr)(t:TE):Prop:=
 ∀a s b H Q,Inv X a b H s->t b H Q->wpAny (model X.prog X.w) X.A (eval e X.env) (EP X a b Q) X.xe s
def PT(X:Cx)(e:Expr)(t:TT):Prop:=
 ∀(a:aH) (s:Shared) (σ:St) (H:Hp) (Q:Bool->Hp->Prop),Inv X a σ H s->t σ H Q->wpAny (model X.prog X.w) X.A (isTrue e X.env (eval e X.env)) (TP X a σ Q) X.xe s
def PW(X:Cx)(e:Expr)(t:TT):Prop:=
 ∀(a:Sem Value) (pins:aH) (s:Shared) (σ:St) (H:Hp) (Q:Bool->Hp->Prop),Inv X pins σ H s->t σ H Q->wpAny (model X.prog X.w) X.A (isTrue e X.env a) (TP X pins σ Q) X.xe s
theorem PW.pt{e:Expr}{t:TT}(h:PW X e t):PT X e t:=h _
def PA(X:Cx)(es:bb)(t:TA):Prop:=
 ∀(a:Pos) (pins:aH) (s:Shared) (σ:St) (H:Hp) (Q:LV->Hp->Prop),Inv X pins σ H s->t σ H Q->wpAny (model X.prog X.w) X.A (spliced (backTo a (starEach es X.env))) (AP X pins σ Q) X.xe s
def PS(X:Cx)(st:Stmt)(t:TS):Prop:=
 ∀a s b H D,Inv X a b H s->t D b H->wpAny (model X.prog X.w) X.A (exec st X.env) (SP X a D) X.xe s
def fY(X:Cx)(st:List Stmt)(t:TS):Prop:=
 ∀a s b H D,Inv X a b H s->t D b H->wpAny (model X.prog X.w) X.A (execs st X.env) (SP X a D) X.xe s
theorem az{t:Sem α}{s:Shared}(h:wpAny M A t Q E s)(b:∀a s,Q a s->Q' a s):wpAny M A t Q' E s:=gw h b λ_ _ x=>x
section
variable {X:Cx}
def QO(i:Nat):TE:=λσ H Q=>∃v,σ[i]? =some (some v)/\Q v H
def tC(v:V):TE:=λ_ H Q=>Q v H
theorem YL{i:Nat}{x:Str}(k:X.N[i]? =some x)(w:qX X.env.scope x)(f:(x==("__debug__":Str))=false:=by decide)(d:(x==("__classdict__":Str))=false:=by decide):PE X (.Name x pos) (QO i):=by
 intro b s y H Q I h;obtain⟨v,e,h⟩:=h;obtain⟨m,t,n⟩:=I.loc;obtain⟨u,r,l⟩:=n i x v k e w;have fin:EP X b y Q u s:=⟨v,H,I,r,h⟩;rcases l with⟨a,o⟩|⟨a,c,j,g⟩
 . exact wpAny_Name (wpAny_loadName_local I.ok.kind a t o fin) f
 . rcases a with a|a
   . exact wpAny_Name (wpAny_loadName_cell I.ok.kind a j g fin) f
   . exact wpAny_Name (wpAny_loadName_free I.ok.kind a j g fin d) f
theorem Ye{i j pos}:PE X (.Constant (.int i) j pos) (tC (.int i)):=λ_ _ _ H _ I h=>wpAny_Constant_int ⟨.int i,H,I.tok _,⟨_,rfl⟩,h⟩
theorem qyr{b j pos}:PE X (.Constant (.bool b) j pos) (tC (.bl b)):=λ_ _ _ H _ I h=>Constant_bool ⟨.bl b,H,I,rfl,h⟩
theorem YR{j pos}:PE X (.Constant .none j pos) (tC .aq):=λ_ _ _ H _ I h=>Constant_none ⟨.aq,H,I,rfl,h⟩
theorem YN{x j pos}:PE X (.Constant (.str x) j pos) (tC (.str x)):=λ_ _ _ H _ I h=>Calls.Constant_str ⟨.str x,H,I.tok _,⟨_,rfl⟩,h⟩
def Gl(X:Cx)(x:Str):Prop:=X.env.kindOf x=some .globalImplicit
theorem nR{s:Shared}{x:Str}(I:Inv X pins σ H s)(b:Gl X x)(c:X.mg x=some u)(h:Q u s)
 (a:(x==("__debug__":Str))=false:=by decide):wpAny (model X.prog X.w) X.A (eval (.Name x pos) X.env) Q E s:=
 Calls.Name_function_global I.ok.kind b (Calls.loadGlobal_global (by rw[I.ok.glob];exact I.mod.glob.keeps I.bk) c h) a
theorem m4{s:Shared}{x:Str}(I:Inv X pins σ H s)(d:Gl X x)(e:X.mg x=none)(g:bootBuiltins x=some u)(h:Q u s)
 (f:x≠"__name__":=by decide) (c:(x==("__debug__":Str))=false:=by decide):wpAny (model X.prog X.w) X.A (eval (.Name x pos) X.env) Q E s:=by
 obtain⟨i,a,b⟩:=I.mod.blt;exact Calls.Name_function_global I.ok.kind d (Calls.loadGlobal_builtin (by rw[I.ok.glob];exact I.mod.glob.keeps I.bk) e (by rw[I.ok.blt];exact a.keeps I.bk) ((b x f).trans g) h) c
theorem Wu{x:Str}{v:V}(b:Gl X x)(c:X.mg x=some u)(r:RelV v u)(a:(x==("__debug__":Str))=false:=by decide):PE X (.Name x pos) (tC v):=
 λ_ _ _ H _ I h=>nR I b c ⟨v,H,I,r,h⟩ a
theorem Wx{x:Str}{v:V}(b:Gl X x)(c:X.mg x=none)(e:bootBuiltins x=some u)(r:RelV v u)(d:x≠"__name__":=by decide)(a:(x==("__debug__":Str))=false:=by decide):PE X (.Name x pos) (tC v):=
 λ_ _ _ H _ I h=>m4 I b c e ⟨v,H,I,r,h⟩ d a
variable {a b:Expr}{ta tb:TE}{pos:Pos}
def PC(X:Cx)(op:CmpOp)(a b:Expr)(t:TE):Prop:=
 ∀c s f H Q,Inv X c f H s->t f H Q->
  wpAny (model X.prog X.w) X.A (eval a X.env) (λv d=>wpAny (model X.prog X.w) X.A (eval b X.env) (λu e=>wpAny (model X.prog X.w) X.A (compareOp op v u) (EP X c f Q) X.xe e) X.xe d) X.xe s
theorem qkn(b:Expr){op:CmpOp}(h:op≠.In)(d:op≠.NotIn):behindInMarks op b=false:=by
 have e1:(op==CmpOp.In)=false:=by cases op<;>first|rfl|exact aS rfl h
 have c:(op==CmpOp.NotIn)=false:=by cases op<;>first|rfl|exact aS rfl d
 cases b<;>simp[behindInMarks,e1,c]
def tB(t:TE):TT:=λσ H Q=>t σ H λx H1=>∃c,x= .bl c/\Q c H1
theorem Md{op:CmpOp}{t:TE}(h:PC X op a b t)(h1:behindInMarks op b=false):PE X (.Compare a [op] [b] pos) t:=λpins s σ H Q I hw=>wpAny_Compare1 (h pins s σ H Q I hw) h1
theorem BJ{op:CmpOp}{t:TE}(h:PC X op a b t)(e:behindInMarks op b=false):PT X (.Compare a [op] [b] pos) (tB t):=by
 intro c s l H Q I i;refine wpAny_isTrue_Compare1 (az (h c s l H _ I i) λv m e=>az e λu n g=>az g λc o k=>?_) e;obtain⟨x,H1,f,r1,j⟩:=k
 obtain⟨d,rfl,q⟩:=j;cases r1;exact jJ ⟨H1,f,q⟩
theorem YB{e:Expr}{t:TE}(h:PE X e t)(i:∀c,isTrue e X.env c=(do let v<-c;standAt e.pos;holding [v] (truthy v)):=by intro _;rfl):PT X e (tB t):=by
 intro f s m H Q I j;refine isTrue_plain (az (h f s m H _ I j) λv n l=>?_) (i _);obtain⟨x,H1,g,r1,k⟩:=l
 obtain⟨d,rfl,q⟩:=k;cases r1;exact jJ ⟨H1,g,q⟩
variable {tA tB':TT}{rest:bb}
def Qx(t u:TT):TT:=λσ H Q=>t σ H λc H1=>if c=true then u σ H1 Q else Q false H1
def tOr(t u:TT):TT:=λσ H Q=>t σ H λc H1=>if c=true then Q true H1 else u σ H1 Q
def QV(t:TT):TT:=λσ H Q=>t σ H λc H1=>Q (!c) H1
theorem WZ(f:PT X a tA):PW X (.BoolOp .And [a] pos) tA:=by
 intro j d s g H Q I h;refine isTrue_and (az (f d s g H Q I h) λc i e=>?_)
 cases c with
 |true=>exact isTrue_and_nil e
 |false=>exact e
theorem Yz(f:PT X a tA):PW X (.BoolOp .Or [a] pos) tA:=by
 intro j d s g H Q I h;refine isTrue_or (az (f d s g H Q I h) λc i e=>?_)
 cases c with
 |false=>exact isTrue_or_nil e
 |true=>exact e
theorem YA(i:PT X a tA)(j:PW X (.BoolOp .And (b::rest) pos) tB'):PW X (.BoolOp .And (a::b::rest) pos) (Qx tA tB'):=by
 intro l d s g H Q I h;refine isTrue_and (az (i d s g H _ I h) λc k m=>?_);obtain⟨H1,e,f⟩:=m
 cases c with
 |true=>exact j l d k g H1 Q e f
 |false=>exact⟨H1,e,f⟩
theorem qyh(i:PT X a tA)(j:PW X (.BoolOp .Or (b::rest) pos) tB'):PW X (.BoolOp .Or (a::b::rest) pos) (tOr tA tB'):=by
 intro l d s g H Q I h;refine isTrue_or (az (i d s g H _ I h) λc k m=>?_);obtain⟨H1,e,f⟩:=m
 cases c with
 |true=>exact⟨H1,e,f⟩
 |false=>exact j l d k g H1 Q e f
theorem YC(e:PT X a tA):PT X (.UnaryOp .Not a pos) (QV tA):=by
 intro d s f H Q I h;exact isTrue_not (e d s f H (λc H1=>Q (!c) H1) I h)
def qxu(ta tb:TE):TE:=λσ H Q=>ta σ H λx H1=>∃c,x= .bl c/\if c=true then tb σ H1 Q else Q (.bl false) H1
def QU(ta tb:TE):TE:=λσ H Q=>ta σ H λx H1=>∃c,x= .bl c/\if c=true then Q (.bl true) H1 else tb σ H1 Q
def qxl(ta:TE):TE:=λσ H Q=>ta σ H λx H1=>∃c,x= .bl c/\Q (.bl (!c)) H1
theorem YO{op}{t:TE}(h:PE X a t):PE X (.BoolOp op [a] pos) t:=λpins s σ H Q I hw=>BoolOp_one (h pins s σ H Q I hw)
theorem Yh(i:PE X a ta)(j:PE X (.BoolOp .And (b::rest) pos) tb):PE X (.BoolOp .And (a::b::rest) pos) (qxu ta tb):=by
 intro d s g H Q I h;refine BoolOp_and (az (i d s g H _ I h) λv k l=>?_);obtain⟨x,H1,f,r1,e⟩:=l
 obtain⟨c,rfl,e⟩:=e;cases r1;refine jJ ?_;cases c with
 |true=>exact j d k g H1 Q f e
 |false=>exact⟨.bl false,H1,f,rfl,e⟩
theorem qyn(i:PE X a ta)(j:PE X (.BoolOp .Or (b::rest) pos) tb):PE X (.BoolOp .Or (a::b::rest) pos) (QU ta tb):=by
 intro d s g H Q I h;refine BoolOp_or (az (i d s g H _ I h) λv k l=>?_);obtain⟨x,H1,f,r1,e⟩:=l
 obtain⟨c,rfl,e⟩:=e;cases r1;refine jJ ?_;cases c with
 |false=>exact j d k g H1 Q f e
 |true=>exact⟨.bl true,H1,f,rfl,e⟩
theorem YQ(g:PE X a ta):PE X (.UnaryOp .Not a pos) (qxl ta):=by
 intro d s j H Q I h;refine UnaryOp_ (az (g d s j H _ I h) λv k i=>?_);obtain⟨x,H1,f,r1,e⟩:=i
 obtain⟨c,rfl,e⟩:=e;cases r1;exact not_of (jJ ⟨.bl (!c),H1,f,rfl,e⟩)
def tIf(t:TT)(ta tb:TE):TE:=λσ H Q=>t σ H λc H1=>if c=true then ta σ H1 Q else tb σ H1 Q
theorem U0(m:PT X c tA)(k:PE X a ta)(l:PE X b tb):PE X (.IfExp c a b pos) (tIf tA ta tb):=by
 intro e s f H Q I h;refine wpAny_IfExp (az (m e s f H _ I h) λd j n=>?_);obtain⟨H1,g,i⟩:=n
 cases d with
 |true=>exact k e j f H1 Q g i
 |false=>exact l e j f H1 Q g i
end
def cx(K:ag)(H:Hp)(a:Addr)(xs:LV):Prop:=
 Rd H a (.lst xs)∨
  ∃(o:Obj) (ab:Array Value) (n:Nat),K.lookup a=some o/\o.cls= .type "list"/\o.dict=none/\o.data= .seq ab n/\ab.size<=sizeLine/\Vals xs ab.toList
def bL(K:ag)(H:Hp)(a:Addr)(xs:LV):Prop:=
 Rd H a (.tup xs)∨
  ∃(o:Obj) (ab:Array Value) (n:Nat),K.lookup a=some o/\o.cls= .type "tuple"/\o.data= .seq ab n/\ab.size<=sizeLine/\Vals xs ab.toList
noncomputable def RN:Value->Option V
 | .none=>some .aq
 | .bool b=>some (.bl b)
 | .int i _=>some (.int i)
 | .str x _=>some (.str x)
 | .bytes b _=>some (.w5 b)
 | .float b _=>some (.mH b)
 | .ref a=>some (.ref a)
 | .type n=>some (.ty n)
 |_=>none
theorem RelV.abs{x:V}(r:RelV x u):RN u=some x:=by
 cases x with
 |aq=>cases r;rfl
 |bl _=>cases r;rfl
 |int _=>obtain⟨t,rfl⟩:=r;rfl
 |str _=>obtain⟨t,rfl⟩:=r;rfl
 |w5 _=>obtain⟨t,rfl⟩:=r;rfl
 |mH _=>obtain⟨t,rfl⟩:=r;rfl
 |ref _=>cases r;rfl
 |ty _=>cases r;rfl
theorem RelV.inj{x y:V}(r:RelV x u)(q:RelV y u):x=y:=dz (r.abs.symm.trans q.abs)
theorem Vals.inj:∀{xs a:LV} {us:ak},Vals xs us->Vals a us->xs=a
 |_,_,_,.nil,.nil=>rfl
 |_,_,_,.cons r t,.cons r' t'=>by rw[r.inj r',Vals.inj t t']
section
variable {X:Cx}{pins:aH}{σ:St}{H:Hp}{s:Shared}{a:Addr}{xs ys:LV}
theorem cx.of{K:ag}(h:H a=some (.lst xs)):cx K H a xs:=.inl (.inl h)
theorem bL.of{K:ag}(h:H a=some (.tup xs)):bL K H a xs:=.inl (.inl h)
theorem Inv.list(I:Inv X pins σ H s)(h:cx X.K H a xs):∃ab:ak,Vals xs ab/\PlainL s.heap a ab.toArray/\xs.length<=sizeLine:=by
 rcases h with h|⟨o,ab,n,d,b,c,hs,f,r⟩
 . obtain⟨z,ab,n,r,e⟩:=h.ok I.av
   exact⟨ab,r,⟨_,n,e,rfl,rfl,rfl⟩,z⟩
 . refine⟨ab.toList,r,⟨o,n,I.de a o d,b,c,by simpa using hs⟩,?_⟩
   have e:=r.length;simp only[Array.length_toList]at e;omega
theorem Inv.tuple(I:Inv X pins σ H s)(h:bL X.K H a xs):∃ab:ak,Vals xs ab/\IsTup s.heap a ab.toArray/\xs.length<=sizeLine:=by
 rcases h with h|⟨o,ab,n,c,b,hs,d,r⟩
 . obtain⟨z,ab,r,p⟩:=h.ok I.av
   exact⟨ab,r,p,z⟩
 . refine⟨ab.toList,r,⟨o,I.de a o c,b,n,by simpa using hs⟩,?_⟩
   have e:=r.length;simp only[Array.length_toList]at e;omega
theorem Inv.jm(I:Inv X pins σ H s)(h:cx X.K H a xs)(h':cx X.K H a ys):xs=ys:=by
 obtain⟨ab,r,⟨o,n,e,_,_,d⟩,_⟩:=I.list h;obtain⟨b,g,⟨j,i,f,_,_,c⟩,_⟩:=I.list h';rw[e]at f;cases f;rw[d]at c;injection c with d1 _
 have:ab=b:=by simpa using congrArg Array.toList d1
 subst this;exact r.inj g
theorem Inv.iN(I:Inv X pins σ H s)(h:bL X.K H a xs)(h':bL X.K H a ys):xs=ys:=by
 obtain⟨ab,r,⟨o,e,_,n,d⟩,_⟩:=I.tuple h;obtain⟨b,g,⟨j,f,_,i,c⟩,_⟩:=I.tuple h';rw[e]at f;cases f;rw[d]at c;injection c with d1 _
 have:ab=b:=by simpa using congrArg Array.toList d1
 subst this;exact r.inj g
end
noncomputable abbrev Cx.wish (X:Cx) (E:aQ):Cx:={ X with xe:=E }
noncomputable abbrev Cx.rB (X:Cx):Cx:=X.wish λ_ _=>False
theorem Cx.Ok.wish{X:Cx}(a:X.Ok)(E):(X.wish E).Ok:=
 ⟨a.mod,a.kind,a.glob,a.blt,a.above,a.inj,a.has,a.qY,a.hd,a.frames,a.wx,a.tW,a.bs,a.jj,a.iw,a.ib,a.dM,a.nN⟩
theorem Cx.Ok.cq{X:Cx}(a:(X.wish E).Ok):X.Ok:=
 ⟨a.mod,a.kind,a.glob,a.blt,a.above,a.inj,a.has,a.qY,a.hd,a.frames,a.wx,a.tW,a.bs,a.jj,a.iw,a.ib,a.dM,a.nN⟩
section
variable {X:Cx}{pins:aH}{σ:St}{H:Hp}{s:Shared}{E:aQ}
theorem Inv.wish(I:Inv X pins σ H s)(E):Inv (X.wish E) pins σ H s:=⟨I.ok.wish E,I.os,I.bare,I.base,I.loc,I.cell,I.free,I.bM,I.pin,I.av,I.len⟩
theorem Inv.cq(I:Inv (X.wish E) pins σ H s):Inv X pins σ H s:=⟨I.ok.cq,I.os,I.bare,I.base,I.loc,I.cell,I.free,I.bM,I.pin,I.av,I.len⟩
theorem SP.cq(h:SP (X.wish E) pins D f s'):SP X pins D f s':=by
 cases f with
 |next=>obtain⟨a,b,I,q⟩:=h;exact⟨a,b,I.cq,q⟩
 |brk=>obtain⟨a,b,I,q⟩:=h;exact⟨a,b,I.cq,q⟩
 |cont=>obtain⟨a,b,I,q⟩:=h;exact⟨a,b,I.cq,q⟩
 |ret u=>obtain⟨v,a,b,I,r,q⟩:=h;exact⟨v,a,b,I.cq,r,q⟩
theorem fY.rB{st:List Stmt}{t:TS}(h:fY X.rB st t):fY X st t:=λpins s σ H D I a=>
 gw (h pins s σ H D (I.wish _) a) (λ_ _ q=>q.cq) λ_ _ z=>False.elim z
end
section
variable {X:Cx}{st:Stmt}{rest:List Stmt}{t u:TS}{e:Expr}{te:TE}{pos:Pos}
def qxm:TS:=λD a H=>D.nx a H
def QR(t u:TS):TS:=λD a H=>t { D with nx:=u D } a H
theorem W0:fY X [] qxm:=λ_ _ a H _ I h=>wpAny_execs_nil ⟨a,H,I,h⟩
theorem VE(g:PS X st t)(i:fY X rest u):fY X (st::rest) (QR t u):=by
 intro a s k H D I h;refine wpAny_execs_cons (az (g a s k H { D with nx:=u D } I h) λf j q=>?_)
 cases f with
 |next=>
  obtain⟨b,c,d,q⟩:=q;exact i a j b c D d q
 |ret v=>exact q
 |brk=>exact q
 |cont=>exact q
theorem Inv.quiet{s:Shared}(I:Inv X pins σ H s):interactive X.env=false:=by simp[interactive,I.ok.kind]
def qxq(te:TE):TS:=λD a H=>te a H λ_ H1=>D.nx a H1
theorem W3(c:PE X e te)(hs:swapsWith e none pos.line X.env=pure false:=by rfl):PS X (.Expr e pos) (qxq te):=by
 intro a s b H D I h;exact wpAny_Expr_any (az (c a s b H _ I h) λv d ⟨x,H1,I1,r1,q1⟩=>⟨b,H1,I1,q1⟩) I.quiet hs
def QS(te:TE):TS:=λD a H=>te a H D.rt
theorem YE(c:PE X e te):PS X (.Return (some e) pos) (QS te):=by
 intro a s b H D I h;exact wpAny_Return_some (az (c a s b H _ I h) λv d ⟨x,H1,I1,r1,q1⟩=>⟨x,b,H1,I1,r1,q1⟩)
def qxj:TS:=λD _ H=>D.rt .aq H
theorem W2:PS X (.Return none pos) qxj:=λ_ _ a H _ I h=>wpAny_Return_none ⟨.aq,a,H,I,rfl,h⟩
def QX(c:TT)(t u:TS):TS:=λD a H=>c a H λb H1=>if b=true then t D a H1 else u D a H1
theorem qyj{a b:List Stmt}(n:PT X c tc)(l:fY X a t)(m:fY X b u):PS X (.If c a b pos) (QX tc t u):=by
 intro f s g H D I h;refine wpAny_If (az (n f s g H _ I h) λd k o=>?_);obtain⟨H1,i,j⟩:=o
 cases d with
 |true=>exact l f k g H1 D i j
 |false=>exact m f k g H1 D i j
end
abbrev TG:=V->St->Hp->(St->Hp->Prop)->Prop
abbrev nJ:=LV->St->Hp->(St->Hp->Prop)->Prop
def PG(X:Cx)(a:Expr)(t:TG):Prop:=
 ∀(b:aH) (s:Shared) (σ:St) (H:Hp) (v:V) (u:Value) (Q:St->Hp->Prop),Inv X b σ H s->RelV v u->t v σ H Q->
  wpAny (model X.prog X.w) X.A (assign a X.env u) (λ_ e=>∃c d,Inv X b c d e/\Q c d) X.xe s
def oH(X:Cx)(e:bb)(t:nJ):Prop:=
 ∀(a:aH) (s:Shared) (σ:St) (H:Hp) (vs:LV) (us:ak) (Q:St->Hp->Prop),Inv X a σ H s->Vals vs us->t vs σ H Q->
  wpAny (model X.prog X.w) X.A (assignInOrder ((assignEach e X.env).map (·.2)) us) (λ_ d=>∃b c,Inv X a b c d/\Q b c) X.xe s
abbrev zC:=V->V->V->Hp->(Hp->Prop)->Prop
def yY(X:Cx)(t:zC):Prop:=
 ∀(a:aH) (s:Shared) (σ:St) (H:Hp) (o i v:V) (ov iv u:Value) (Q:Hp->Prop),Inv X a σ H s->RelV o ov->RelV i iv->RelV v u->t o i v H Q->
  wpAny (model X.prog X.w) X.A (setItem ov iv u) (λ_ c=>∃b,Inv X a σ b c/\Q b) X.xe s
section
variable {X:Cx}{pos:Pos}
def Cb(i:Nat):TG:=λv a H Q=>Q (a.set i (some v)) H
theorem yC{i:Nat}{x:Str}(c:X.N.Nodup)(hi:X.N[i]? =some x)(hx:Loc X.env.scope x)(d:X.fn x=true∨X.env.scope.names.lookup x=some .local):PG X (.Name x pos) (Cb i):=by
 intro a s e H v u Q I r h;exact wpAny_assign_Name (yg I c hi hx r (λs' b=>⟨_,H,b,h⟩) d)
def GO:nJ:=λvs a H Q=>vs= []/\Q a H
def NU(t:TG)(u:nJ):nJ:=λvs σ H Q=>∃v r,vs=v::r/\t v σ H λσ' H'=>u r σ' H' Q
theorem LF:oH X [] GO:=by
 intro a s b H vs us Q I r h;obtain⟨e,h⟩:=h;subst e;cases r;exact assignInOrder_nil ⟨b,H,I,h⟩
theorem K1{e:Expr}{t:TG}(d:PG X e t)(f:oH X es u)
 (hs:(assignEach (e::es) X.env).map (·.2)=assign e X.env::(assignEach es X.env).map (·.2):=by rfl):oH X (e::es) (NU t u):=by
 intro a s k H vs us Q I r h;obtain⟨v,l,e1,h⟩:=h;subst e1;cases r with
 |cons r rr=>
  rw[hs];refine assignInOrder_cons (az (d a s k H _ _ _ I r h) λ_ i j=>?_);obtain⟨b,H1,c,g⟩:=j
  exact f a i b H1 _ _ Q c rr g
def GN(K:ag)(n:Nat)(t:nJ):TG:=λv c H Q=>∃a b,v= .ref a/\bL K H a b/\b.length=n/\t b c H Q
theorem Mb{t:nJ}{n:Nat}(hc:X.calm=true)(h:oH X es t)
 (hn:(assignEach es X.env).length=n:=by rfl) (hst:(assignEach es X.env).findIdx? (·.1)=none:=by rfl):PG X (.Tuple es k pos) (GN X.K n t):=by
 intro pins s σ H v u Q I r hw;obtain⟨a,xs,e1,hq,hl,hw⟩:=hw;subst e1;cases r;obtain⟨ab,rv,ht,hz⟩:=I.tuple hq;refine assign_Tuple_tuple (I.ok.hd hc) ht (by simp[hn,<-hl,rv.length]) hst λh' hx=>?_
 have I1:Inv X pins σ H { s with heap:=h' }:=I.kept (t':=s.toks) λb o e=>hx b o (cE (bA e)) e
 exact h pins _ σ H xs _ Q I1 (by simpa using rv) hw
def Rb(to ti:TE)(t:zC):TG:=λv σ H Q=>to σ H λo H1=>ti σ H1 λi H2=>t o i v H2 λH3=>Q σ H3
theorem YK{o i:Expr}{t:zC}(ho:PE X o to)(hi:PE X i ti)(hs:yY X t)
 (ha:∀v,assign (.Subscript o i pos) X.env v=(do
  let ov<-holding [v] (eval o X.env)
  let iv<-holding [v,ov] (eval i X.env)
  standAt pos
  holding [v,ov,iv] (setItem ov iv v)
  release [v,ov,iv] []):=by intro _;rfl):PG X (.Subscript o i pos) (Rb to ti t):=by
 intro pins s σ H v u Q I r h;rw[ha];refine aj (jM (az (ho pins s σ H _ I h) λov s1 zz=>?_));obtain⟨x,H1,I1,r1,q1⟩:=zz
 refine aj (jM (az (hi pins s1 σ H1 _ I1 q1) λiv s2 zz=>?_));obtain⟨y,H2,I2,r2,q2⟩:=zz
 refine aj (wpAny_standAt (aj (jM (az (hs pins s2 σ H2 x y v ov iv u _ I2 r1 r2 r q2) λ_ s3 zz=>?_))));obtain⟨H3,I3,q3⟩:=zz
 exact wpAny_release ⟨σ,H3,I3,q3⟩
def E7(b:TE)(g:TG):TS:=λD a H=>b a H λx H1=>g x a H1 D.nx
theorem YI{tg e:Expr}{g:TG}(f:PE X e te)(i:PG X tg g)(hs:swapsWithSole [tg] e pos.line X.env=pure false:=by rfl)(j:swappedStores [tg] e X.env=pure none:=by rfl)
 (d:(assignEach [tg] X.env).map (·.2)= [assign tg X.env]:=by rfl):PS X (.Assign [tg] e pos) (E7 te g):=by
 intro a s b H D I h;refine wpAny_Assign_stores (az (f a s b H _ I h) λv l m=>?_) hs j;obtain⟨x,H1,c,r1,k⟩:=m
 rw[d];exact az (i a l b H1 x v _ c r1 k) λ_ n q=>q
theorem YD{i:Nat}{x:Str}{e:Expr}(d:X.N.Nodup)(hi:X.N[i]? =some x)(hx:Loc X.env.scope x)(f:PE X e te)(hs:swapsWith e (some (.Name x pos')) pos.line X.env=pure false:=by rfl)(g:X.fn x=true∨X.env.scope.names.lookup x=some .local):
 PS X (.Assign [.Name x pos'] e pos) (E7 te (Cb i)):=by
 intro a s l H D I h;refine wpAny_Assign_Name (az (f a s l H _ I h) λv m k=>?_) hs;obtain⟨y,H1,b,r1,j⟩:=k
 exact yg b d hi hx r1 (λs2 c=>⟨_,H1,c,j⟩) g
def QT(i j:Nat)(b:TA):TS:=λD a H=>b a H λvs H1=>∃v w,vs= [v,w]/\D.nx ((a.set i (some v)).set j (some w)) H1
theorem YF{i j:Nat}{x y:Str}{a b:Expr}{k l pt:Pos}{kt k2 pt2}(L:X.calm=true)(t:X.N.Nodup)(hi:X.N[i]? =some x)(M:X.N[j]? =some y)(f:i≠j)
 (hx:X.env.scope.names.lookup x=some .local) (u:X.env.scope.names.lookup y=some .local) (J:PA X [a,b] ta)
 (N:swappedStores [.Tuple [.Name x k,.Name y l] kt pt] (.Tuple [a,b] k2 pt2) X.env=pure (some [x,y]))
 (hs:swapsWithSole [.Tuple [.Name x k,.Name y l] kt pt] (.Tuple [a,b] k2 pt2) pos.line X.env=pure false:=by rfl):
 PS X (.Assign [.Tuple [.Name x k,.Name y l] kt pt] (.Tuple [a,b] k2 pt2) pos) (QT i j ta):=by
 intro c s z H D I h;rw[exec_Assign_arm];refine aj (wpAny_standAt ?_);rw[hs];refine aj (aI ?_);rw[ae (by decide)]
 refine aj (Tuple_ (az (J _ c s z H _ I h) λus d O=>?_));obtain⟨vs,H1,A,r1,m⟩:=O
 obtain⟨v,w,e1,m⟩:=m;subst e1;obtain⟨u1,u2,rfl,rv,n⟩:∃u1 u2,us= [u1,u2]/\RelV v u1/\RelV w u2:=by
  cases r1 with
  |cons p q=>
   cases q with
   |cons p' q'=>
    cases q';exact⟨_,_,rfl,p,p'⟩
 refine j8 ?_ (by show 2<=sizeLine;decide)
 have C:Inv X c z H1 { d with heap:=d.heap.push { cls:=.type "tuple",data:=.seq [u1,u2].toArray } }:=A.kept (t':=d.toks) λb o e=>bz _ e
 rw[N];refine aj (aI ?_);show wpAny (model X.prog X.w) X.A (do rule "assign.swapped-stores";let items<-unpackItems (.ref d.heap.objs.size) 2 none;assignInOrder [λv=>bindName X.env y v,λv=>bindName X.env x v] items.reverse;pure Flow.next) _ _ _
 refine aj (wpAny_rule (aj (unpackItems_tuple (items:=#[u1,u2]) (I.ok.hd L) (IsTup.new d.heap _) λh' g=>?_)))
 have E:=C.kept (h':=h') (t':=d.toks) λb o e=>g b o (cE (bA e)) e
 show wpAny _ _ (assignInOrder [λv=>bindName X.env y v,λv=>bindName X.env x v] [u2,u1] >>= λ_=>pure Flow.next) _ _ _
 refine aj (assignInOrder_cons (wpAny_bindName (yg E t M (.inl u) n (λs2 F=>?_) (.inr u))))
 refine assignInOrder_cons (wpAny_bindName (yg F t hi (.inl hx) rv (λs3 r=>assignInOrder_nil (aI ?_)) (.inr hx)))
 rw[List.set_comm _ _ (cN f)]at r;exact⟨_,H1,r,m⟩
end
structure It where
 go:Nat->Hp->Prop
 Dr:Nat->Hp->V->Hp->Prop
 stop:Nat->Hp->Prop
def ni(X:Cx)(a:aH)(H:Hp)(b:Addr):Prop:=
 H b=none/\b≠X.env.locals/\b∉X.fs/\(b∈X.ex∨X.s₀.heap.objs.size<=b)/\(∀x c,X.env.cells.lookup x=some c->c≠b)/\∀p∈X.pn++a,p.1≠b
theorem Inv.fZ{s:Shared}{b:Addr}(I:Inv X pins σ H s)(a:s.heap.objs.size<=b)(d:H' b=none):ni X pins H' b:=by
 refine⟨d,Nat.ne_of_gt (fq I.lt a),I.t9 a,.inr (bQ I.sz a),λx c e z=>?_,λp f z=>?_⟩
 . obtain⟨v,q⟩:=I.cell x c e
   exact aS (fq q.lt (by rw[z];exact a)) (ke _)
 . exact aS (fq (bA (I.pin p f).1) (by rw[z];exact a)) (ke _)
structure Turn(P:Program)(w:World)(K:ag)(tg:Expr)(J:It)(fp:List Addr)(it:Addr)(tn:Nat->Heap->Prop):Prop where
 mem:it∈fp
 obj:∀i h,tn i h->∀b∈fp,∃o,h.get? b=some o/\∀v,o.data≠.cell v
 keep:∀i h h',tn i h->(∀b∈fp,∀o,h.get? b=some o->h'.get? b=some o)->tn i h'
 item:∀(X:Cx),X.prog=P->X.w=w->X.K=K->X.calm=true->∀(i:Nat) (pins:aH) (s:Shared) (σ:St) (H:Hp) (E:aQ),Inv X pins σ H s->(∀b∈fp,ni X pins H b)->tn i s.heap->J.go i H->
  wpAny (model P w) X.A (pyNext (.ref it)) (λr s1=>∃u,r=some u/\
   wpAny (model P w) X.A (letOwnedTupleGo tg (.ref it) u) (λ_ s2=>∃x H',Inv X pins σ H' s2/\RelV x u/\J.Dr i H x H'/\tn (i+1) s2.heap/\∀b∈fp,H' b=none) E s1) E s
 done:∀(X:Cx),X.prog=P->X.w=w->X.K=K->X.calm=true->∀(i:Nat) (pins:aH) (s:Shared) (σ:St) (H:Hp) (E:aQ),Inv X pins σ H s->(∀b∈fp,ni X pins H b)->tn i s.heap->J.stop i H->
  wpAny (model P w) X.A (pyNext (.ref it)) (λr s1=>r=none/\Inv X pins σ H s1) E s
 self:∀(A:Around) (i:Nat) (s:Shared) (Q:aQ) (E:aQ),tn i s.heap->Q (.ref it) s->wpAny (model P w) A (pyIter (.ref it)) Q E s
abbrev TI:=St->Hp->(It->Hp->Prop)->Prop
def Dt(X:Cx)(a:aH)(σ:St)(tg:Expr)(R:It->Hp->Prop)(c:Value)(f:Shared):Prop:=
 ∃(e:Addr) (d:List Addr) (tn:Nat->Heap->Prop) (J:It) (H':Hp),c= .ref e/\Inv X a σ H' f/\Turn X.prog X.w X.K tg J d e tn/\tn 0 f.heap/\(∀b∈d,ni X a H' b)/\R J H'
def PI(X:Cx)(tg b:Expr)(d:TI):Prop:=
 ∀(a:aH) (s:Shared) (σ:St) (H:Hp) (R:It->Hp->Prop),Inv X a σ H s->d σ H R->
  wpAny (model X.prog X.w) X.A (eval b X.env) (λv c=>wpAny (model X.prog X.w) X.A (pyIter v) (Dt X a σ tg R) X.xe c) X.xe s
theorem vR{s:Shared}{tg:Expr}{n:String}{vs:Array Value}(e:s.heap.get? it=some o)(b:o.cls= .type n)(c:o.data= .fields vs)
 (d:["enumerate","zip","dict_itemiterator","dict_reverseitemiterator","odict_iterator","itertools.zip_longest","itertools.pairwise"].contains n=false) (a:Q () s):wpAny M A (letOwnedTupleGo tg (.ref it) u) Q E s:=by
 unfold letOwnedTupleGo;cases tg<;>first
  |exact aI a
  |(cases u<;>first
   |exact aI a
   |(refine aj (wpAny_load e ?_)
     rw[b,c];show wpAny M A (if(["enumerate","zip","dict_itemiterator","dict_reverseitemiterator","odict_iterator","itertools.zip_longest","itertools.pairwise"].contains n&&vs[0]? ==some (rawInt _))=true then _ else _) Q E s
     rw[ae (by intro h;rw[d,Bool.false_and]at h;cases h)]
     exact aI a))
noncomputable def wQ (K:ag)(a:Addr):It:=
 ⟨λi H=>∃b x,cx K H a b/\b[i]? =some x,λi H x c=>c=H/\∀b,cx K H a b->b[i]? =some x,λi H=>∃b,cx K H a b/\b.length<=i⟩
noncomputable def Ds (K:ag)(a:Addr):It:=
 ⟨λi H=>∃b x,bL K H a b/\b[i]? =some x,λi H x c=>c=H/\∀b,bL K H a b->b[i]? =some x,λi H=>∃b,bL K H a b/\b.length<=i⟩
def qV(lo:Int)(n:Nat):It:=⟨λi _=>i<n,λi H x a=>a=H/\x= .int (lo+i),λi _=>n<=i⟩
theorem T6{P:Program}{K:ag}{tg:Expr}(a it:Addr):Turn P w K tg (wQ K a) [it] it (λi h=>h.IsListIter it a i) where
 mem:=by simp
 obj:=λi h st b hb=>by
  have e:b=it:=by simpa using hb
  subst e;obtain⟨o,e,c,d⟩:=st;exact⟨o,e,λv z=>by rw[d]at z;cases z⟩
 keep:=λi h h' st k=>st.at λo e=>k it (by simp) o e
 item:=by
  intro X hP hw hK hc i pins s σ H E I hf st hg;subst hP hw hK;obtain⟨xs,x,hq,hx⟩:=hg;obtain⟨ab,rv,p,hz⟩:=I.list hq;obtain⟨u,hu,ru⟩:=rv.get hx;obtain⟨f0,f1,f2,f3,f4,f5⟩:=hf it (by simp)
  refine wpAny_pyNext_list_item st p.isList (x:=u) (by simpa using hu) λh' st' sb=>?_
  have I1:Inv X pins σ H { s with heap:=h' }:=I.turned (t':=s.toks) (λb o hb e=>(sb.2 b hb).trans e) f0 f1 f3 f4 f5
  obtain⟨o,e,c,d⟩:=id st';exact⟨u,rfl,vR (s:={ s with heap:=h' }) e c d (by decide) ⟨x,H,I1,ru,⟨rfl,λys hy=>by rw[I.jm hy hq];exact hx⟩,st',λb hb=>(hf b hb).1⟩⟩
 done:=by
  intro X hP hw hK hc i pins s σ H E I hf st hg;subst hP hw hK;obtain⟨xs,hq,hx⟩:=hg;obtain⟨ab,rv,p,hz⟩:=I.list hq;obtain⟨f0,f1,f2,f3,f4,f5⟩:=hf it (by simp)
  have hl:=rv.length;exact wpAny_pyNext_list_end (I.ok.hd hc) st p.isList (by simp;omega) λh' eb=>⟨rfl,I.turned (t':=s.toks) (λb o hb e=>eb b o hb e) f0 f1 f3 f4 f5⟩
 self:=λ_ _ _ _ _ st h=>wpAny_pyIter_listiter st h
theorem Te{P:Program}{K:ag}{tg:Expr}(a it:Addr):Turn P w K tg (Ds K a) [it] it (λi h=>h.IsTupleIter it a i) where
 mem:=by simp
 obj:=λi h st b hb=>by
  have e:b=it:=by simpa using hb
  subst e;obtain⟨o,e,c,d⟩:=st;exact⟨o,e,λv z=>by rw[d]at z;cases z⟩
 keep:=λi h h' st k=>st.at λo e=>k it (by simp) o e
 item:=by
  intro X hP hw hK hc i pins s σ H E I hf st hg;subst hP hw hK;obtain⟨xs,x,hq,hx⟩:=hg;obtain⟨ab,rv,p,hz⟩:=I.tuple hq;obtain⟨u,hu,ru⟩:=rv.get hx;obtain⟨f0,f1,f2,f3,f4,f5⟩:=hf it (by simp)
  refine wpAny_pyNext_tuple_item st (show s.heap.IsTuple a ab.toArray from p) (x:=u) (by simpa using hu) λh' st' sb=>?_
  have I1:Inv X pins σ H { s with heap:=h' }:=I.turned (t':=s.toks) (λb o hb e=>(sb.2 b hb).trans e) f0 f1 f3 f4 f5
  obtain⟨o,e,c,d⟩:=id st';exact⟨u,rfl,vR (s:={ s with heap:=h' }) e c d (by decide) ⟨x,H,I1,ru,⟨rfl,λys hy=>by rw[I.iN hy hq];exact hx⟩,st',λb hb=>(hf b hb).1⟩⟩
 done:=by
  intro X hP hw hK hc i pins s σ H E I hf st hg;subst hP hw hK;obtain⟨xs,hq,hx⟩:=hg;obtain⟨ab,rv,p,hz⟩:=I.tuple hq;obtain⟨f0,f1,f2,f3,f4,f5⟩:=hf it (by simp)
  have hl:=rv.length;exact wpAny_pyNext_tuple_end (I.ok.hd hc) st (show s.heap.IsTuple a ab.toArray from p) (by simp;omega) λh' eb=>⟨rfl,I.turned (t':=s.toks) (λb o hb e=>eb b o hb e) f0 f1 f3 f4 f5⟩
 self:=λ_ _ _ _ _ st h=>wpAny_pyIter_tupleiter st h
theorem Tf{P:Program}{K:ag}{tg:Expr}(it:Addr)(lo:Int)(n:Nat):Turn P w K tg (qV lo n) [it] it (λi h=>IsRangeIter h it (lo+(i:Nat)*1) ((n:Int)-(i:Nat)) 1) where
 mem:=by simp
 obj:=λi h st b hb=>by
  have e:b=it:=by simpa using hb
  subst e;exact⟨_,st,λv z=>by
   have z':Data.fields _=Data.cell v:=z;cases z'⟩
 keep:=λi h h' st k=>k it (by simp) _ st
 item:=by
  intro X hP hw hK hc i pins s σ H E I hf st hg;subst hP hw hK;obtain⟨f0,f1,f2,f3,f4,f5⟩:=hf it (by simp)
  have W:=Walks.range (prog:=X.prog) (w:=X.w) (I.ok.hd hc) it lo 1 n;refine W.item i s _ _ hg st λv h' tk hv st' kk=>?_
  obtain⟨t,rfl⟩:=hv;have I1:Inv X pins σ H { s with heap:=h',toks:=tk }:=I.turned (λb o hb e=>kk b o (by simpa using hb) e) f0 f1 f3 f4 f5
  refine⟨_,rfl,vR (s:={ s with heap:=h',toks:=tk }) (n:="range_iterator") st' rfl rfl (by decide) ⟨.int (lo+i),H,I1,⟨t,?_⟩,⟨rfl,rfl⟩,st',λb hb=>(hf b hb).1⟩⟩
  rw[Int.mul_one]
 done:=by
  intro X hP hw hK hc i pins s σ H E I hf st hg;subst hP hw hK;obtain⟨f0,f1,f2,f3,f4,f5⟩:=hf it (by simp)
  exact wpAny_pyNext_range_end (I.ok.hd hc) st (by have:n<=i:=hg;omega) λh' eb=>⟨rfl,I.turned (t':=s.toks) (λb o hb e=>eb b o hb e) f0 f1 f3 f4 f5⟩
 self:=λ_ _ _ _ _ st h=>wpAny_pyIter_rangeiter st h
section
variable {X:Cx}{tg:Expr}
theorem KW{s:Shared}{lo hi:Int}{t u v:Tok}(I:Inv X pins σ H s)(d:-(2 ^ 62)<=lo)(f:lo<2 ^ 62)(g:-(2 ^ 62)<=hi)(h:hi<2 ^ 62)
 (q:R (qV lo (hi-lo).toNat) H):wpAny (model X.prog X.w) X.A (pyIter (.ref s.heap.objs.size)) (Dt X pins σ tg R) E { s with heap:=s.heap.push { cls:=.type "range",data:=.fields #[.int lo t,.int hi u,.int 1 v] },toks:=tk }:=by
 refine wpAny_pyIter_range (IsRange.new ..) (small_one d f g h) ?_;have a:Inv X pins σ H { s with heap:=s.heap.push { cls:=.type "range",data:=.fields #[.int lo t,.int hi u,.int 1 v] },toks:=tk }:=I.kept λb o e=>bz _ e
 refine⟨(s.heap.push { cls:=.type "range",data:=.fields #[.int lo t,.int hi u,.int 1 v] }).objs.size,[(s.heap.push { cls:=.type "range",data:=.fields #[.int lo t,.int hi u,.int 1 v] }).objs.size],_,_,H,rfl,
  a.kept (t':=tk) λb o e=>bz _ e,Tf _ lo (hi-lo).toNat,?_,λb i=>?_,q⟩
 . have e1:lo+((0:Nat):Int)*1=lo:=by simp
   have c:(((hi-lo).toNat:Nat):Int)-((0:Nat):Int)=Builtin.Range.rangeSize lo hi 1:=by rw[rangeSize_one];split<;>omega
   show IsRangeIter _ _ (lo+((0:Nat):Int)*1) ((((hi-lo).toNat:Nat):Int)-((0:Nat):Int)) 1;rw[e1,c];exact dv _ rfl
 . have e:b=(s.heap.push { cls:=.type "range",data:=.fields #[.int lo t,.int hi u,.int 1 v] }).objs.size:=by simpa using i
   subst e;exact a.fZ (aN _) (a.av.fresh (aN _))
def qyS(ta:TA):TI:=λσ H R=>ta σ H λvs H1=>∃j:Int,vs= [.int j]/\-(2 ^ 62)<=j/\j<2 ^ 62/\R (qV 0 j.toNat) H1
noncomputable def qyR (ta:TA):TI:=λσ H R=>ta σ H λvs H1=>∃i j:Int,vs= [.int i,.int j]/\(-(2 ^ 62)<=i/\i<2 ^ 62/\-(2 ^ 62)<=j/\j<2 ^ 62)/\R (qV i (j-i).toNat) H1
theorem Uk{a:Expr}{p pos:Pos}(g:Gl X "range")(i:X.mg "range" =none)(f:PA X [a] ta)(hs:starEach [a] X.env= [(false,eval a X.env)]:=by rfl):PI X tg (.Call (.Name "range" p) [a] [] pos) (qyS ta):=by
 intro b s m H R I h;refine Call_ (m4 I g i boot_range (sZ (az (f pos b s m H _ I h) λus n l=>?_) hs rfl));obtain⟨vs,H1,d,r1,c⟩:=l
 obtain⟨j,e,c,k,q⟩:=c;subst e;cases r1 with
 |cons r rr=>
  cases rr;obtain⟨t,rfl⟩:=r;exact call_range_1 (KW d (by omega) (by omega) c k (by simpa using q))
theorem Uj{a b:Expr}{p pos:Pos}(l:Gl X "range")(m:X.mg "range" =none)(k:PA X [a,b] ta)(hs:starEach [a,b] X.env= [(false,eval a X.env),(false,eval b X.env)]:=by rfl)(c:starEach [b] X.env= [(false,eval b X.env)]:=by rfl):
 PI X tg (.Call (.Name "range" p) [a,b] [] pos) (qyR ta):=by
 intro d s w H R I h;refine Call_ (m4 I l m boot_range (sZ (az (k pos d s w H _ I h) λus x v=>?_) (by rw[hs,c]) (by rw[c];rfl)));obtain⟨vs,H1,g,r1,f⟩:=v
 obtain⟨i,j,e,⟨f,n,o,u⟩,q⟩:=f;subst e;cases r1 with
 |cons r rr=>
  cases rr with
  |cons r' rr=>
   cases rr;obtain⟨t,rfl⟩:=r;obtain⟨y,rfl⟩:=r';exact call_range_2 (KW g f n o u q)
noncomputable def QY (wi:TI)(g:TG)(tb:TS):TS:=λD σ H=>wi σ H λJ H1=>∃W:Nat->Nat->St->Hp->Prop,(∃m,W 0 m σ H1)/\∀i m σ H,W i m σ H->
 (J.stop i H/\D.nx σ H)∨(J.go i H/\∃N:St->Hp->Prop,(∀σ' H',N σ' H'->∃m',m'<m/\W (i+1) m' σ' H')/\∀x H',J.Dr i H x H'->g x σ H' λσ2 H2=>tb { D with nx:=N,ct:=N,bk:=D.nx } σ2 H2)
def nT(a:List Addr)(h:Heap):aH:=a.filterMap λb=>(h.get? b).map λo=>(b,o)
theorem AH{h:Heap}{b:Addr}(a:b∈fp)(e:h.get? b=some o):(b,o)∈nT fp h:=wB.mpr ⟨b,a,by rw[e];rfl⟩
theorem J2{p:Addr×Obj}(d:p∈nT fp h):p.1∈fp/\h.get? p.1=some p.2:=by
 obtain⟨b,c,e⟩:=wB.mp d;cases q:h.get? b with
 |none=>rw[q]at e;cases e
 |some o=>
  rw[q]at e;have a:(b,o)=p:=dz e;subst a;exact⟨c,q⟩
theorem Inv.pinned{s:Shared}(I:Inv X pins σ H s)(j:∀b∈c,ni X pins H b)(k:∀b∈c,∃o,s.heap.get? b=some o/\∀v,o.data≠.cell v):Inv X (pins++nT c s.heap) σ H s:=
 I.eE λp l=>(eS.mp l).elim (λz=>I.pin p (iP _ z)) λz=>by
  obtain⟨f,e⟩:=J2 z;obtain⟨g,h,i,_⟩:=j p.1 f;obtain⟨o,a,d⟩:=k p.1 f;rw[e]at a;cases a;exact⟨e,g,h,i,d⟩
theorem Inv.c8{s:Shared}(I:Inv X (pins++pl) σ H s):Inv X pins σ H s:=I.eE λp a=>I.pin p (iP _ (zL _ a))
theorem YG{body:List Stmt}{g:TG}{tb:TS}(M:PassesOwn (model X.prog X.w) X.A X.env X.xe)(hc:X.calm=true)(hi:PI X tg iter wi)(hg:PG X tg g)(r:fY X body tb)
 (hs:∀x,foldedSetIterable iter X.env x=pure x:=by intro _;rfl):PS X (.For tg iter body [] pos) (QY wi g tb):=by
 intro a s σ H D I h;refine wpAny_For (az (hi a s σ H _ I h) λv s1 h1=>az h1 λitv s2 h2=>?_) hs
 obtain⟨it,F,tn,J,H2,e,I2,T,st2,f2,W,⟨m0,w0⟩,Y⟩:=h2;subst e;have t:∀{z:Hp},(∀b∈F,z b=none)->∀b∈F,ni X a z b:=λhn b r=>⟨hn b r,(f2 b r).2⟩
 refine codeAny_forLoop_any (λn s'=>∃i w z,Inv X a w z s'/\tn i s'.heap/\(∀b∈F,z b=none)/\W i n w z) ?_ m0 ⟨0,σ,H2,I2,st2,λb r=>(f2 b r).1,w0⟩
 rintro n s3 ⟨i,y,Z,I3,Q,L,w3⟩;rcases Y i n y Z w3 with⟨U,qn⟩|⟨go,N,hN,R⟩
 . refine wpAny_passesOwn M (az (T.done X rfl rfl rfl hc i a s3 y Z X.xe I3 (t L) Q U) λr s4 E=>?_);obtain⟨hr,I4⟩:=E
   subst hr;exact wpAny_execs_nil ⟨y,Z,I4,qn⟩
 . refine wpAny_passesOwn M (az (T.item X rfl rfl rfl hc i a s3 y Z X.xe I3 (t L) Q go) λr s4 E=>?_);obtain⟨u,hr,h4⟩:=E
   subst hr;refine wpAny_passesOwn M (az h4 λ_ s5 E=>?_);obtain⟨x,H5,I5,r5,y5,C,fr5⟩:=E
   have I5':=I5.pinned (t fr5) (T.obj _ _ C);refine wpAny_passesOwn M (az (hg _ s5 y H5 x u _ I5' r5 (R x H5 y5)) λ_ s6 E=>?_);obtain⟨σ6,H6,I6,q6⟩:=E
   refine wpAny_passesOwn M (az (r _ s6 σ6 H6 _ I6 q6) λf s7 A=>?_)
   have l:∀{c:St} {j:Hp},Inv X (a++nT F s5.heap) c j s7->N c j->∃m,m<n/\∃i w z,Inv X a w z s7/\tn i s7.heap/\(∀b∈F,z b=none)/\W i m w z:=λ{c j} k O=>by
    obtain⟨m',hm,w7⟩:=hN c j O;refine⟨m',hm,i+1,c,j,k.c8,T.keep _ _ _ C λb r o e=>(k.pin (b,o) (iP _ (iP _ (AH r e)))).1,λb r=>?_,w7⟩
    obtain⟨o,e,d⟩:=T.obj _ _ C b r;exact(k.pin (b,o) (iP _ (iP _ (AH r e)))).2.1
   cases f with
   |next=>obtain⟨c,j,k,O⟩:=A;exact l k O
   |cont=>obtain⟨c,j,k,O⟩:=A;exact l k O
   |brk=>obtain⟨c,j,k,A⟩:=A;exact⟨c,j,k.c8,A⟩
   |ret v=>obtain⟨x7,c,j,k,r7,A⟩:=A;exact⟨x7,c,j,k.c8,r7,A⟩
end
abbrev R2:=V->V->Hp->VK->Prop
def dH(X:Cx)(f:Value->Value->Sem Value)(r:R2):Prop:=
 ∀a s b H x y v u Q,Inv X a b H s->RelV x v->RelV y u->r x y H Q->
  wpAny (model X.prog X.w) X.A (f v u) (EP X a b Q) X.xe s
def Dz(X:Cx)(f:Value->Sem Value)(r:V->Hp->VK->Prop):Prop:=
 ∀a s b H x v Q,Inv X a b H s->RelV x v->r x H Q->
  wpAny (model X.prog X.w) X.A (f v) (EP X a b Q) X.xe s
def cM(X:Cx)(f:Value)(r:LV->Hp->VK->Prop):Prop:=
 ∀a s c H b us Q,Inv X a c H s->Vals b us->r b H Q->
  wpAny (model X.prog X.w) X.A (call f us) (EP X a c Q) X.xe s
def sX(r:R2)(ta tb:TE):TE:=λσ H Q=>ta σ H λx H1=>tb σ H1 λy H2=>r x y H2 Q
def OD(r:V->Hp->VK->Prop)(ta:TE):TE:=λσ H Q=>ta σ H λx H1=>r x H1 Q
def rI(C:Int->Int->Prop)(g:Int->Int->V):R2:=λx y H Q=>∃i j,x= .int i/\y= .int j/\C i j/\Q (g i j) H
def oq(g:Int->Int->V):R2:=λx y H Q=>∃i j,x= .int i/\y= .int j/\Q (g i j) H
section
variable {X:Cx}{a b c:Expr}{ta tb tc:TE}{pos:Pos}
theorem C6(n:PE X a ta)(o:PE X b tb){d:aH}{s:Shared}{σ:St}{H:Hp}{R:V->V->Hp->Prop}(I:Inv X d σ H s)
 (h:ta σ H λx H1=>tb σ H1 λy e=>R x y e) {Q:aQ} {f:Value->Value->Sem Value}
 (r:∀v u j x y e,Inv X d σ e j->RelV x v->RelV y u->R x y e->wpAny (model X.prog X.w) X.A (f v u) Q X.xe j):
 wpAny (model X.prog X.w) X.A (eval a X.env) (λv g=>wpAny (model X.prog X.w) X.A (eval b X.env) (λu i=>wpAny (model X.prog X.w) X.A (f v u) Q X.xe i) X.xe g) X.xe s:=by
 refine az (n d s σ H _ I h) λv z k=>?_;obtain⟨x,H1,l,r1,t⟩:=k
 refine az (o d z σ H1 _ l t) λu j k=>?_;obtain⟨y,e,m,r2,w⟩:=k
 exact r v u j x y e m r1 r2 w
theorem qyo{op:Operator}(j:dH X (binaryOp op) r)(g:PE X a ta)(i:PE X b tb):PE X (.BinOp a op b pos) (sX r ta tb):=by
 intro d s n H Q I h;exact wpAny_BinOp (C6 g i I h λv u m x y e f k l q=>j d m n e x y v u Q f k l q)
theorem qym{op:UnaryOp}(g:Dz X (unaryOp op) r)(f:PE X a ta):PE X (.UnaryOp op a pos) (OD r ta):=by
 intro d s e H Q I h;exact UnaryOp_ (az (f d s e H _ I h) λv i ⟨x,H1,I1,r1,q1⟩=>g d i e H1 x v Q I1 r1 q1)
theorem xt{g:Int->Int->Int}
 (d:∀i j t u s Q E,C i j->Q (.int (g i j) s.toks) { s with toks:=s.toks+1 }->wpAny (model X.prog X.w) X.A (f (.int i t) (.int j u)) Q E s):
 dH X f (rI C λi j=>.int (g i j)):=by
 intro e s o H x y v u Q I l m h;obtain⟨i,j,rfl,rfl,k,q⟩:=h;obtain⟨t,rfl⟩:=l;obtain⟨n,rfl⟩:=m;exact d i j t n s _ _ k ⟨.int (g i j),H,I.tok _,⟨_,rfl⟩,q⟩
theorem GD{g:Int->Int->Int}
 (d:∀i j t u s Q E,Q (.int (g i j) s.toks) { s with toks:=s.toks+1 }->wpAny (model X.prog X.w) X.A (f (.int i t) (.int j u)) Q E s):
 dH X f (oq λi j=>.int (g i j)):=by
 intro e s n H x y v u Q I k l h;obtain⟨i,j,rfl,rfl,q⟩:=h;obtain⟨t,rfl⟩:=k;obtain⟨m,rfl⟩:=l;exact d i j t m s _ _ ⟨.int (g i j),H,I.tok _,⟨_,rfl⟩,q⟩
theorem zr{g:Int->Int->Bool}
 (d:∀i j t u s Q E,Q (.bool (g i j)) s->wpAny (model X.prog X.w) X.A (f (.int i t) (.int j u)) Q E s):
 dH X f (oq λi j=>.bl (g i j)):=by
 intro e s n H x y v u Q I k l h;obtain⟨i,j,rfl,rfl,q⟩:=h;obtain⟨t,rfl⟩:=k;obtain⟨m,rfl⟩:=l;exact d i j t m s _ _ ⟨.bl (g i j),H,I,rfl,q⟩
def RU(i j:Int):Prop:=0<j/\j<1073741824
def RT(i j:Int):Prop:=0<=j/\j<=1000000/\i.natAbs<2 ^ 64
def g9(i j:Int):Prop:=(-(2 ^ 64)<i/\i<2 ^ 64)∨(-(2 ^ 64)<j/\j<2 ^ 64)
theorem g9.ok{i j:Int}(h:g9 i j):IntMulOk i j:=by
 rcases h with⟨d,e⟩|⟨d,e⟩
 . exact .of_left (intBits_le_64 d e)
 . exact .of_right (intBits_le_64 d e)
theorem Yr:dH X (binaryOp .Add) (oq λi j=>.int (i+j)):=GD λ_ _ _ _ _ _ _ q=>add_int q
theorem Yl:dH X (binaryOp .Sub) (oq λi j=>.int (i-j)):=GD λ_ _ _ _ _ _ _ q=>sub_int q
theorem Yo:dH X (binaryOp .Mult) (rI g9 λi j=>.int (i*j)):=xt λ_ _ _ _ _ _ _ d q=>mul_int q d.ok
theorem WB:dH X (binaryOp .FloorDiv) (rI RU λi j=>.int (i / j)):=xt λi j _ _ _ _ _ d q=>by
 have e:(0:Int)<j:=d.1;have f:j<1073741824:=d.2;exact floordiv_int (by omega) (by rw[Int.fdiv_eq_ediv_of_nonneg i (by omega)];exact q) (.inl (PyProof.noPylong_small (by omega)))
theorem Yp:dH X (binaryOp .Mod) (rI (λ_ j=>0<j) λi j=>.int (i % j)):=xt λi j _ _ _ _ _ d q=>by
 have e:(0:Int)<j:=d;exact mod_int' (by omega) (by rw[Int.fmod_eq_emod_of_nonneg i (by omega)];exact q)
theorem Yn:dH X (binaryOp .Pow) (rI RT λi j=>.int (i ^ j.toNat)):=xt λ_ _ _ _ _ _ _ d q=>pow_int_small d.1 d.2.1 d.2.2 q
theorem M7{s:Shared}(I:Inv X pins σ H s)(q:Q (.bl k) H)(e:k=k'):EP X pins σ Q (.bool k') s:=by
 subst e;exact⟨.bl k,H,I,rfl,q⟩
theorem qyu:dH X (compareOp .Lt) (oq λi j=>.bl (decide (i<j))):=zr λ_ _ _ _ _ _ _ q=>lt_int q
theorem qyv:dH X (compareOp .LtE) (oq λi j=>.bl (decide (i<=j))):=zr λ_ _ _ _ _ _ _ q=>le_int q
theorem qyw:dH X (compareOp .Gt) (oq λi j=>.bl (decide (j<i))):=zr λ_ _ _ _ _ _ _ q=>gt_int q
theorem qyx:dH X (compareOp .GtE) (oq λi j=>.bl (decide (j<=i))):=zr λ_ _ _ _ _ _ _ q=>ge_int q
theorem Yq:dH X (compareOp .Is) (λx y H Q=>y= .aq/\Q (.bl (decide (x= .aq))) H):=by
 intro d s g H x y v u Q I e f h;obtain⟨rfl,q⟩:=h;cases f;refine is_none_gen (M7 I q ?_);cases x<;>first
  |(cases e;rfl)
  |(obtain⟨t,rfl⟩:=e;rfl)
theorem WA:dH X (compareOp .IsNot) (λx y H Q=>y= .aq/\Q (.bl (!decide (x= .aq))) H):=by
 intro d s g H x y v u Q I e f h;obtain⟨rfl,q⟩:=h;cases f;refine isnot_none_gen (M7 I q ?_);cases x<;>first
  |(cases e;rfl)
  |(obtain⟨t,rfl⟩:=e;rfl)
theorem qp9(b:Expr){op:CmpOp}(h:op≠.In:=by decide)(e:op≠.NotIn:=by decide):behindInMarks op b=false:=by
 have e1:(op==CmpOp.In)=false:=by cases op<;>first|rfl|exact aS rfl h
 have d:(op==CmpOp.NotIn)=false:=by cases op<;>first|rfl|exact aS rfl e
 cases b<;>simp[behindInMarks,e1,d]
theorem LH{op:CmpOp}(k:dH X (compareOp op) r)(g:PE X a ta)(i:PE X b tb)(j:behindInMarks op b=false):PE X (.Compare a [op] [b] pos) (sX r ta tb):=by
 intro d s o H Q I h;exact wpAny_Compare1 (C6 g i I h λv u n x y e f l m q=>k d n o e x y v u Q f l m q) j
def Ny(t:TE):TT:=λσ H Q=>t σ H λx H'=>∃k,x= .bl k/\Q k H'
theorem LD{op:CmpOp}(l:dH X (compareOp op) r)(g:PE X a ta)(i:PE X b tb)(j:behindInMarks op b=false):PT X (.Compare a [op] [b] pos) (Ny (sX r ta tb)):=by
 intro d s f H Q I h;refine wpAny_isTrue_Compare1 (az (g d s f H _ I h) λv m ⟨x,H1,I1,r1,q1⟩=>az (i d m f H1 _ I1 q1) λu n ⟨y,H2,I2,r2,q2⟩=>
  az (l d n f H2 x y v u _ I2 r1 r2 q2) λc o ⟨z,H3,I3,r3,k,e,q3⟩=>?_) j
 subst e;cases r3;exact jJ ⟨H3,I3,q3⟩
noncomputable def By (r r':R2)(ta tb tc:TE):TE:=λσ H Q=>ta σ H λx H1=>tb σ H1 λy H2=>r x y H2 λz H3=>∃k,z= .bl k/\
 (if k=true then tc σ H3 λw' H4=>r' y w' H4 Q else Q (.bl false) H3)
theorem U4{op op':CmpOp}(ho:dH X (compareOp op) r)(ho':dH X (compareOp op') r')(ha:PE X a ta)(hb:PE X b tb)(hc:PE X c tc)
 (hm:lastMarks [op,op'] [b,c]=false:=by with_unfolding_all rfl):PE X (.Compare a [op,op'] [b,c] pos) (By r r' ta tb tc):=by
 intro pins s σ H Q I h;refine Compare_chain (az (ha pins s σ H _ I h) λv s1 ⟨x,H1,I1,r1,q1⟩=>chain_link (az (hb pins s1 σ H1 _ I1 q1) λu s2 ⟨y,H2,I2,r2,q2⟩=>
  az (ho pins s2 σ H2 x y v u _ I2 r1 r2 q2) λd s3 ⟨z,H3,I3,r3,k,e,q3⟩=>?_)) hm
 subst e;cases r3;refine jJ ?_;cases k with
 |false=>exact ite_ff ⟨.bl false,H3,I3,rfl,q3⟩
 |true=>exact ite_tt (chain_last (az (hc pins s3 σ H3 _ I3 q3) λw' s4 ⟨z',H4,I4,r4,q4⟩=>ho' pins s4 σ H4 y z' u w' Q I4 r2 r4 q4))
theorem VD{op f:CmpOp}{r j:R2}(D:dH X (compareOp op) r)(i:dH X (compareOp f) j)(t:PE X a ta)(w:PE X b tb)(A:PE X c tc)
 (C:lastMarks [op,f] [b,c]=false:=by with_unfolding_all rfl):PT X (.Compare a [op,f] [b,c] pos) (Ny (By r j ta tb tc)):=by
 intro d s g H Q I h;refine isTrue_chain (az (t d s g H _ I h) λv L ⟨x,H1,I1,r1,q1⟩=>test_link (az (w d L g H1 _ I1 q1) λu M ⟨y,H2,I2,r2,q2⟩=>
  az (D d M g H2 x y v u _ I2 r1 r2 q2) λd N ⟨z,H3,I3,r3,k,e,q3⟩=>?_)) C
 subst e;cases r3;refine jJ ?_;cases k with
 |false=>
  obtain⟨W,n,E⟩:=q3;cases n;exact ite_ff ⟨H3,I3,E⟩
 |true=>
  refine ite_tt (test_last (az (A d N g H3 _ I3 q3) λw' O ⟨R,H4,I4,r4,q4⟩=>az (i d O g H4 y R u w' _ I4 r2 r4 q4) λd' Z U=>?_));obtain⟨z2,l,m,J,Y,o,F⟩:=U
  subst o;cases J;exact jJ ⟨l,m,F⟩
theorem sj:(sizeLine:Nat)<2 ^ 63:=by rw[sizeLine_eq];decide
theorem Tq:dH X (binaryOp .Add) (λx y H Q=>∃i j,x= .str i/\y= .str j/\i.length+j.length<=sizeLine/\Q (.str (i++j)) H):=by
 intro d s m H x y v u Q I f g h;obtain⟨i,j,rfl,rfl,e,q⟩:=h;obtain⟨t,rfl⟩:=f;obtain⟨k,rfl⟩:=g;exact add_str (λt' l=>⟨.str (i++j),H,I.tok _,⟨_,rfl⟩,q⟩) e
theorem vals1{x:V}{us:ak}(r:Vals [x] us):∃u,us= [u]/\RelV x u:=by
 cases r with
 |cons r1 r2=>cases r2;exact⟨_,rfl,r1⟩
theorem vals2{x y:V}{us:ak}(r:Vals [x,y] us):∃u d,us= [u,d]/\RelV x u/\RelV y d:=by
 cases r with
 |cons r1 r2=>
  cases r2 with
  |cons r3 r4=>cases r4;exact⟨_,_,rfl,r1,r3⟩
theorem Uy(hc:X.calm=true):cM X (.builtin "max") (λxs H Q=>∃i j,xs= [.int i,.int j]/\Q (.int (if j > i then j else i)) H):=by
 intro pins s σ H xs us Q I r h;obtain⟨i,j,rfl,q⟩:=h;obtain⟨u,w',rfl,⟨t,rfl⟩,⟨t',rfl⟩⟩:=vals2 r;refine max_two_ints (I.ok.hd hc) λh' tk k=>⟨_,H,I.kept k,?_,q⟩
 by_cases hj:j > i
 . rw[ah hj,ah hj];exact⟨_,rfl⟩
 . rw[ae hj,ae hj];exact⟨_,rfl⟩
theorem V4:cM X (.builtin "ord") (λxs H Q=>∃x,xs= [.str x]/\x.length=1/\Q (.int (x.cps.getD 0 0:Nat)) H):=by
 intro pins s σ H xs us Q I r h;obtain⟨x,rfl,hz,q⟩:=h;obtain⟨u,rfl,t,rfl⟩:=vals1 r;exact ord_of_one hz ⟨.int _,H,I.tok _,⟨_,rfl⟩,q⟩
end
structure dE(h:Heap)(x dx C:Addr)(mA:bq):Prop where
 obj:h.get? x=some (oC C dx)
 ns:h.Ns1 dx mA
 ne:dx≠x
theorem T7{h:Heap}(n:h.Ns1 dx mA):∃od,h.get? dx=some od/\∀name,PySem.W.lookIn name od=some (mA name):=by
 obtain⟨o,es,ep,ho,hd,hk,_,hm⟩:=n;refine⟨o,ho,λname=>?_⟩
 have e:=hm name;unfold nsFind findBy at e;rw[<-Array.find?_toList]at e;unfold PySem.W.lookIn;rw[hd];dsimp only;split
 . rename_i y q
   rw[q]at e;exact congrArg some e
 . rename_i q
   rw[q]at e;have a:es.toList.any (·.refKey)=false:=by
    rw[List.any_eq_false];intro y hy;obtain⟨z,t,hkey⟩:=hk y (Array.mem_toList_iff.mp hy);simp[DictEntry.refKey,hkey]
   have a':¬es.toList.any (·.refKey)=true:=by rw[a];exact iQ
   rw[ae a'];exact congrArg some e
theorem dE.look{x c C:Addr}(I:dE h x c C mA):∃b,PySem.W.InstAt h x (oC C c) C (some b)/\∀a,PySem.W.lookIn a b=some (mA a):=
 let⟨b,ho,hl⟩:=T7 I.ns
 ⟨b,⟨I.obj,rfl,rfl,ho⟩,hl⟩
section
variable {prog:Program}{w:World}{A:Around}{E:aQ}{s:Shared}{K:ag}{x dx C f:Addr}{mA:bq}{name:Str}{v:Value}
theorem get_map(X:K.In s.heap)(I:dE s.heap x dx C mA)(c:wG K C name=true)(d:zN K C=true)
 (b:PySem.W.findIn K (.ref C) name=some none) (g:mA name=some v) (a:PySem.W.handedIn v=true) (h:Q v { s with toks:=s.toks+1 }):
 wpAny (model prog w) A (getAttr (.ref x) name expr) Q E s:=by
 obtain⟨i,J,e⟩:=I.look;exact PySem.W.get_value X J (PySem.W.plainGet_of c).1 (PySem.W.findObj_own d b rfl (by rw[e,g])) a h
theorem VQ(X:K.In s.heap)(I:dE s.heap x dx C mA)(a:wG K C name=true)
 (b:PySem.W.findIn K (.ref C) name=some (some (.ref f))) (d:PySem.W.isFn K (.ref f)=true) (e:mA name=none) (h:Q (.ref f,[.ref x]) s):
 wpAny (model prog w) A (getMethod (.ref x) name pl) Q E s:=by
 obtain⟨g,J,c⟩:=I.look;exact PySem.W.method_fn X J (PySem.W.plainGet_of a).1 (PySem.W.plainGet_of a).2 b (eQ.mp d) (by show(PySem.W.lookIn name g).map (·.isSome)=some false;rw[c,e];rfl) h
theorem V8{ns:aB}(X:K.In s.heap)(I:dE s.heap x dx C mA)
 (hs:PySem.W.findIn K (.ref C) "__setattr__" =some (some (.builtin "object.__setattr__"))) (o:PySem.W.plainOver K C=true) (t:PySem.W.takerIn K C name=some none) (n:zN K C=true)
 (u:PySem.Within mA ns) (hsz:ns.length<=sizeLine)
 (h:∀d,dE d x dx C (λy=>if y=name then some v else mA y)->Heap.SameBut dx s.heap d->Q () { s with heap:=d,toks:=s.toks+2 }):
 wpAny (model prog w) A (setAttr (.ref x) name v) Q E s:=by
 obtain⟨F,J,z⟩:=I.look;refine PySem.W.set_plain X J hs (PySem.W.osa_open (s:={ s with toks:=s.toks+1 }) (r:=none) X J o t λb=>?_)
 obtain⟨cd,m,g⟩:=PySem.W.any_some n;have hx:s.heap.get? x=some ⟨.ref C,some dx,.plain,#[]⟩:=I.obj;refine aj (aI (aj (aj (wpAny_loadPart hx (aj (PySem.W.Looks.here (s:={ s with toks:=s.toks+1 }) (PySem.W.looks_clsIn X m) ?_))))))
 rw[g];refine aI (a:=some dx) (aj (aI (aj ?_)));refine wpAny_nsSet1 (s:={ s with toks:=s.toks+1 }) I.ns λh' b c=>?_
 obtain⟨D,l,k,j,i,e⟩:=b.count (PySem.Within.cons name v u);refine aj (wpAny_lookBehind j (by rw[i];exact pastItsLine_dict (bQ e (by rw[cQ];omega))) ?_)
 exact aI (h _ ⟨(c.2 _ (cN I.ne)).trans I.obj,b,I.ne⟩ c)
theorem Vg{vs:ak}(X:K.In s.heap)(hm:PySem.W.makesIn K C=true)
 (hi:PySem.W.findIn K (.ref C) "__init__" =some (some (.ref f))) (hf:PySem.W.typeIn K (.ref f)=some (.type "function"))
 (h:codeAny (model prog w) (A.under (.builtin "type.__call__" ⟨.ref C::vs,kw⟩)) (.call (.ref f) ⟨.ref (s.heap.objs.size+1)::vs,kw⟩) (PySem.W.InitBack (s.heap.objs.size+1) R)
  { s with heap:=(s.heap.push ny).push (oC C s.heap.objs.size) }):
 codeAny (model prog w) A (.call (.ref C) ⟨vs,kw⟩) R s:=by
 obtain⟨hh,g,d,t,os⟩:=s;exact PySem.W.make_core (PySem.W.makes_of X hm) (PySem.W.looks_findIn X hi) (λself=>PySem.W.bind_fn X self hf) (.inl rfl) h
end
noncomputable def fm (f:Str)(v:V):List (Str×V)->List (Str×V)
 | []=>[(f,v)]
 |(g,x)::r=>if g=f then(g,v)::r else(g,x)::fm f v r
theorem JA(f g:Str)(v):∀c:List (Str×V),(fm f v c).lookup g=if g=f then some v else c.lookup g
 | []=>by
  show List.lookup g [(f,v)]=_
  by_cases h:g=f
  . have a:(g==f)=true:=eQ.mpr h
    simp only[List.lookup,a,ah h]
  . have a:(g==f)=false:=oB.mpr h
    simp only[List.lookup,a,ae h]
 |(k,x)::r=>by
  have d:=JA f g v r;rw[show fm f v ((k,x)::r)=(if k=f then(k,v)::r else(k,x)::fm f v r)from rfl]
  by_cases b:k=f
  . rw[ah b]
    by_cases h:g=k
    . have a:(g==k)=true:=eQ.mpr h
      simp only[List.lookup,a,ah (h.trans b)]
    . have a:(g==k)=false:=oB.mpr h
      simp only[List.lookup,a,ae (λe:g=f=>h (e.trans b.symm))]
  . rw[ae b]
    by_cases h:g=k
    . have a:(g==k)=true:=eQ.mpr h
      simp only[List.lookup,a,ae (λe:g=f=>b (h.symm.trans e))]
    . have a:(g==k)=false:=oB.mpr h
      simp only[List.lookup,a];exact d
theorem AJ(f)(v):∀a:List (Str×V),f∈(fm f v a).map (·.1)/\∀g,g∈a.map (·.1)->g∈(fm f v a).map (·.1)
 | []=>⟨by simp[fm],λg h=>by simp at h⟩
 |(k,x)::r=>by
  obtain⟨c,d⟩:=AJ f v r;rw[show fm f v ((k,x)::r)=(if k=f then(k,v)::r else(k,x)::fm f v r)from rfl]
  by_cases b:k=f
  . rw[ah b]
    subst b;exact⟨by simp,λg h=>by simpa using h⟩
  . rw[ae b]
    refine⟨?_,λg h=>?_⟩
    . rw[bU]
      exact gv _ c
    . rw[bU]at h ⊢
      rcases fw.mp h with e|e
      . exact fw.mpr (.inl e)
      . exact gv _ (d g e)
theorem JC(f)(v):∀a:List (Str×V),(fm f v a).length<=a.length+1
 | []=>by simp[fm]
 |(k,x)::r=>by
  have c:=JC f v r;rw[show fm f v ((k,x)::r)=(if k=f then(k,v)::r else(k,x)::fm f v r)from rfl]
  by_cases b:k=f
  . rw[ah b,cQ,cQ];omega
  . rw[ae b,cQ,cQ];omega
theorem bK.some_of{v:V}(r:bK (some v) o):∃u,o=some u/\RelV v u:=by
 cases o with
 |none=>exact(show False from r).elim
 |some u=>exact⟨u,rfl,r⟩
theorem bK.none_of(r:bK none o):o=none:=by
 cases o with
 |none=>rfl
 |some u=>exact(show False from r).elim
theorem UI{v:V}(r:RelV v u):PySem.W.handedIn u=true:=by
 cases v with
 |aq=>cases(show u=Value.none from r);rfl
 |bl b=>cases(show u=Value.bool b from r);rfl
 |int i=>obtain⟨t,e⟩:=(show ∃t,u=Value.int i t from r);cases e;rfl
 |str x=>obtain⟨t,e⟩:=(show ∃t,u=Value.str x t from r);cases e;rfl
 |w5 b=>obtain⟨t,e⟩:=(show ∃t,u=Value.bytes b t from r);cases e;rfl
 |mH b=>obtain⟨t,e⟩:=(show ∃t,u=Value.float b t from r);cases e;rfl
 |ref a=>cases(show u=Value.ref a from r);rfl
 |ty n=>cases(show u=Value.type n from r);rfl
section
variable {P:Program}{w:World}{H H':Hp}{h h':Heap}{a C dx:Addr}{fs fs':List (Str×V)}
theorem yr(c:cJ P w H h)(e:H a=some (.ins C dx fs)):∃b,dE h a dx C b/\(∀f,bK (fs.lookup f) (b f))/\PySem.Within b (fs.map (·.1))/\fs.length<=1000/\H dx=some (.own a):=by
 obtain⟨d,z,g,ob,b,n,r,q⟩:=(show aD P w H h a (.ins C dx fs)from c a _ e)
 exact⟨b,⟨ob,n,g⟩,r,q,z,d⟩
end
structure cI(K:ag)(C:Addr):Prop where
 pg:wG K C Str.empty=true
 hd:zN K C=true
 po:PySem.W.plainOver K C=true
 sa:PySem.W.findIn K (.ref C) "__setattr__" =some (some (.builtin "object.__setattr__"))
theorem cI.get{K:ag}(c:cI K C)(f:Str):wG K C f=true:=c.pg
def aW(K:ag)(C:Addr)(f:Str):Prop:=PySem.W.findIn K (.ref C) f=some none
theorem aW.wy{K:ag}(n:aW K C f):PySem.W.takerIn K C f=some none:=by
 unfold PySem.W.takerIn;rw[show PySem.W.findIn K (.ref C) f=some none from n]
 rfl
structure Con(K:ag)(C:Addr)(f:Str)(v:V)(u:Value):Prop where
 at_:PySem.W.findIn K (.ref C) f=some (some u)
 rel:RelV v u
 get:PySem.W.specialIn K u "__get__" =some none
 cp:PySem.W.copiedNames.contains f=false
structure Meth(K:ag)(C:Addr)(m:Str)(f:Addr):Prop where
 at_:PySem.W.findIn K (.ref C) m=some (some (.ref f))
 fn:PySem.W.isFn K (.ref f)=true
 kp:PySem.W.keepIn K (.ref f)=true
section
variable {X:Cx}{pins:aH}{σ:St}{H:Hp}{s:Shared}{a C dx:Addr}{fs:List (Str×V)}{f:Str}{v:V}{A:Around}{E:aQ}
theorem JF{b:Bool}(I:Inv X pins σ H s)(e:H a=some (.ins C dx fs))(c:cI X.K C)(n:aW X.K C f)(l:fs.lookup f=some v)
 (h:∀u d,Inv X pins σ H d->RelV v u->Q u d):wpAny (model X.prog X.w) A (getAttr (.ref a) f b) Q E s:=by
 obtain⟨i,O,r,_,_,_⟩:=yr I.av e;obtain⟨u,g,ru⟩:=bK.some_of (v:=v) (o:=i f) (by rw[<-l];exact r f)
 exact get_map I.de O (c.get f) c.hd n g (UI ru) (h u _ (I.tok _) ru)
theorem JE{g:Addr}(I:Inv X pins σ H s)(e:H a=some (.ins C dx fs))(c:cI X.K C)(k:Meth X.K C m g)(l:fs.lookup m=none)
 (h:Q (.ref g,[.ref a]) s):wpAny (model X.prog X.w) A (getMethod (.ref a) m pl) Q E s:=by
 obtain⟨d,O,r,_,_,_⟩:=yr I.av e;have b:d m=none:=bK.none_of (by rw[<-l];exact r m)
 exact VQ I.de O (c.get m) k.at_ k.fn b h
theorem JN{Q:Unit->Shared->Prop}(I:Inv X pins σ H s)(e:H a=some (.ins C dx fs))(c:cI X.K C)(n:aW X.K C f)(hl:fs.length<1000)(ry:RelV y u)
 (h:∀s',Inv X pins σ (upd H a (.ins C dx (fm f y fs))) s'->Q () s'):wpAny (model X.prog X.w) A (setAttr (.ref a) f u) Q E s:=by
 obtain⟨mA,O,r,wi,_,ho⟩:=yr I.av e;have hz:(fs.map (·.1)).length<=sizeLine:=by rw[ba,sizeLine_eq];omega
 refine V8 I.de O c.sa c.po n.wy c.hd wi hz λh' O' sb=>h _ ?_
 have hd:∃o,h'.get? dx=some o:=let⟨o,_,_,e',_⟩:=O'.ns;⟨o,e'⟩;refine I.write (x:=a) (e:=dx) (by rw[e];exact True.intro) (.inr ho) (λb q hb z=>(sb.2 b hb).trans z) hd ?_
 refine⟨by rw[aE O.ne];exact ho,?_,O.ne,O'.obj,_,O'.ns,λg=>?_,λg hg=>?_⟩
 . have:=JC f y fs;omega
 . show bK ((fm f y fs).lookup g) (if g=f then some u else mA g)
   rw[JA]
   by_cases q:g=f
   . rw[ah q,ah q];exact ry
   . rw[ae q,ae q];exact r g
 . by_cases q:g=f
   . rw[q];exact(AJ f y fs).1
   . refine(AJ f y fs).2 g (wi g λz=>hg ?_)
     show(if g=f then some u else mA g)=none
     rw[ae q];exact z
theorem Inv.made(I:Inv X pins σ H s):Inv X pins σ (upd (upd H s.heap.objs.size (.own (s.heap.objs.size+1))) (s.heap.objs.size+1) (.ins C s.heap.objs.size []))
 { s with heap:=(s.heap.push ny).push (oC C s.heap.objs.size) }:=by
 have e1:(s.heap.push ny).get? s.heap.objs.size=some ny:=dv s.heap rfl;have d:((s.heap.push ny).push (oC C s.heap.objs.size)).get? (s.heap.objs.size+1)=some (oC C s.heap.objs.size):=by
  have:=dv (s.heap.push ny) (o:=oC C s.heap.objs.size) rfl
  rwa [Heap.size_push]at this
 have e:(s.heap.push ny).Ns s.heap.objs.size (λ_=>none):=⟨ny,#[],_,e1,rfl,(λe g=>aS g (by simp)),λ_=>rfl⟩
 have c:=I.laid (a:=s.heap.objs.size) (o:=.own (s.heap.objs.size+1)) (h':=s.heap.push ny) (t':=s.toks) (λb u q=>bz _ q) (aN _) ⟨_,e1⟩
 refine c.laid (a:=s.heap.objs.size+1) (o:=.ins C s.heap.objs.size []) (t':=s.toks) (λb u q=>bz _ q) (Nat.le_of_eq (Heap.size_push _ _)) ?_
 have b:s.heap.objs.size≠s.heap.objs.size+1:=cE (Nat.lt_succ_self _);refine⟨by rw[aE b,c0],jN _,b,d,λ_=>none,(Heap.Ns1.of_empty e).at λo q=>bz _ q,λ_=>True.intro,λy h=>aS rfl h⟩
theorem LQ{env:Env}{e:Expr}{s:Shared}(c:attributeBase e f env (eval e env)=eval e env)
 (h:wpAny (model prog w) A (eval e env) (λo b=>wpAny (model prog w) A (getAttr o f true) Q E b) E s):wpAny (model prog w) A (eval (.Attribute e f pos) env) Q E s:=
 Attribute_any_ h (by rw[arm_eval_Attribute,c])
end
noncomputable def QZ (K:ag)(ta:TE)(f:Str):TE:=λσ H Q=>ta σ H λx H1=>∃a C dx fs v,x= .ref a/\H1 a=some (.ins C dx fs)/\cI K C/\aW K C f/\fs.lookup f=some v/\Q v H1
noncomputable def QG (K:ag)(g h:TE)(f:Str):TS:=λD c H=>h c H λy H1=>g c H1 λx d=>∃a C e b,x= .ref a/\d a=some (.ins C e b)/\cI K C/\aW K C f/\b.length<1000/\
 D.nx c (upd d a (.ins C e (fm f y b)))
def Ip(X:Cx)(op:Operator)(rd:V->V->Hp->VK->Prop):Prop:=
 ∀a s b H x y u v Q,Inv X a b H s->RelV x u->RelV y v->rd x y H Q->wpAny (model X.prog X.w) X.A (inplaceOp op u v) (EP X a b Q) X.xe s
noncomputable def V9 (K:ag)(j k:TE)(rd:V->V->Hp->VK->Prop)(f:Str):TS:=λD d H=>j d H λx H1=>∃a C i g v,x= .ref a/\H1 a=some (.ins C i g)/\cI K C/\aW K C f/\g.lookup f=some v/\
 k d H1 λy h=>rd v y h λz e=>∃c b,e a=some (.ins C c b)/\b.length<1000/\D.nx d (upd e a (.ins C c (fm f z b)))
section
variable {X:Cx}{o e value:Expr}{f:Str}{pos pos' tpos:Pos}{ta tv:TE}
theorem Yg(k:PE X e ta)(j:attributeBase e f X.env (eval e X.env)=eval e X.env):PE X (.Attribute e f pos) (QZ X.K ta f):=by
 intro b s t H Q I h;refine LQ j (az (k b s t H _ I h) λu z r=>?_);obtain⟨x,H1,d,m,a,C,w,y,v,ex,i,c,n,l,q⟩:=r
 subst ex;obtain rfl:u=Value.ref a:=m;exact JF d i c n l λu' A g ru=>⟨v,H1,g,ru,q⟩
theorem YH(ha:PE X o ta)(hv:PE X value tv)(hs:swapsWith value (some (.Attribute o f pos')) pos.line X.env=pure false):PS X (.Assign [.Attribute o f pos'] value pos) (QG X.K ta tv f):=by
 intro pins s σ H D I h;refine plainObj_wpAny_Assign_Attribute (az (hv pins s σ H _ I h) λu s1 ⟨y,H1,I1,ry,q⟩=>az (ha pins s1 σ H1 _ I1 q) λov s2 zz=>?_) hs;obtain⟨x,H2,I2,rx,a,C,dx,fs,ex,ea,c,n,l,q2⟩:=zz
 subst ex;obtain rfl:ov=Value.ref a:=rx;exact JN I2 ea c n l ry λs3 I3=>⟨σ,_,I3,q2⟩
theorem Ue{op:Operator}{rd:V->V->Hp->VK->Prop}(ha:PE X o ta)(hv:PE X value tv)(hop:Ip X op rd):PS X (.AugAssign (.Attribute o f tpos) op value pos) (V9 X.K ta tv rd f):=by
 intro pins s σ H D I h;refine wpAny_AugAssign_AttributeAny (az (ha pins s σ H _ I h) λov s1 zz=>?_);obtain⟨x,H1,I1,rx,a,C,dx,fs,v,ex,ea,c,n,l,q⟩:=zz
 subst ex;obtain rfl:ov=Value.ref a:=rx;refine JF I1 ea c n l λu s2 I2 ru=>az (hv pins s2 σ H1 _ I2 q) λw3 s3 ⟨y,H2,I3,ry,q3⟩=>az (hop pins s3 σ H2 v y u w3 _ I3 ru ry q3) λw4 s4 zz=>?_;obtain⟨z,H3,I4,rz,dx',fs',ea',l',q4⟩:=zz
 exact JN I4 ea' c n l' rz λs5 I5=>⟨σ,_,I5,q4⟩
def zq:V->V->Hp->VK->Prop:=λx y H Q=>∃i j,x= .int i/\y= .int j/\Q (.int (i+j)) H
theorem Zq:Ip X .Add zq:=by
 rintro a s g H x y u v Q I c d ⟨i,j,rfl,rfl,q⟩;obtain⟨t,rfl⟩:=(show ∃t,u=Value.int i t from c)
 obtain⟨b,rfl⟩:=(show ∃b,v=Value.int j b from d)
 exact PyProof.Rows.iadd_int ⟨.int (i+j),H,I.tok _,⟨_,rfl⟩,q⟩
end
section
variable {X:Cx}{pins:aH}{σ:St}{H:Hp}{s:Shared}{A:Around}{E:aQ}{Q:aQ}{c:Value}{b:Bool}
inductive jB(K:ag)(H:Hp):V->Value->Prop where
 |aq:jB K H .aq (.type "NoneType")
 |bl (x:Bool):jB K H (.bl x) (.type "bool")
 |int (i:Int):jB K H (.int i) (.type "int")
 |str (x:Str):jB K H (.str x) (.type "str")
 |mH (x:UInt64):jB K H (.mH x) (.type "float")
 |lst {a:Addr} {xs:LV} (e:H a=some (.lst xs)):jB K H (.ref a) (.type "list")
 |aZ {a:Addr} {o:Obj} {xs:LV} (e:H a=some (.aZ o (.lst xs))):jB K H (.ref a) (.type "list")
 |tup {a:Addr} {xs:LV} (e:H a=some (.tup xs)):jB K H (.ref a) (.type "tuple")
 |dK {a:Addr} {kvs:List (Key×V)} (e:H a=some (.dK kvs)):jB K H (.ref a) (.type "dict")
 |dT {a:Addr} {kvs:List (List bB×V)} (e:H a=some (.dT kvs)):jB K H (.ref a) (.type "dict")
 |ins {a C dx:Addr} {fs:List (Str×V)} (e:H a=some (.ins C dx fs)) (cl:cI K C) (ha:PySem.W.findIn K (.ref C) "__class__" =some (some (.builtin "object.__class__")))
  (hn:PySem.W.specialIn K (.builtin "object.__class__") "__get__" =some (some (.builtin "getset_descriptor.__get__"))) (htk:PySem.W.takesIn K (.builtin "object.__class__")=some true)
  (hm:PySem.W.mroIn K C (.type "object")=some true):jB K H (.ref a) (.ref C)
end
structure aJ(k:Nat)(A:Around):Prop where
 hd:A.handled=none
 dp:A.depth+3*k+5<recursionLimit
 un:A.units+16*k+200<cLine
theorem aJ.mono(r:aJ k A)(h:j<=k):aJ j A:=⟨r.hd,by have:=r.dp;omega,by have:=r.un;omega⟩
theorem aJ.deeper(r:aJ (k+1) A)(env):aJ k (A.deeper env):=
 ⟨r.hd,by have:=r.dp;show A.depth+1+3*k+5<_;omega,by have:=r.un;show A.units+3+16*k+200<_;omega⟩
theorem Tt{A:Around}{us:ak}:(A.under (.builtin "type.__call__" ⟨.ref C::us,kw⟩)).depth=A.depth+1:=by
 first|rfl|simp[Around.under,Code.weight,Code.isCreation,Code.isGuard,Code.isCaller,Code.frames,Code.isFrame,guardIds]
theorem Ts{A:Around}{us:ak}:(A.under (.builtin "type.__call__" ⟨.ref C::us,kw⟩)).units=A.units+1:=by
 first|rfl|simp[Around.under,Code.cUnits,Code.frames,Code.isFrame]
theorem aJ.make(r:aJ (k+1) A)(C)(us)(a:List (Str×Value)):aJ k (A.under (.builtin "type.__call__" ⟨.ref C::us,a⟩)):=
 ⟨r.hd,by have:=r.dp;rw[Tt];omega,by have:=r.un;rw[Ts];omega⟩
theorem aJ.depth(r:aJ k A):A.depth<recursionLimit:=by have:=r.dp;omega
theorem aJ.units(r:aJ k A):A.units+64<cLine:=by have:=r.un;omega
def ze:TA:=λ_ H Q=>Q [] H
def qxt(ta:TE)(tr:TA):TA:=λσ H Q=>ta σ H λx H1=>tr σ H1 λxs H2=>Q (x::xs) H2
section
variable {X:Cx}{e:Expr}{es:bb}{te:TE}{t:TA}{pos:Pos}
theorem Yi:PA X [] ze:=λ_ _ _ _ H Q I h=>Calls.spliced_nil ⟨[],H,I,.nil,h⟩
theorem Wy(d:PE X e te)(f:PA X es t)(hs:starEach (e::es) X.env=(false,eval e X.env)::starEach es X.env:=by rfl):PA X (e::es) (qxt te t):=by
 intro pos a s b H Q I h;rw[hs];show wpAny _ _ (spliced ((false,eval e X.env)::backTo pos (starEach es X.env))) _ _ s;refine Calls.spliced_cons (az (d a s b H _ I h) λu i k=>?_);obtain⟨x,H1,c,r1,g⟩:=k
 exact az (f pos a i b H1 _ c g) λus l ⟨j,H2,I2,r2,q2⟩=>⟨x::j,H2,I2,.cons r1 r2,q2⟩
def QQ(t:TA):TE:=λσ H Q=>t σ H λxs H1=>xs.length<=sizeLine/\∀p,H1 p=none->Q (.ref p) (upd H1 p (.tup xs))
def QW(t:TA):TE:=λσ H Q=>t σ H λxs H1=>xs.length<=sizeLine/\∀p,H1 p=none->Q (.ref p) (upd H1 p (.lst xs))
theorem YM{x1}(h:PA X es t):PE X (.Tuple es x1 pos) (QQ t):=by
 intro a s g H Q I d;refine wpAny_Tuple_spliced (az (h pos a s g H _ I d) λus b ⟨f,H1,I1,r,z,q⟩=>⟨by rw[<-r.length];exact z,?_⟩)
 have c:H1 b.heap.objs.size=none:=I1.av.fresh (aN _);refine⟨.ref b.heap.objs.size,upd H1 b.heap.objs.size (.tup f),I1.laid (t':=b.toks) (λb u e=>bz _ e) (aN _) ?_,rfl,q _ c⟩
 exact⟨z,us,r,⟨_,dv _ rfl,rfl,_,rfl⟩⟩
theorem Mc(h:PA X es t):PE X (.List es pos) (QW t):=by
 intro a s g H Q I d;refine wpAny_List_spliced (az (h pos a s g H _ I d) λus b ⟨f,H1,I1,r,z,q⟩=>⟨by rw[<-r.length];exact z,?_⟩)
 have c:H1 b.heap.objs.size=none:=I1.av.fresh (aN _);refine⟨.ref b.heap.objs.size,upd H1 b.heap.objs.size (.lst f),I1.laid (t':=b.toks) (λb u e=>bz _ e) (aN _) ?_,rfl,q _ c⟩
 exact⟨z,us,0,r,dv _ rfl⟩
end
abbrev Sp:=LV->Hp->VK->XK->Prop
abbrev jh:=List Env->Hp->Shared->XK->aQ
structure fW(P:Program)(w:World)(K:ag)(mg:bq)(base:Heap)(A:Around)(outer:List Env)(s:Shared)(H:Hp):Prop where
 frames:A.frames=some outer
 mod:Mod K mg base
 bs:∀b o,base.get? b=some o->s.heap.get? b=some o/\H b=none
 jj:base.objs.size<=s.heap.objs.size
 dM:s.heap.FunFrames base outer
 nN:∀b∈ik outer,H b=none
 av:cJ P w H s.heap
 bare:AllBare s.gens
def CE(a:List Env)(P:Program)(w:World)(H:Hp)(s:Shared)(Q:VK)(u:Value)(b:Shared):Prop:=
 ∃v c,b.os=s.os/\AllBare b.gens/\Un (ik a) [] H c s.heap b.heap/\cJ P w c b.heap/\RelV v u/\Q v c
def CR(c:jh)(a:List Env)(P:Program)(w:World)(H:Hp)(s:Shared)(Q:VK)(E:XK)(r:Result)(b:Shared):Prop:=
 match r with
 | .ok (.ret u)=>CE a P w H s Q u b
 | .ok _=>False
 | .error e=>c a H s E e b
structure dm(P:Program)(w:World)(K:ag)(mg:bq)(base:Heap)(CX:jh)(k:Nat)(f:Addr)(fd:FuncData)(ps:aB)(sp:Sp):Prop where
 len:∀vs H Q E,sp vs H Q E->vs.length=ps.length
 run:∀(A:Around) (outer:List Env) (s:Shared) (H:Hp) (args:Args) (us:ak) (vs:LV) (Q:VK) (E:XK),aJ k A->fW P w K mg base A outer s H->BindsTo s fd args (ps.zip us)->Vals vs us->sp vs H Q E->
  codeAny (model P w) A (.call (.ref f) args) (CR CX outer P w H s Q E) s
theorem fW.make{P:Program}{K:ag}{s:Shared}(e:fW P w K mg base A outer s H)(C)(us)(a:List (Str×Value)):
 fW P w K mg base (A.under (.builtin "type.__call__" ⟨.ref C::us,a⟩)) outer s H:=⟨by first|exact e.frames|(simpa[Around.under,Code.envs,Code.isFrame,pushEnvs]using e.frames),e.mod,e.bs,e.jj,e.dM,e.nN,e.av,e.bare⟩
section
variable {X:Cx}{pins:aH}{σ:St}{H:Hp}{s s':Shared}
theorem Inv.tV(I:Inv X pins σ H s):fW X.prog X.w X.K X.mg X.base X.A X.stack s H:=
 ⟨I.ok.frames,I.ok.mod,I.bs,bQ I.ok.jj I.sz,I.stack,I.fH,I.av,I.bare⟩
theorem Inv.after(I:Inv X pins σ H s)(h:CE X.stack X.prog X.w H s Q u s'):EP X pins σ Q u s':=by
 obtain⟨v,c,os,a,un,e,r,q⟩:=h;obtain⟨f,g,d,t,b⟩:=s';obtain rfl:b=s.os:=os;exact⟨v,c,I.call (h':=f) (g':=g) (d':=d) (t':=t) (ch:=[]) un e a (λb z=>aS z (by simp)),r,q⟩
end
def NB(sp:Sp)(dvs:LV)(E:XK)(t:TA):TE:=λσ H Q=>t σ H λvs H1=>sp (vs++dvs) H1 Q E
noncomputable def BS (C:Addr)(m:Str)(sp:Sp)(dvs:LV)(E:XK)(ta:TE)(t:TA):TE:=λσ H Q=>ta σ H λx H1=>∃a dx fs,x= .ref a/\H1 a=some (.ins C dx fs)/\fs.lookup m=none/\
 t σ H1 λvs H2=>sp (x::(vs++dvs)) H2 Q E
noncomputable def NA (C:Addr)(sp:Sp)(dvs:LV)(E:XK)(t:TA):TE:=λσ H Q=>t σ H λvs H1=>∀x dx,H1 x=none->H1 dx=none->dx≠x->
 sp (.ref x::(vs++dvs)) (upd (upd H1 dx (.own x)) x (.ins C dx [])) (λv H2=>v= .aq/\Q (.ref x) H2) E
def Binds(K:ag)(a:FuncData)(ps:aB)(ds:ak):Prop:=
 ∀s us,K.In s.heap->(us++ds).length=ps.length->BindsTo s a ⟨us,[]⟩ (ps.zip (us++ds))
theorem Binds.all{K:ag}{ps:aB}(h:∀us:ak,us.length=ps.length->bindArgs fd ⟨us,[]⟩=pure (ps.zip us)):Binds K fd ps []:=λs us _ a=>by
 rw[oE]at a ⊢;exact .of_eq (h us a)
def Passes(c:jh)(X:Cx)(E:XK):Prop:=∀a d H s e b,Inv X a d H s->c X.stack H s E e b->X.xe e b
section
variable {X:Cx}{CX:jh}{k:Nat}{f C:Addr}{fd:FuncData}{ps:aB}{sp:Sp}{dvs:LV}{ds:ak}{E:XK}{x m:Str}{p pos apos:Pos}{e o:Expr}{es:bb}{ta:TE}{t:TA}
theorem vA{s:Shared}{us:ak}{vs:LV}(F:dm X.prog X.w X.K X.mg X.base CX k f fd ps sp)(g:aJ k X.A)(b:Binds X.K fd ps ds)(c:Vals dvs ds)(hx:Passes CX X E)
 (I:Inv X pins σ H s) (r:Vals vs us) (h:sp (vs++dvs) H Q E):wpAny (model X.prog X.w) X.A (call (.ref f) us) (EP X pins σ Q) X.xe s:=by
 have r2:Vals (vs++dvs) (us++ds):=r.append c;have d:(us++ds).length=ps.length:=by rw[<-r2.length];exact F.len _ _ _ _ h
 refine wpAny_call (codeAny_mono (F.run X.A X.stack s H ⟨us,[]⟩ (us++ds) (vs++dvs) Q E g I.tV (b s us I.de d) r2 h) λr i a=>?_)
 cases r with
 |error e=>exact hx pins σ H s e i I a
 |ok fl=>
  cases fl with
  |ret u=>exact I.after a
  |next=>exact False.elim a
  |brk=>exact False.elim a
  |cont=>exact False.elim a
theorem Ww(F:dm X.prog X.w X.K X.mg X.base CX k f fd ps sp)(v:aJ k X.A)(l:Gl X x)(u:X.mg x=some (.ref f))(n:PySem.W.keepIn X.K (.ref f)=true)(g:Binds X.K fd ps ds)(i:Vals dvs ds)(hx:Passes CX X E)
 (d:PA X (e::es) t) (b:(x==("__debug__":Str))=false:=by decide) (j:starEach (e::es) X.env=(false,eval e X.env)::starEach es X.env:=by rfl) (c:(backTo pos (starEach es X.env)).any (·.1)=false:=by rfl):
 PE X (.Call (.Name x p) (e::es) [] pos) (NB sp dvs E t):=by
 intro a s w H Q I h;refine wpAny_Call_Name_kw (nR I l u ?_ b);refine zM (h₀:=X.base) I.ok.mod.iq n (az (d pos a s w H _ I h) λus y ⟨vs,H1,I1,r,q⟩=>⟨I1.de,?_⟩) j c
 exact vA F v g i hx I1 r q
theorem U6(F:dm X.prog X.w X.K X.mg X.base CX k f fd ps sp)(l:aJ k X.A)(g:Gl X x)(j:X.mg x=some (.ref f))(i:PySem.W.keepIn X.K (.ref f)=true)(c:Binds X.K fd ps ds)(d:Vals dvs ds)(hx:Passes CX X E)
 (a:(x==("__debug__":Str))=false:=by decide):PE X (.Call (.Name x p) [] [] pos) (NB sp dvs E ze):=by
 intro b s n H Q I h;refine wpAny_Call_Name_kw (nR I g j ?_ a);exact PySem.W.callWith_K0 I.de i (vA (us:=[]) F l c d hx I .nil h)
theorem W9(D:PE X o ta)(c:cI X.K C)(j:Meth X.K C m f)(F:dm X.prog X.w X.K X.mg X.base CX k f fd ps sp)(J:aJ k X.A)(z:Binds X.K fd ps ds)(A:Vals dvs ds)(hx:Passes CX X E)(y:PA X (e::es) t)
 (g:starEach (e::es) X.env=(false,eval e X.env)::starEach es X.env:=by rfl) (d:(backTo pos (starEach es X.env)).any (·.1)=false:=by rfl)
 (L:eval (.Call (.Attribute o m apos) (e::es) [] pos) X.env=(do
  let n<-eval o X.env
  standAt apos.atName
  let(f,first) <-holding [n] (getMethod n m pl)
  callWith pos f first (backTo pos (starEach (e::es) X.env)) (backToKw pos (keywordEach [] X.env))):=by rfl):
 PE X (.Call (.Attribute o m apos) (e::es) [] pos) (BS C m sp dvs E ta t):=by
 intro b s v H Q I h;refine PySem.W.methodCall_KW (pl:=pl) (az (D b s v H _ I h) λu N O=>?_) L;obtain⟨x,H1,i,M,a,R,U,ex,w,l,q⟩:=O
 subst ex;obtain rfl:u=Value.ref a:=M;refine JE i w c j l ?_;refine zM (first:=[.ref a]) (h₀:=X.base) I.ok.mod.iq j.kp (az (y pos b N v H1 _ i q) λus W ⟨vs,H2,I2,r,q2⟩=>⟨I2.de,?_⟩) g d
 exact vA (us:=.ref a::us) (vs:=.ref a::vs) F J z A hx I2 (.cons rfl r) q2
theorem UY(v:PE X o ta)(c:cI X.K C)(g:Meth X.K C m f)(F:dm X.prog X.w X.K X.mg X.base CX k f fd ps sp)(w:aJ k X.A)(n:Binds X.K fd ps ds)(r:Vals dvs ds)(hx:Passes CX X E)
 (y:eval (.Call (.Attribute o m apos) [] [] pos) X.env=(do
  let i<-eval o X.env
  standAt apos.atName
  let(f,first) <-holding [i] (getMethod i m pl)
  callWith pos f first (backTo pos (starEach [] X.env)) (backToKw pos (keywordEach [] X.env))):=by rfl):
 PE X (.Call (.Attribute o m apos) [] [] pos) (BS C m sp dvs E ta ze):=by
 intro b s D H Q I h;refine PySem.W.methodCall_KW (pl:=pl) (az (v b s D H _ I h) λu M A=>?_) y;obtain⟨x,H1,d,z,a,J,L,ex,j,l,q⟩:=A
 subst ex;obtain rfl:u=Value.ref a:=z;refine JE d j c g l ?_;exact PySem.W.callWith_K0 (first:=[.ref a]) d.de g.kp (vA (us:=[.ref a]) (vs:=[.ref a]) F w n r hx d (.cons rfl .nil) q)
structure Mk(K:ag)(C f:Addr):Prop where
 makes:PySem.W.makesIn K C=true
 init:PySem.W.findIn K (.ref C) "__init__" =some (some (.ref f))
 fn:PySem.W.isFn K (.ref f)=true
 kp:PySem.W.keepIn K (.ref C)=true
theorem KG{s:Shared}{us:ak}{vs:LV}(M:Mk X.K C f)(F:dm X.prog X.w X.K X.mg X.base CX k f fd ps sp)(y:aJ (k+1) X.A)(l:Binds X.K fd ps ds)(n:Vals dvs ds)
 (hx:Passes CX X E) (I:Inv X pins σ H s) (r:Vals vs us)
 (h:∀x c,H x=none->H c=none->c≠x->sp (.ref x::(vs++dvs)) (upd (upd H c (.own x)) x (.ins C c [])) (λv i=>v= .aq/\Q (.ref x) i) E):
 wpAny (model X.prog X.w) X.A (call (.ref C) us) (EP X pins σ Q) X.xe s:=by
 have d:=h (s.heap.objs.size+1) s.heap.objs.size (I.av.fresh (iU _)) (I.av.fresh (aN _)) (cE (Nat.lt_succ_self _));have b:=Inv.made (C:=C) I;have r2:Vals (V.ref (s.heap.objs.size+1)::(vs++dvs)) (Value.ref (s.heap.objs.size+1)::(us++ds)):=.cons rfl (r.append n);have w:(Value.ref (s.heap.objs.size+1)::us++ds).length=ps.length:=by
  have e:=r2.length;rw[F.len _ _ _ _ d]at e;exact e.symm
 refine wpAny_call (Vg (f:=f) I.de M.makes M.init (eQ.mp M.fn) (codeAny_mono (F.run _ X.stack _ _ ⟨Value.ref (s.heap.objs.size+1)::us,[]⟩ (Value.ref (s.heap.objs.size+1)::(us++ds)) _ _ E (y.make C us [])
  (b.tV.make C us []) (l _ (Value.ref (s.heap.objs.size+1)::us) b.de w) r2 d) λr A a=>?_))
 cases r with
 |error e=>exact hx pins σ _ _ e A b a
 |ok fl=>
  cases fl with
  |ret u=>
   obtain⟨v,g,j,rv,ev,z⟩:=b.after a;subst ev;exact⟨rv,⟨V.ref (s.heap.objs.size+1),g,j,rfl,z⟩⟩
  |next=>exact False.elim a
  |brk=>exact False.elim a
  |cont=>exact False.elim a
theorem Wt(M:Mk X.K C f)(F:dm X.prog X.w X.K X.mg X.base CX k f fd ps sp)(u:aJ (k+1) X.A)(l:Gl X x)(n:X.mg x=some (.ref C))(g:Binds X.K fd ps ds)(i:Vals dvs ds)(hx:Passes CX X E)
 (d:PA X (e::es) t) (b:(x==("__debug__":Str))=false:=by decide) (j:starEach (e::es) X.env=(false,eval e X.env)::starEach es X.env:=by rfl) (c:(backTo pos (starEach es X.env)).any (·.1)=false:=by rfl):
 PE X (.Call (.Name x p) (e::es) [] pos) (NA C sp dvs E t):=by
 intro a s v H Q I h;refine wpAny_Call_Name_kw (nR I l n ?_ b);refine zM (h₀:=X.base) I.ok.mod.iq M.kp (az (d pos a s v H _ I h) λus w ⟨vs,H1,I1,r,q⟩=>⟨I1.de,?_⟩) j c
 exact KG M F u g i hx I1 r q
theorem UZ(M:Mk X.K C f)(F:dm X.prog X.w X.K X.mg X.base CX k f fd ps sp)(j:aJ (k+1) X.A)(g:Gl X x)(i:X.mg x=some (.ref C))(c:Binds X.K fd ps ds)(d:Vals dvs ds)(hx:Passes CX X E)
 (a:(x==("__debug__":Str))=false:=by decide):PE X (.Call (.Name x p) [] [] pos) (NA C sp dvs E ze):=by
 intro b s l H Q I h;refine wpAny_Call_Name_kw (nR I g i ?_ a);exact PySem.W.callWith_K0 I.de M.kp (KG (us:=[]) M F j c d hx I .nil h)
end
section
variable {X:Cx}{CX:jh}{k:Nat}{f C:Addr}{fd:FuncData}{ps ks:aB}{sp:Sp}{E:XK}{x m:Str}{p pos apos kpos:Pos}{e o:Expr}{es:bb}{kws:List Keyword}{te ta:TE}{t tk:TA}{nm:Option Str}
structure qDQ(K:ag)(fd:FuncData)(ps ks:aB)(g:ak->ak->ak)(gV:LV->LV->LV):Prop where
 to:∀(s:Shared) (us ws:ak),K.In s.heap->(g us ws).length=ps.length->BindsTo s fd ⟨us,ks.zip ws⟩ (ps.zip (g us ws))
 rel:∀{vs:LV} {us:ak} {zs:LV} {ws:ak},Vals vs us->Vals zs ws->Vals (gV vs zs) (g us ws)
variable {g:ak->ak->ak}{gV:LV->LV->LV}
end
structure rO(N P:aB)(sc:Scope):Prop where
 kind:sc.kind= .function
 co:sc.isCoroutine=false
 gen:sc.isGenerator=false
 nd:N.Nodup
 pre:N.take P.length=P
 par:∀x∈P,sc.names.lookup x=some .local∨sc.names.lookup x=some .cell
 pE:∀y∈sc.names,y.2≠.free
theorem Ks{b:Str->Option NameKind}{x:Str}:∀{a:List (Str×Value)} {m:bq},(∀v,(x,v)∉a)->bindL b a m x=m x
 | [],_,_=>rfl
 |(n,v)::r,m,h=>by
  unfold bindL;rw[Ks λw c=>h w (gv _ c)]
  split
  . have:x≠n:=by rintro rfl;exact h v iR
    simp[this]
  . rfl
theorem Kv{b:Str->Option NameKind}{x:Str}:∀{a:List (Str×Value)} {m:bq},(∀v,(x,v)∉a)->bindC b a m x=m x
 | [],_,_=>rfl
 |(n,v)::r,m,h=>by
  unfold bindC;rw[Kv λw c=>h w (gv _ c)]
  split
  . rfl
  . have:x≠n:=by rintro rfl;exact h v iR
    simp[this]
theorem Ku{a:Str->Option NameKind}{x:Str}{v:Value}:∀{P:aB} {vs:ak} {i:Nat} {m:bq},P.Nodup->P[i]? =some x->vs[i]? =some v->a x=some .local->
 bindL a (P.zip vs) m x=some v
 | [],_,_,_,_,h,_,_=>by simp at h
 |_::_,[],_,_,_,_,h,_=>by simp at h
 |p::P,w::vs,0,m,nd,h1,h2,hk=>by
  simp at h1 h2;subst h1;subst h2;show bindL a ((p,w)::P.zip vs) m p=_;unfold bindL;rw[Ks λv b=>(iT.mp nd).1 (List.of_mem_zip b).1,ah hk]
  simp
 |p::P,w::vs,i+1,m,nd,h1,h2,hk=>by
  show bindL a ((p,w)::P.zip vs) m x=_;unfold bindL;exact Ku (i:=i) (iT.mp nd).2 (by simpa using h1) (by simpa using h2) hk
theorem Kx{a:Str->Option NameKind}{x:Str}{v:Value}:∀{P:aB} {vs:ak} {i:Nat} {m:bq},P.Nodup->P[i]? =some x->vs[i]? =some v->a x≠some .local->
 bindC a (P.zip vs) m x=some v
 | [],_,_,_,_,h,_,_=>by simp at h
 |_::_,[],_,_,_,_,h,_=>by simp at h
 |p::P,w::vs,0,m,nd,h1,h2,hk=>by
  simp at h1 h2;subst h1;subst h2;show bindC a ((p,w)::P.zip vs) m p=_;unfold bindC;rw[Kv λv b=>(iT.mp nd).1 (List.of_mem_zip b).1,ae hk]
  simp
 |p::P,w::vs,i+1,m,nd,h1,h2,hk=>by
  show bindC a ((p,w)::P.zip vs) m x=_;unfold bindC;exact Kx (i:=i) (iT.mp nd).2 (by simpa using h1) (by simpa using h2) hk
noncomputable def start (N:aB)(vs:LV):St:=vs.map some++List.replicate (N.length-vs.length) none
noncomputable def oh (CX:jh)(P:Program)(w:World)(K:ag)(mg:bq)(base:Heap)(N:aB)(qual:Str)(scope:Scope)(f:Addr)(cd:Value)(A:Around)(outer:List Env)(s:Shared)(H:Hp)(E:XK):Cx where
 prog:=P
 w:=w
 K:=K
 mg:=mg
 base:=base
 A:=A.deeper (envOfC qual scope s.heap.objs.size f cd)
 N:=N
 s₀:=s
 H₀:=H
 env:=envOfC qual scope s.heap.objs.size f cd
 outer:=outer
 stack:=envOfC qual scope s.heap.objs.size f cd::outer
 ex:=[]
 calm:=true
 fn:=λ_=>true
 pn:=[]
 xe:=λe s'=>wpAny (model P w) (A.deeper (envOfC qual scope s.heap.objs.size f cd)) (leaving (envOfC qual scope s.heap.objs.size f cd) e) (λ_ s''=>CX outer H s E e s'') (λe' s''=>CX outer H s E e' s'') s'
theorem KP{sc:Scope}{n:Nat}{x:Str}(h:sc.names.lookup x=some .cell):∃c,(cellsFrom n sc.names []).lookup x=some c:=by
 have q:=PySem.W.cellsFrom_some sc.names n [] (.inl h);exact zR.mp q
theorem Ud{P:Program}{K:ag}{cd:Value}{A:Around}{s s1:Shared}{us:ak}{vs:LV}
 (S:rO N ps scope) (F:A.handled=none) (e0:fW P w K mg base A outer s H) (L:vs.length=ps.length) (r:Vals vs us)
 (x:InCallC s s.heap.objs.size (bindL (envOfC qual scope s.heap.objs.size f cd).kindOf (ps.zip us) λ_=>none) (cellsFrom (s.heap.objs.size+1) scope.names []) (bindC (envOfC qual scope s.heap.objs.size f cd).kindOf (ps.zip us) λ_=>none) s1):
 Inv (oh CX P w K mg base N qual scope f cd A outer s H E) [] (start N vs) H s1:=by
 have I:ps.length<=N.length:=by have:=congrArg List.length S.pre;rw[List.length_take]at this;omega
 obtain⟨o,M,rfl,t⟩:=x.done;have j:∀b:Addr,b∉(oh CX P w K mg base N qual scope f cd A outer s H E).ex:=λb z=>aS (show b∈([]:List Addr)from z) (by simp)
 refine⟨⟨e0.mod,S.kind,rfl,rfl,aN _,λy z c o d=>?_,λy g=>?_,λy c _ h=>?_,λ_=>F,Around.frames_deeper e0.frames,.inr ⟨rfl,rfl⟩,λb z=>aS z (j b),e0.bs,e0.jj,λb _ _=>j b,λb z=>aS z (j b),e0.dM,e0.nN⟩,
  rfl,e0.bare,Un.kept t,⟨_,x.toInCall.ns,λi y v o d J=>?_⟩,λy c h=>⟨_,x.cell y c h⟩,e0.av.fresh (aN _),λy c h=>?_,λp l=>aS (show p∈([]:aH)from l) (by simp),e0.av.kept t,?_⟩
 . exact name_of_addr x.apart (PySem.mem_of_lookup o) (PySem.mem_of_lookup d)
 . have g:scope.names.lookup y=some .cell∨scope.names.lookup y=some .free:=g
   rcases g with g|g
   . exact KP g
   . exact aS rfl (S.pE _ (PySem.mem_of_lookup g))
 . exact kh (x.above y c (PySem.mem_of_lookup h))
 . have hi:i<vs.length:=by
    unfold start at d
    by_cases hi:i<vs.length
    . exact hi
    . rw[List.getElem?_append_right (by simpa using hi)]at d
      rw[List.getElem?_replicate]at d;split at d<;>cases d
   have D:vs[i]? =some v:=by
    unfold start at d;rw[qM (by simpa using hi),fJ]at d
    cases e:vs[i]? with
    |none=>rw[e]at d;cases d
    |some a=>rw[e]at d;cases d;rfl
   obtain⟨u,C,rv⟩:=r.get D;have l:ps[i]? =some y:=by
    rw[<-S.pre,List.getElem?_take_of_lt (by omega)];exact o
   have m:ps.Nodup:=by rw[<-S.pre];exact S.nd.sublist (List.take_sublist _ _)
   refine⟨u,rv,?_⟩;rcases S.par y (jH l)with k|k
   . exact .inl ⟨k,Ku m l C k⟩
   . obtain⟨c,e⟩:=KP (n:=s.heap.objs.size+1) k
     refine .inr ⟨.inl k,c,e,?_⟩;have q:=x.cell y c e;rw[Kx m l C (by show scope.names.lookup y≠_;rw[k];decide)]at q
     exact q
 . exact e0.av.fresh (kh (x.above y c (PySem.mem_of_lookup h)))
 . unfold start
   show _=N.length;rw[fe,ba,zK];omega
theorem qy1{P:Program}{K:ag}{f:Addr}{body:List Stmt}{dV kV doc pm cdv ct oc:Value}{an od:Option Addr} {sp:Sp} (lk:K.lookup f=some ⟨oc,od,.func (PySem.W.fnOf name qual params body scope dV kV doc pm an cdv ct),osl⟩) (hcd:PySem.W.codeIn K cdv qual=true) (S:rO N ps scope)
 (len:∀vs H Q E,sp vs H Q E->vs.length=ps.length)
 (hbody:∀(A:Around) (outer:List Env) (s:Shared) (H:Hp) (vs:LV) (Q:VK) (E:XK),aJ k (A.deeper (envOfC qual scope s.heap.objs.size f cdv))->sp vs H Q E->
  ∃t,fY (oh CX P w K mg base N qual scope f cdv A outer s H E) body t/\t { nx:=λ_ H'=>Q .aq H',rt:=Q } (start N vs) H):
 dm P w K mg base CX (k+1) f (PySem.W.fnOf name qual params body scope dV kV doc pm an cdv ct) ps sp:=by
 refine⟨len,λA outer s H args us vs Q E hr e0 hb r hsp=>?_⟩
 have hl:=len _ _ _ _ hsp;have KX:K.In s.heap:=e0.mod.iq.keeps λb o e=>(e0.bs b o e).1
 have lim:s.heap.NoLimit:=e0.mod.nolimit.keeps λb o e=>(e0.bs b o e).1
 have bH:∀y∈ps.zip us,scope.names.lookup y.1=some .local∨(scope.names.lookup y.1=some .cell/\((cellsFrom (s.heap.objs.size+1) scope.names []).lookup y.1).isSome=true):=λ⟨n,v⟩ hy=>by
  rcases S.par n (List.of_mem_zip hy).1 with q|q
  . exact .inl q
  . exact .inr ⟨q,PySem.W.cellsFrom_some _ _ _ (.inl q)⟩
 refine codeAny_call_function hr.depth (KX _ _ lk) rfl S.co S.gen rfl (PySem.W.codeRec_of KX hcd) (hb _ _ _ _ ?_);refine wpAny_newFunctionEnv_cells S.kind bH λenv he s1 x=>?_
 subst he;refine⟨lim.keeps x.toInCall.keep,codeAny_func ?_⟩;obtain⟨t,ht,hq⟩:=hbody A outer s H vs Q E (hr.deeper _) hsp;have I:Inv (oh CX P w K mg base N qual scope f cdv A outer s H E) [] (start N vs) H s1:=Ud S hr.hd e0 hl r x;refine gw (ht [] s1 (start N vs) H _ I hq) (λfl s' hs=>?_) λe s' hs=>hs
 have fin:∀{σ':St} {H':Hp} {v:V} {u:Value},Inv (oh CX P w K mg base N qual scope f cdv A outer s H E) [] σ' H' s'->RelV v u->Q v H'->CE outer P w H s Q u s':=
  λ{σ' H' v u} J rv q=>⟨v,H',J.os,J.bare,J.base,J.av,rv,q⟩
 cases fl with
 |ret u=>
  obtain⟨v,σ',H',J,rv,q⟩:=hs;exact fin J rv q
 |next=>
  obtain⟨σ',H',J,q⟩:=hs;exact fin (v:=V.aq) (u:=Value.none) J rfl q
 |brk=>
  obtain⟨_,_,_,q⟩:=hs;exact False.elim q
 |cont=>
  obtain⟨_,_,_,q⟩:=hs;exact False.elim q
section
variable {X:Cx}{x:Str}{p pos:Pos}{e:Expr}{es:bb}{t:TA}{id T:String}{r:LV->Hp->VK->Prop}
def Dg(r:LV->Hp->VK->Prop)(t:TA):TE:=λσ H Q=>t σ H λvs H1=>r vs H1 Q
theorem U5(g:cM X (.builtin id) r)(j:Gl X x)(k:X.mg x=none)(m:bootBuiltins x=some (.builtin id))(f:PA X (e::es) t)(l:x≠"__name__":=by decide)(b:(x==("__debug__":Str))=false:=by decide)
 (i:starEach (e::es) X.env=(false,eval e X.env)::starEach es X.env:=by rfl) (c:(backTo pos (starEach es X.env)).any (·.1)=false:=by rfl):PE X (.Call (.Name x p) (e::es) [] pos) (Dg r t):=by
 intro a s d H Q I h;refine wpAny_Call_Name_kw (m4 I j k m ?_ l b);exact PyProof.Rows.callWith_builtin1 (az (f pos a s d H _ I h) λus n ⟨vs,H1,I1,r1,q1⟩=>g a n d H1 vs us Q I1 r1 q1) i c
theorem Ul(g:cM X (.type T) r)(j:Gl X x)(k:X.mg x=none)(m:bootBuiltins x=some (.type T))(f:PA X (e::es) t)(l:x≠"__name__":=by decide)(b:(x==("__debug__":Str))=false:=by decide)
 (i:starEach (e::es) X.env=(false,eval e X.env)::starEach es X.env:=by rfl) (c:(backTo pos (starEach es X.env)).any (·.1)=false:=by rfl):PE X (.Call (.Name x p) (e::es) [] pos) (Dg r t):=by
 intro a s d H Q I h;refine wpAny_Call_Name_kw (m4 I j k m ?_ l b);exact sZ (az (f pos a s d H _ I h) λus n ⟨vs,H1,I1,r1,q1⟩=>g a n d H1 vs us Q I1 r1 q1) i c
end
end L2
namespace HT
open PySem PyProof.Rows
section
variable {prog:Program}{w:World}{A:Around}{E:aQ}{s:Shared}
theorem kl{t b:Addr}{vs ws:ak}{Q:aQ}(ht:IsTup s.heap t vs.toArray)(hb:IsTup s.heap b ws.toArray)(hv:vs≠[])
 (h1:ws= []->Q (.ref t) s) (h2:ws≠[]->Q (.ref s.heap.objs.size) { s with heap:=s.heap.push { cls:=.type "tuple",data:=.seq (vs++ws).toArray } })
 (hsz:vs.length+ws.length<=sizeLine):wpAny (model prog w) A (binaryOp .Add (.ref t) (.ref b)) Q E s:=by
 obtain⟨⟨cls,dd,data,sl⟩,ho,hc,n,hd⟩:=id ht;obtain⟨⟨cls2,dd2,data2,sl2⟩,ho2,hc2,n2,hd2⟩:=id hb;simp only at hc hd hc2 hd2;subst hc hd hc2 hd2;have e:vs.toArray++ws.toArray=(vs++ws).toArray:=by simp
 by_cases hw:ws= []
 . exact concat_meets ⟨_,ho,rfl⟩ ⟨_,ho2,rfl⟩ noFill_tuple_add seq_tuple_add PySem.F.slot_tuple_add PySem.F.entry_tuple_add (PySem.F.args_tuple_add_2 _ _)
    (tuple_addW1 t b vs.toArray ws.toArray n n2 dd dd2 sl sl2 (by simpa using hv) (by simp[hw])) ⟨ho,ho2,h1 hw⟩
 . refine concat_meets ⟨_,ho,rfl⟩ ⟨_,ho2,rfl⟩ noFill_tuple_add seq_tuple_add PySem.F.slot_tuple_add PySem.F.entry_tuple_add (PySem.F.args_tuple_add_2 _ _)
    (tuple_addW2 t b vs.toArray ws.toArray n n2 dd dd2 sl sl2 (by simpa using hv) (by simpa using hw) (by rw[dW,dW];exact hsz)) ⟨ho,ho2,?_⟩
   rw[e];exact h2 hw
noncomputable def aR (n d:Nat):Option Int->Nat
 |none=>d
 |some v=>if v<0 then(v+(n:Int)).toNat else min v.toNat n
theorem jC(n d):aR n d none=d:=rfl
theorem gZ(n d k:Nat):aR n d (some (k:Int))=min k n:=by
 show(if(k:Int)<0 then((k:Int)+(n:Int)).toNat else min (k:Int).toNat n)=min k n
 rw[ae (by omega),Int.toNat_natCast]
theorem XA(n d:Nat)(b:d<=n)(o:Option Int):aR n d o<=n:=by
 cases o with
 |none=>exact b
 |some v=>
  show(if v<0 then(v+(n:Int)).toNat else min v.toNat n)<=n
  by_cases a:v<0
  . rw[ah a];omega
  . rw[ae a];exact Nat.min_le_right _ _
theorem LO(v:Int)(n d:Nat):(if v<0 then max (v+(n:Int)) 0 else min v (n:Int))=((aR n d (some v):Nat):Int):=by
 show(if v<0 then max (v+(n:Int)) 0 else min v (n:Int))=(((if v<0 then(v+(n:Int)).toNat else min v.toNat n):Nat):Int)
 by_cases a:v<0
 . simp only[ah a];omega
 . simp only[ae a];omega
theorem T3(lo hi:Option Int)(n:Nat):Builtin.Slice.sliceAdjust lo hi 1 (n:Int)=(((aR n 0 lo:Nat):Int),((aR n n hi:Nat):Int)):=by
 have a:¬((1:Int)<0):=by omega
 unfold Builtin.Slice.sliceAdjust;simp only[a,if_false];refine Prod.ext ?_ ?_
 . cases lo with
   |none=>rfl
   |some v=>exact LO v n 0
 . cases hi with
   |none=>rfl
   |some v=>exact LO v n n
theorem Tp(i j:Nat):Builtin.Slice.slicePlaces (i:Int) (j:Int) 1=j-i:=by
 unfold Builtin.Slice.slicePlaces;have a:(1:Int) > 0:=by omega
 simp only[a,if_true,Int.ediv_one];split<;>omega
theorem JM{v:Value}(p:IsPart v o)(h:Q o s):wpAny (model prog w) A (Builtin.Slice.slicePartIndex v) Q E s:=by
 cases p with
 |none=>exact slicePart_none h
 |int i t=>exact slicePart_int h
theorem Jm{sl:Addr}{lo hi:Option Int}{n:Nat}(hs:s.heap.IsSliceOf sl vl vu .none)(pl:IsPart vl lo)(d:IsPart vu hi)
 (h:Q (((aR n 0 lo:Nat):Int),1,aR n n hi-aR n 0 lo) s):wpAny (model prog w) A (Builtin.Slice.sliceApplied (.ref sl) (pure (n:Int))) Q E s:=by
 obtain⟨e,b,c,a⟩:=id hs;unfold Builtin.Slice.sliceApplied Builtin.Slice.sliceFields;refine aj (aj (wpAny_field b a (x:=vl) rfl (aj (wpAny_field b a (x:=vu) rfl (aj (wpAny_field b a (x:=.none) rfl (aI ?_)))))));refine aj (slicePart_none ?_);show wpAny _ _ (if((1:Int)==0)=true then _ else _) _ _ s
 rw[ae (by decide)]
 refine aj (JM pl (aj (JM d (aj (aI ?_)))));show wpAny _ _ (match Builtin.Slice.sliceAdjust lo hi 1 (n:Int)with|(lo,hi)=>pure (lo,(1:Int),Builtin.Slice.slicePlaces lo hi 1)) _ _ s
 rw[T3 lo hi n];show wpAny _ _ (pure (((aR n 0 lo:Nat):Int),(1:Int),Builtin.Slice.slicePlaces ((aR n 0 lo:Nat):Int) ((aR n n hi:Nat):Int) 1)) _ _ s;rw[Tp];exact aI h
theorem VF(xs:Array Value)(i k:Nat):((List.range k).filterMap λ(m:Nat)=>xs[((i:Int)+(m:Int)*1).toNat]?).toArray=((xs.toList.drop i).take k).toArray:=by
 have e:(λ(m:Nat)=>xs[((i:Int)+(m:Int)*1).toNat]?)=λm=>xs[i+m]?:=by
  funext m;have:((i:Int)+(m:Int)*1).toNat=i+m:=by omega
  rw[this]
 rw[e];have:=pick_run xs i k;rw[List.filterMap_map]at this;have a:((λx=>xs[x]?) ∘ λx=>i+x)=λm=>xs[i+m]?:=rfl
 rw[a]at this;rw[this]
theorem cX{t sl:Addr}{lo hi:Option Int}(b:IsTup s.heap t items)(hs:s.heap.IsSliceOf sl vl vu .none)(pl:IsPart vl lo)(k:IsPart vu hi)
 (i:¬(aR items.size 0 lo=0/\aR items.size items.size hi=items.size))
 (h:Q (.ref s.heap.objs.size) { s with heap:=s.heap.push { cls:=.type "tuple",data:=.seq ((items.toList.drop (aR items.size 0 lo)).take (aR items.size items.size hi-aR items.size 0 lo)).toArray } })
 (hsz:items.size<=sizeLine):wpAny (model prog w) A (getItem (.ref t) (.ref sl)) Q E s:=by
 have a:sizeOk (.seq ((items.toList.drop (aR items.size 0 lo)).take (aR items.size items.size hi-aR items.size 0 lo)).toArray):=by
  show((items.toList.drop (aR items.size 0 lo)).take (aR items.size items.size hi-aR items.size 0 lo)).toArray.size<=sizeLine;rw[dW,List.length_take,List.length_drop,Array.length_toList];omega
 have l:aR items.size items.size hi<=items.size:=XA _ _ (aN _) hi;obtain⟨j,f,d,g⟩:=id hs;have c:s.TypeIs (.ref sl) "slice":=⟨j,f,d⟩;unfold getItem
 try with_reducible refine jM ?_
 first|refine aj (aI ?_)|skip
 refine aj (wpAny_sequenceKey b.typeIs (by decide) ?_)
 refine aj (wpAny_callSpecial?_slot (name:=Str.ofString "__getitem__") b.typeIs zQ
  (jE zQ b.typeIs entry_tuple_getitem ?_ (args_tuple_getitem _ _)))
 show wpAny _ _ (Builtin.Tuple.tupleItemsOf (.ref t) >>= _) _ _ s;refine aj (tupleItemsOf_ b ?_);refine aj (wpAny_typeOf c ?_);rw[ah (by decide)]
 refine aj (Jm hs pl k ?_);have e:¬((((aR items.size 0 lo:Nat):Int)==0&&(1:Int)==1&&(aR items.size items.size hi-aR items.size 0 lo)==items.size)=true):=by
  intro q;rw[aY,aY]at q;have n:((aR items.size 0 lo:Nat):Int)=0:=gh q.1.1;have o:aR items.size items.size hi-aR items.size 0 lo=items.size:=gh q.2;exact i ⟨by omega,by omega⟩
 show wpAny _ _ (if(((aR items.size 0 lo:Nat):Int)==0&&(1:Int)==1&&(aR items.size items.size hi-aR items.size 0 lo)==items.size)=true then _ else _) _ _ s
 rw[ae e,VF]
 first
  |exact aj (m:=Builtin.Tuple.tupleExact _) (j8 (aI ⟨_,rfl,aI h⟩) a)
  |exact aj (m:=Builtin.Tuple.tupleExact _) (j8 (aj (aI (aI ⟨_,rfl,aI h⟩))) a)
  |exact aj (aj (m:=Builtin.Tuple.tupleExact _) (j8 (aI (aI ⟨_,rfl,aI h⟩)) a))
  |exact aj (aj (m:=Builtin.Tuple.tupleExact _) (j8 (aI ⟨_,rfl,aI h⟩) a))
end
end HT
namespace L2
open PySem PySem.Spec PyProof.Rows
abbrev TO:=St->Hp->(Option Int->Hp->Prop)->Prop
def PO(X:Cx)(e:Option Expr)(t:TO):Prop:=
 ∀(a:aH) (s:Shared) (σ:St) (H:Hp) (Q:Option Int->Hp->Prop),Inv X a σ H s->t σ H Q->
  wpAny (model X.prog X.w) X.A (evalPart e X.env) (λu c=>∃o b,Inv X a σ b c/\IsPart u o/\Q o b) X.xe s
def Wm:TO:=λ_ H Q=>Q none H
def qxk(t:TE):TO:=λσ H Q=>t σ H λx H1=>∃i,x= .int i/\Q (some i) H1
section
variable {X:Cx}{e:Expr}{te:TE}{lo hi:Option Expr}{tl th:TO}{pos p2:Pos}
theorem W6:PO X none Wm:=by
 intro a s b H Q I h;rw[evalPart_none];exact aI ⟨none,H,I,.none,h⟩
theorem W5(h:PE X e te):PO X (some e) (qxk te):=by
 intro a s g H Q I c;rw[evalPart_some];refine az (h a s g H _ I c) λu j f=>?_;obtain⟨x,H1,b,r1,d⟩:=f
 obtain⟨i,rfl,q⟩:=d;obtain⟨t,rfl⟩:=r1;exact⟨some i,H1,b,.int i t,q⟩
def wX(X:Cx)(r:V->Option Int->Option Int->Hp->VK->Prop):Prop:=
 ∀(a:aH) (s:Shared) (σ:St) (H:Hp) (x:V) (v vl vu:Value) (lo hi:Option Int) (sl:Addr) (Q:VK),Inv X a σ H s->RelV x v->s.heap.IsSliceOf sl vl vu .none->IsPart vl lo->IsPart vu hi->r x lo hi H Q->
  ∃T id,typeLookup (.type T) "__getitem__" =pure (some (.builtin id))/\s.TypeIs v T/\wpAny (model X.prog X.w) X.A (getItem v (.ref sl)) (EP X a σ Q) X.xe s
noncomputable def tSl (r:V->Option Int->Option Int->Hp->VK->Prop)(te:TE)(tl th:TO):TE:=λσ H Q=>te σ H λx H1=>tl σ H1 λl H2=>th σ H2 λu H3=>r x l u H3 Q
theorem VG(hr:wX X r)(he:PE X e te)(hl:PO X lo tl)(hu:PO X hi th):PE X (.Subscript e (.Slice lo hi none p2) pos) (tSl r te tl th):=by
 intro pins s σ H Q I h;refine Subscript_ (az (he pins s σ H _ I h) λv s1 zz=>?_);obtain⟨x,H1,I1,r1,q1⟩:=zz
 refine wpAny_Slice (az (hl pins s1 σ H1 _ I1 q1) λvl s2 ⟨l,H2,I2,pl,q2⟩=>az (hu pins s2 σ H2 _ I2 q2) λvu s3 zz=>?_);obtain⟨u,H3,I3,pu,q3⟩:=zz
 rw[evalPart_none];refine aI ?_;have I4:Inv X pins σ H3 { s3 with heap:=s3.heap.push { cls:=.type "slice",data:=.fields #[vl,vu,.none] } }:=I3.kept (t':=s3.toks) λb ob q=>bz _ q
 obtain⟨T,id,hT,ht,hg⟩:=hr pins { s3 with heap:=s3.heap.push { cls:=.type "slice",data:=.fields #[vl,vu,.none] } } σ H3 x v vl vu l u s3.heap.objs.size Q I4 r1 (Heap.IsSliceOf.new ..) pl pu q3
 show wpAny (model X.prog X.w) X.A (subscriptTail e (.Slice lo hi none p2) v (.ref s3.heap.objs.size)) (EP X pins σ Q) X.xe { s3 with heap:=s3.heap.push { cls:=.type "slice",data:=.fields #[vl,vu,.none] } }
 exact tail_any (ops:=[.ref s3.heap.objs.size,v]) ht hT hg (by with_unfolding_all rfl)
noncomputable def oj (xs:LV)(lo hi:Option Int):LV:=(xs.drop (HT.aR xs.length 0 lo)).take (HT.aR xs.length xs.length hi-HT.aR xs.length 0 lo)
theorem JU(xs)(lo hi:Option Int):(oj xs lo hi).length<=xs.length:=by
 unfold oj;rw[List.length_take,List.length_drop];omega
noncomputable def Rm (K:ag):V->Option Int->Option Int->Hp->VK->Prop:=λx lo hi H Q=>∃a b,x= .ref a/\bL K H a b/\
 ¬(HT.aR b.length 0 lo=0/\HT.aR b.length b.length hi=b.length)/\∀p,H p=none->Q (.ref p) (upd H p (.tup (oj b lo hi)))
theorem Xx:wX X (Rm X.K):=by
 intro g s t H x v m n lo hi sl Q I l hs j k h;obtain⟨a,c,rfl,hx,i,q⟩:=h;cases l;obtain⟨ab,r,d,f⟩:=I.tuple hx;have b:ab.toArray.size=c.length:=by rw[dW];exact r.length.symm
 refine⟨"tuple",_,PyProof.Rows.slot_tuple_getitem.lookup,d.typeIs,?_⟩;refine HT.cX d hs j k (by rw[b];exact i) ?_ (by rw[b];exact f)
 rw[b];refine⟨.ref s.heap.objs.size,_,I.laid (t':=s.toks) (o:=.tup (oj c lo hi)) (λb ob q=>bz _ q) (aN _) ?_,rfl,q _ (I.av.fresh (aN _))⟩
 exact⟨bQ (JU c lo hi) f,_,(r.drop (HT.aR c.length 0 lo)).take (HT.aR c.length c.length hi-HT.aR c.length 0 lo),IsTup.new _ _⟩
noncomputable def qyd (K:ag):R2:=λx y H Q=>∃a b d c,x= .ref a/\y= .ref b/\bL K H a d/\bL K H b c/\d≠[]/\d.length+c.length<=sizeLine/\
 (c= []->Q (.ref a) H)/\(c≠[]->∀p,H p=none->Q (.ref p) (upd H p (.tup (d++c))))
theorem Vals.fA{us:ak}(r:Vals xs us):us= []↔xs= []:=by
 cases r with
 |nil=>simp
 |cons _ _=>simp
theorem WC:dH X (binaryOp .Add) (qyd X.K):=by
 intro f s t H x y v u Q I l m h;obtain⟨a,b,n,r,rfl,rfl,g,i,hx,c,j,k⟩:=h;cases l;cases m;obtain⟨ab,r1,p1,_⟩:=I.tuple g;obtain⟨d,r2,p2,_⟩:=I.tuple i;refine HT.kl p1 p2 (λz=>hx (r1.fA.mp z)) (λz=>⟨.ref a,H,I,rfl,j (r2.fA.mp z)⟩) (λz=>?_) (by rw[<-r1.length,<-r2.length];exact c)
 refine⟨.ref s.heap.objs.size,_,I.laid (t':=s.toks) (o:=.tup (n++r)) (λb ob q=>bz _ q) (aN _) ?_,rfl,k (λw=>z (r2.fA.mpr w)) _ (I.av.fresh (aN _))⟩
 exact⟨by rw[fe];exact c,_,r1.append r2,IsTup.new _ _⟩
end
noncomputable def fz (n:Nat)(i:Int):Option Nat:=if 0<=i then(if i<n then some i.toNat else none)else if -(n:Int)<=i then some (i+n).toNat else none
noncomputable def bE(xs:List α)(i:Int):Option α:=(fz xs.length i).bind λj=>xs[j]?
theorem Lw{n:Nat}{i:Int}(h:fz n i=some j):seqIndex? i n=some j/\j<n/\-(n:Int)<=i/\i<n:=by
 unfold fz at h
 by_cases b:0<=i
 . rw[ah b]at h
   by_cases a:i<n
   . rw[ah a]at h
     have e:i.toNat=j:=dz h;exact⟨by rw[seqIndex_of b a,e],by omega,by omega,a⟩
   . rw[ae a]at h;cases h
 . rw[ae b]at h
   by_cases a:-(n:Int)<=i
   . rw[ah a]at h
     have e:(i+n).toNat=j:=dz h;exact⟨by rw[seqIndex_neg (by omega) a,e],by omega,a,by omega⟩
   . rw[ae a]at h;cases h
theorem Bl{i:Int}{v:α}(h:bE xs i=some v):∃j,seqIndex? i xs.length=some j/\xs[j]? =some v/\j<xs.length/\-(xs.length:Int)<=i/\i<xs.length:=by
 unfold bE at h;cases e:fz xs.length i with
 |none=>rw[e]at h;cases h
 |some j=>
  rw[e]at h;obtain⟨a,b,c,d⟩:=Lw e;exact⟨j,a,h,b,c,d⟩
def LZ(b:Expr):Prop:=∀o i,subscripted b false o i=operate [o,i] (getItem o i)
def tJ(X:Cx)(r:R2):Prop:=
 ∀c a b s d H x y v u Q,Inv X b d H s->RelV x v->RelV y u->r x y H Q->
  subscripted a false v u=operate [v,u] (getItem v u)->wpAny (model X.prog X.w) X.A (subscriptTail c a v u) (EP X b d Q) X.xe s
def ON(X:Cx)(id:String)(r:V->LV->Hp->VK->Prop):Prop:=
 ∀a s c H x b v us Q,Inv X a c H s->RelV x v->Vals b us->r x b H Q->
  wpAny (model X.prog X.w) X.A (call (.builtin id) (v::us)) (EP X a c Q) X.xe s
section
variable {X:Cx}{a b:Expr}{ta tb:TE}{pos:Pos}
theorem qyp(i:tJ X r)(f:PE X a ta)(g:PE X b tb)(hs:LZ b):PE X (.Subscript a b pos) (sX r ta tb):=by
 intro c s m H Q I h;exact Subscript_ (C6 f g I h λv u l x y d e j k q=>i a b c l m d x y v u Q e j k q (hs _ _))
def Ru(K:ag):R2:=λx y H Q=>∃p c i v,x= .ref p/\y= .int i/\cx K H p c/\bE c i=some v/\Q v H
def Rr(K:ag):R2:=λx y H Q=>∃p c i v,x= .ref p/\y= .int i/\bL K H p c/\bE c i=some v/\Q v H
def Rt:R2:=λx y H Q=>∃z i c,x= .str z/\y= .int i/\z.length<=sizeLine/\bE z.cps.toList i=some c/\Q (.str ⟨#[c]⟩) H
theorem Lv:tJ X (Ru X.K):=by
 intro l k c s o H x y v u Q I L M h hs;obtain⟨p,W,i,z,rfl,rfl,J,E,q⟩:=h;cases L;obtain⟨t,rfl⟩:=M;obtain⟨ab,r,f,U⟩:=I.list J;obtain⟨j,d,A,O,C,D⟩:=Bl E;obtain⟨w,m,g⟩:=r.get A;have F:=r.length;have R:=sj;have fin:EP X c o Q w s:=⟨z,H,I,g,q⟩
 by_cases n:0<=i
 . have e:i.toNat=j:=by
    rw[seqIndex_of n D]at d;exact dz d
   exact item_listR f.isList n (by omega) (by rw[e];simpa using m) fin hs
 . have e:(i+(ab.toArray.size:Int)).toNat=j:=by
    rw[seqIndex_neg (by omega) C]at d
    rw[dW,<-F];exact dz d
   exact subscriptTail_builtinR (x:=w) f.isList.typeIs slot_list_getitem.lookup
    (wpAny_getItem_list_neg (Q:=λr N=>r=w/\EP X c o Q r N) f.isList (by omega) (by rw[dW]<;>omega) (by omega) (by rw[e];simpa using m) ⟨rfl,fin⟩) hs
theorem Zh:tJ X (Rr X.K):=by
 intro f e c s k H x y v u Q I D E h hs;obtain⟨p,R,i,z,rfl,rfl,C,o,q⟩:=h;cases D;obtain⟨t,rfl⟩:=E;obtain⟨ab,r,g,O⟩:=I.tuple C;obtain⟨j,m,n,J,L,M⟩:=Bl o;obtain⟨w,l,d⟩:=r.get n;have A:=r.length;have N:=sj;have fin:EP X c k Q w s:=⟨z,H,I,d,q⟩;exact subscriptTail_builtinR (x:=w) g.typeIs slot_tuple_getitem.lookup
  (getItem_tuple (j:=j) (Q:=λr F=>r=w/\EP X c k Q r F) g (by omega) (by omega) (by rw[dW,<-A];exact m) (by simpa using l) ⟨rfl,fin⟩) hs
theorem Zi:tJ X Rt:=by
 intro e d g s J H x y v u Q I w A h hs;obtain⟨z,i,c,rfl,rfl,E,o,q⟩:=h;obtain⟨t,rfl⟩:=w;obtain⟨F,rfl⟩:=A;obtain⟨j,f,l,C,m,n⟩:=Bl o;have r:z.cps.toList.length=z.length:=by simp[Str.length]
 rw[r]at f m n;have D:=sj;exact tail_any (typeIs_str s z t) slot_str_getitem.lookup (getItem_str (c:=c) (by
  have e1:decide (i< -(2 ^ 63:Int))=false:=gH (by omega)
  have k:decide (i ≥ 2 ^ 63)=false:=gH (by omega)
  rw[e1,k,Bool.or_false]) (by rw[f];simpa using l) ⟨.str ⟨#[c]⟩,H,I.tok _,⟨_,rfl⟩,q⟩) hs
theorem Tr(ab:ak)(n j)(u):Obj.mapSeq (·.setIfInBounds j u) { cls:=.type "list",data:=.seq ab.toArray n }= { cls:=.type "list",data:=.seq (ab.set j u).toArray n }:=by
 simp[Obj.mapSeq]
theorem Inv.lst{s:Shared}{p:Addr}(I:Inv X pins σ H s)(h:H p=some (.lst xs)):
 ∃(ab:ak) (n:Nat),Vals xs ab/\s.heap.get? p=some { cls:=.type "list",data:=.seq ab.toArray n }/\xs.length<=sizeLine:=by
 obtain⟨z,ab,n,r,e⟩:=I.av p _ h;exact⟨ab,n,r,e,z⟩
theorem Inv.pB{s:Shared}{p:Addr}{ab its':ak}{n c:Nat}(I:Inv X pins σ H s)(h:H p=some (.lst xs))
 (i:s.heap.get? p=some { cls:=.type "list",data:=.seq ab.toArray n }) (d:f { cls:=.type "list",data:=.seq ab.toArray n }= { cls:=.type "list",data:=.seq its'.toArray c }) (r:Vals ys its') (hz:ys.length<=sizeLine) (t:Nat):
 Inv X pins σ (upd H p (.lst ys)) { s with heap:=s.heap.update p f,toks:=t }:=by
 have e:(s.heap.update p f).get? p=some { cls:=.type "list",data:=.seq its'.toArray c }:=by
  rw[Heap.get?_update_self f i (by rw[d]<;>rfl),d]
 refine I.write (x:=p) (e:=p) (by rw[h];trivial) (.inl rfl) (λb u g q=>(Heap.get?_update_other _ _ (cN g)).trans q) ⟨_,e⟩ ?_
 exact⟨hz,its',c,r,e⟩
noncomputable def p8:V->V->V->Hp->(Hp->Prop)->Prop:=λo i v H Q=>∃p c k j,o= .ref p/\i= .int k/\H p=some (.lst c)/\fz c.length k=some j/\Q (upd H p (.lst (c.set j v)))
theorem set_list:yY X p8:=by
 intro c s D H o i v J iv u Q I ro ri rv h;obtain⟨p,C,k,j,rfl,rfl,y,z,q⟩:=h;cases ro;obtain⟨t,rfl⟩:=ri;obtain⟨ab,n,r,g,A⟩:=I.lst y;obtain⟨d,E,w,x⟩:=Lw z;have f:=r.length;have F:=sj;have l:Inv X c D (upd H p (.lst (C.set j v))) { s with heap:=s.heap.update p (Obj.mapSeq (·.setIfInBounds j u)) }:=
  I.pB y g (Tr ab n j u) (r.set rv j) (by rw[List.length_set];exact A) s.toks
 by_cases m:0<=k
 . have e:k.toNat=j:=by
    rw[seqIndex_of m x]at d;exact dz d
   exact PySem.W.ki_setAt g m (by omega) (by rw[dW,<-f];exact x) (by rw[e];exact⟨_,l,q⟩)
 . have e:(k+(ab.toArray.size:Int)).toNat=j:=by
    rw[seqIndex_neg (by omega) w]at d
    rw[dW,<-f];exact dz d
   exact PySem.W.ki_setBack g (by omega) (by rw[dW,<-f];exact w) (by omega) (by rw[e];exact⟨_,l,q⟩)
theorem Su(lo hi:Option Int)(n):(sliceBounds lo hi none n).1=((HT.aR n 0 lo:Nat):Int)/\(sliceBounds lo hi none n).2.1=((HT.aR n n hi:Nat):Int)/\(sliceBounds lo hi none n).2.2=1:=by
 refine⟨?_,?_,rfl⟩
 . cases lo with
   |none=>simp[sliceBounds,HT.aR]
   |some i=>
    simp only[sliceBounds,HT.aR,Option.getD_none,show(1:Int) > 0 by decide,if_true]
    by_cases h:i<0
    . simp only[h,if_true]<;>omega
    . simp only[h,if_false]<;>omega
 . cases hi with
   |none=>simp[sliceBounds,HT.aR]
   |some i=>
    simp only[sliceBounds,HT.aR,Option.getD_none,show(1:Int) > 0 by decide,if_true]
    by_cases h:i<0
    . simp only[h,if_true]<;>omega
    . simp only[h,if_false]<;>omega
theorem Sb(ab:ak)(lo hi:Option Int):slicePick ab.toArray lo hi none=((ab.drop (HT.aR ab.length 0 lo)).take (HT.aR ab.length ab.length hi-HT.aR ab.length 0 lo)).toArray:=by
 obtain⟨c,d,e⟩:=Su lo hi ab.toArray.size;unfold slicePick;rw[c,d,e];simp only[sliceRange_one,pick_run,dW]<;>rfl
noncomputable def Ro (K:ag):V->Option Int->Option Int->Hp->VK->Prop:=λx lo hi H Q=>∃a c,x= .ref a/\cx K H a c/\∀p,H p=none->Q (.ref p) (upd H p (.lst (oj c lo hi)))
theorem Wr:wX X (Ro X.K):=by
 intro f s n H x v l m lo hi sl Q I k hs i j h;obtain⟨a,c,rfl,hx,q⟩:=h;cases k;obtain⟨ab,r,e,g⟩:=I.list hx;have d:=r.length;refine⟨"list",_,slot_list_getitem.lookup,e.isList.typeIs,?_⟩;refine wpAny_getItem_list_slice e.isList hs i j .none (by simp) ?_ (by rw[dW]<;>omega)
 rw[Sb,<-d];refine⟨.ref s.heap.objs.size,_,I.laid (t':=s.toks) (o:=.lst (oj c lo hi)) (λb ob q=>bz _ q) (aN _) ?_,rfl,q _ (I.av.fresh (aN _))⟩
 exact⟨bQ (JU c lo hi) g,_,0,(r.drop (HT.aR c.length 0 lo)).take (HT.aR c.length c.length hi-HT.aR c.length 0 lo),dv _ rfl⟩
theorem AE:cM X (.builtin "len") (λxs H Q=>∃p ys,xs= [.ref p]/\(cx X.K H p ys∨bL X.K H p ys)/\Q (.int ys.length) H):=by
 intro pins s σ H xs us Q I r h;obtain⟨p,ys,rfl,hq,q⟩:=h;obtain⟨u,rfl,rx⟩:=vals1 r;cases rx;have hn:=sj;rcases hq with hq|hq
 . obtain⟨ab,r',pl,hz⟩:=I.list hq
   have hlen:=r'.length;exact Calls.call_len_list pl.isList (by simp only[dW]<;>omega) ⟨.int ys.length,H,I.tok _,⟨s.toks+1,by rw[dW,hlen]⟩,q⟩
 . obtain⟨ab,r',pl,hz⟩:=I.tuple hq
   have hlen:=r'.length;exact len_tuple pl (by simp only[dW]<;>omega) ⟨.int ys.length,H,I.tok _,⟨s.toks+1,by rw[dW,hlen]⟩,q⟩
theorem SJ:cM X (.builtin "len") (λxs H Q=>∃z,xs= [.str z]/\z.length<=sizeLine/\Q (.int z.length) H):=by
 intro pins s σ H xs us Q I r h;obtain⟨z,rfl,hz,q⟩:=h;obtain⟨u,rfl,t,rfl⟩:=vals1 r;have hn:=sj;exact len_str (by omega) ⟨.int z.length,H,I.tok _,⟨_,rfl⟩,q⟩
theorem SH:cM X (.type "list") (λxs H Q=>∃p ys,xs= [.ref p]/\(cx X.K H p ys∨bL X.K H p ys)/\∀l,H l=none->Q (.ref l) (upd H l (.lst ys))):=by
 intro pins s σ H xs us Q I r h;obtain⟨p,ys,rfl,hq,q⟩:=h;obtain⟨u,rfl,rx⟩:=vals1 r;cases rx;have fin:∀(ab:ak),Vals ys ab->ys.length<=sizeLine->∀(h':Heap) (c':Nat),(∀b o',s.heap.get? b=some o'->h'.get? b=some o')->
  h'.get? s.heap.objs.size=some { cls:=.type "list",dict:=none,data:=.seq ab.toArray c',slots:=#[] }->EP X pins σ Q (.ref s.heap.objs.size) { s with heap:=h' }:=λab r' hz h' c' kp e=>
  ⟨.ref s.heap.objs.size,_,I.laid (t':=s.toks) kp (aN _) (show aD X.prog X.w _ h' _ (.lst ys)from⟨hz,ab,c',r',e⟩),rfl,q _ (I.av.fresh (aN _))⟩
 rcases hq with hq|hq
 . obtain⟨ab,r',pl,hz⟩:=I.list hq
   have hlen:=r'.length;obtain⟨o,ho,hc,n,hd⟩:=pl.isList;exact call_list_seq p (.inl rfl) ho hc hd (λh' c' kp e=>fin ab r' hz h' c' kp e) (by simp only[dW]<;>omega)
 . obtain⟨ab,r',pl,hz⟩:=I.tuple hq
   have hlen:=r'.length;obtain⟨o,ho,hc,n,hd⟩:=pl;exact call_list_seq p (.inr rfl) ho hc hd (λh' c' kp e=>fin ab r' hz h' c' kp e) (by simp only[dW]<;>omega)
theorem AF:cM X (.type "tuple") (λxs H Q=>∃p ys,xs= [.ref p]/\((cx X.K H p ys/\∀l,H l=none->Q (.ref l) (upd H l (.tup ys)))∨(bL X.K H p ys/\Q (.ref p) H))):=by
 intro pins s σ H xs us Q I r h;obtain⟨p,ys,rfl,h⟩:=h;obtain⟨u,rfl,rx⟩:=vals1 r;cases rx;rcases h with⟨hq,q⟩|⟨hq,q⟩
 . obtain⟨ab,r',pl,hz⟩:=I.list hq
   have hlen:=r'.length;refine call_tuple_list pl.isList (λh' kp=>?_) (by simp only[dW]<;>omega)
   have I1:Inv X pins σ H { s with heap:=h' }:=I.kept (t':=s.toks) kp
   have I2:Inv X pins σ (upd H h'.objs.size (.tup ys)) { s with heap:=h'.push { cls:=.type "tuple",data:=.seq ab.toArray } }:=
    I1.laid (t':=s.toks) (λb o e=>bz _ e) (aN _) (show aD X.prog X.w _ _ _ (.tup ys)from⟨hz,ab,r',IsTup.new _ _⟩)
   exact⟨.ref h'.objs.size,_,I2,rfl,q _ (I1.av.fresh (aN _))⟩
 . obtain⟨ab,r',pl,hz⟩:=I.tuple hq
   exact call_tuple_same pl ⟨.ref p,H,I,rfl,q⟩
def OE(K:ag)(T:String)(x:V)(H:Hp):Prop:=match x with
 | .str _=>T= "str"
 | .int _=>T= "int"
 | .ref p=>(T= "list"/\∃d,cx K H p d)∨(T= "tuple"/\∃o,K.lookup p=some o/\o.cls= .type "tuple"/\o.dict=none)∨
  (T= "dict"/\((∃c,H p=some (.dK c))∨∃c,H p=some (.dT c)))∨(T= "set"/\∃S n,H p=some (.set S n))
 |_=>False
theorem X1{s:Shared}{T:String}{x:V}{v:Value}(I:Inv X pins σ H s)(r:RelV x v)(ty:OE X.K T x H):
 s.TypeIs v T/\∀a,v= .ref a->∃ob,s.heap.get? a=some ob/\ob.dict=none:=by
 cases x with
 |str z=>
  obtain⟨t,rfl⟩:=r;cases(show T= "str" from ty)
  exact⟨typeIs_str s z t,λ_ e=>nomatch e⟩
 |int i=>
  obtain⟨t,rfl⟩:=r;cases(show T= "int" from ty)
  exact⟨typeIs_int s i t,λ_ e=>nomatch e⟩
 |ref p=>
  cases r;rcases ty with⟨rfl,m,l⟩|⟨rfl,o,d,k,g⟩|⟨rfl,d⟩|⟨rfl,S,n,d⟩
  . obtain⟨ab,_,j,_⟩:=I.list l
    refine⟨j.isList.typeIs,λa e=>?_⟩
    cases e;obtain⟨o,n,e,c,g,_⟩:=j;exact⟨o,e,g⟩
  . refine⟨⟨o,I.de p o d,k⟩,λa e=>?_⟩
    cases e;exact⟨o,I.de _ o d,g⟩
  . have z:∃o,s.heap.get? p=some o/\o.ExactDict:=by
     rcases d with⟨h,d⟩|⟨h,d⟩
     . obtain⟨_,_,_,_,o,_,_,e,ex,_⟩:=I.av p _ d
       exact⟨o,e,ex⟩
     . obtain⟨_,_,_,_,o,_,_,e,ex,_⟩:=I.av p _ d
       exact⟨o,e,ex⟩
    obtain⟨o,e,ex⟩:=z;refine⟨⟨o,e,ex.1⟩,λa f=>?_⟩
    cases f;exact⟨o,e,ex.2.1⟩
  . obtain⟨o,_,_,_,e,ex,_⟩:=I.av p _ d
    refine⟨⟨o,e,ex.1⟩,λa f=>?_⟩
    cases f;exact⟨o,e,ex.2.1⟩
 |_=>exact False.elim ty
noncomputable def tBM (K:ag)(T:String)(r:V->LV->Hp->VK->Prop)(to:TE)(t:TA):TE:=λσ H Q=>to σ H λx H1=>OE K T x H1/\t σ H1 λxs H2=>r x xs H2 Q
variable {o e:Expr}{es:bb}{to:TE}{t:TA}{name:Str}{apos cpos:Pos}{T id:String}{r:V->LV->Hp->VK->Prop}
theorem qyq(C:PlainAttrs T)(j:Slot T name id)(k:typeOf (.builtin id)=pure (.type "method_descriptor"))(z:ON X id r)(A:PE X o to)(y:PA X (e::es) t)
 (f:attributeBase o name X.env (eval o X.env)=eval o X.env:=by rfl)
 (i:((backTo cpos (starEach (e::es) X.env)).all (λx=>!x.1)&&(backToKw cpos (keywordEach [] X.env)).all (λx=>x.1.isSome)
  &&decide ((e::es).length+([]:List Keyword).length+(if([]:List Keyword).isEmpty then 0 else 1)<30))=true:=by rfl)
 (g:(apos.endLine==cpos.line)=true:=by rfl) (hs:starEach (e::es) X.env=(false,eval e X.env)::starEach es X.env:=by rfl) (d:(backTo cpos (starEach es X.env)).any (·.1)=false:=by rfl):
 PE X (.Call (.Attribute o name apos) (e::es) [] cpos) (tBM X.K T r to t):=by
 intro c s l H Q I h;refine wpAny_Call_method_late f i g rfl (az (A c s l H _ I h) λv E J=>?_);obtain⟨x,H1,m,r1,ty,D⟩:=J
 obtain⟨u,w⟩:=X1 m r1 ty;refine⟨T,id,C,j,k,u,w,?_⟩;have n:=y cpos c E l H1 _ m D;rw[hs]at n ⊢;refine Calls.callWith_builtin (by show(false||(backTo cpos (starEach es X.env)).any (·.1))=false;rw[d]<;>rfl) (Calls.evalArgs_plain ?_)
 exact az n λus F ⟨vs,H2,I2,r2,q2⟩=>z c F l H2 x vs v us Q I2 r1 r2 q2
end
def OM(X:Cx)(id:String)(r:V->LV->Hp->VK->Prop):Prop:=
 ∀a s c H x b v us Q,Inv X a c H s->RelV x v->Vals b us->r x b H Q->
  wpAny (model X.prog X.w) X.A (call (.builtin id) (v::us)) (EP X a c Q) X.xe s
theorem Vals.one:∀{x:V} {us:ak},Vals [x] us->∃u,us= [u]/\RelV x u
 |_,_,.cons r .nil=>⟨_,rfl,r⟩
theorem Vals.rep{us:ak}(h:Vals xs us):∀k:Nat,Vals (List.replicate k xs).flatten (List.replicate k us).flatten
 |0=>.nil
 |k+1=>by
  rw[qQ,qQ,tw,tw];exact Vals.append h (Vals.rep h k)
theorem foldl_rep(ab:ak):∀(k:Nat) (acc:ak),
 List.foldl (λx1 x2=>x1++x2) acc.toArray (List.replicate k ab.toArray)=(acc++(List.replicate k ab).flatten).toArray
 |0,acc=>by simp
 |k+1,acc=>by
  have e:acc.toArray++ab.toArray=(acc++ab).toArray:=by simp
  have e2:(acc++ab)++(List.replicate k ab).flatten=acc++(List.replicate (k+1) ab).flatten:=by
   rw[qQ,tw,List.append_assoc]
  rw[<-e2,<-foldl_rep ab k (acc++ab),<-e,qQ,List.foldl_cons]
section
variable {X:Cx}{pins:aH}{σ:St}{H:Hp}{s:Shared}{l b:Addr}{xs ys zs:LV}
theorem Inv.Av{ab its':ak}{n:Nat}(I:Inv X pins σ H s)(a:H l=some (.lst xs))
 (e:s.heap.get? l=some { cls:=.type "list",data:=.seq ab.toArray n }) (d:f ab.toArray=its'.toArray) (h:Vals ys its') (hz:ys.length<=sizeLine):
 Inv X pins σ (upd H l (.lst ys)) { s with heap:=s.heap.update l (Obj.mapSeq f),toks:=t' }:=by
 have q:=PySem.IsL.update e f;rw[d]at q;refine I.write (x:=l) (e:=l) (by rw[a];exact trivial) (.inl rfl) (λb' u c g=>(Heap.get?_update_other s.heap (Obj.mapSeq f) (cN c)).trans g) ⟨_,q⟩ ?_
 exact⟨hz,its',_,h,q⟩
theorem Inv.Au{ab:ak}(I:Inv X pins σ H s)(a:Vals ys ab)(hz:ys.length<=sizeLine):
 Inv X pins σ (upd H s.heap.objs.size (.lst ys)) { s with heap:=s.heap.push { cls:=.type "list",data:=.seq ab.toArray },toks:=t' }:=
 I.laid (λ_ _ q=>bz _ q) (aN _) ⟨hz,ab,0,a,dv _ rfl⟩
theorem Inv.fresh(I:Inv X pins σ H s):H s.heap.objs.size=none:=I.av.fresh (aN _)
theorem Inv.t8(I:Inv X pins σ H s)(a:H l=some (.lst xs)):xs.length<=sizeLine/\∃(ab:ak) (n:Nat),Vals xs ab/\xs.length=ab.length/\s.heap.get? l=some { cls:=.type "list",data:=.seq ab.toArray n }:=by
 obtain⟨z,ab,n,r,e⟩:=I.av l _ a;exact⟨z,ab,n,r,r.length,e⟩
theorem Vd{n:Nat}(h:n<=sizeLine):Builtin.List.listTooLong n=false:=by
 unfold Builtin.List.listTooLong;exact gH (by omega)
end
section
variable {X:Cx}
noncomputable def WX:V->LV->Hp->VK->Prop:=λx vs H Q=>∃l a y,x= .ref l/\vs= [y]/\H l=some (.lst a)/\a.length<sizeLine/\Q .aq (upd H l (.lst (a++ [y])))
theorem Up:OM X "list.append" WX:=by
 intro b s i H x vs v us Q I c rv h;obtain⟨l,g,y,rfl,rfl,a,f,q⟩:=h;cases c;obtain⟨u,rfl,ru⟩:=rv.one;obtain⟨z,ab,n,r,d,e⟩:=I.t8 a;refine call_meets F.slot_list_append ⟨_,e,rfl⟩ F.entry_list_append (F.args_list_append_2 _ _) (PySem.list_append l ab.toArray n u (by rw[dW];omega)) ⟨e,?_⟩
 refine⟨.aq,_,I.Av (its':=ab++ [u]) a e (by simp) (r.append (.cons ru .nil)) ?_,rfl,q⟩
 rw[fe,List.length_singleton];omega
noncomputable def Rp:R2:=λx y H Q=>∃l k a,x= .ref l/\y= .int k/\H l=some (.lst a)/\-(2 ^ 63)<=k/\k<2 ^ 63/\a.length*k.toNat<=sizeLine/\
 ∀p,H p=none->Q (.ref p) (upd H p (.lst (List.replicate k.toNat a).flatten))
theorem len_rep(xs:List α)(k):(List.replicate k xs).flatten.length=k*xs.length:=by
 induction k with
 |zero=>simp
 |succ k ih=>rw[qQ,tw,fe,ih,Nat.succ_mul,Nat.add_comm]
theorem Ym:dH X (binaryOp .Mult) Rp:=by
 intro pins s σ H x y v u Q I rx ry h;obtain⟨l,k,xs,rfl,rfl,hH,h1,h2,hz,q⟩:=h;cases rx;obtain⟨t,rfl⟩:=ry;obtain⟨z,ab,n,r,hl,e⟩:=I.t8 hH;have hlen:ab.toArray.size*k.toNat<=sizeLine:=by rw[dW,<-hl];exact hz
 have hcap:¬ab.toArray.size*k.toNat > (2 ^ 63-1) / 8:=by
  have:(sizeLine:Nat)<=(2 ^ 63-1) / 8:=by decide
  omega
 have hfit:¬(!Builtin.List.listFitsIndex k)=true:=by
  rw[fitsIndex_both h1 h2];exact iQ
 have hlong:¬Builtin.List.listTooLong (ab.toArray.size*k.toNat)=true:=by
  rw[Vd hlen];exact iQ
 have hnew:List.foldl (λx1 x2=>x1++x2) #[] (List.replicate (if ab.toArray.isEmpty=true then 0 else k.toNat) ab.toArray)=(List.replicate k.toNat ab).flatten.toArray:=by
  have f0:∀m:Nat,List.foldl (λx1 x2=>x1++x2) #[] (List.replicate m ab.toArray)=(List.replicate m ab).flatten.toArray:=λm=>by
   have:=foldl_rep ab m [];rw[ka]at this;exact this
  rw[f0];cases ab with
  |nil=>simp
  |cons a r'=>rw[ae (by simp)]
 refine wpAny_binaryOp_repeat_ref (T:="list") (U:="int") (by decide) ⟨_,e,rfl⟩ (λs'=>typeIs_int s' k t) noFill_list_mul F.fills_int_mul F.slot_int_rmul repeat_list F.slot_int_index.lookup
  (call_meets F.slot_int_rmul (typeIs_int s k t) F.entry_int_rmul (F.args_int_rmul_2 _ _) (int___rmul___int_list k t l ab.toArray n)
   ⟨e,rfl,⟨_,e,rfl⟩,call_meets F.slot_list_mul ⟨_,e,rfl⟩ F.entry_list_mul (F.args_list_mul_2 _ _) (AutoListH.list___mul___list_int_3 l ab.toArray n k t hfit hcap hlong) ⟨e,?_⟩⟩)
 rw[hnew];exact⟨.ref _,_,I.Au (t':=s.toks) (r.rep k.toNat) (by rw[len_rep,Nat.mul_comm];exact hz),rfl,q _ I.fresh⟩
end
section
variable {κ:Type}[DecidableEq κ]
noncomputable def fQ (kvs:List (κ×V))(k:κ):Option V:=(kvs.find? λkv=>decide (kv.1=k)).map (·.2)
noncomputable def putK (kvs:List (κ×V))(k:κ)(v:V):List (κ×V):=
 if(kvs.any λkv=>decide (kv.1=k))=true then kvs.map (λkv=>if kv.1=k then(kv.1,v)else kv)else kvs++ [(k,v)]
noncomputable def jy (kvs:List (κ×V))(k:κ):List (κ×V):=kvs.filter λkv=>decide (kv.1≠k)
theorem vb{p:κ×V}(e:p.1=k):fQ (p::r) k=some p.2:=by simp[fQ,jF,e]
theorem pP{p:κ×V}(e:¬p.1=k):fQ (p::r) k=fQ r k:=by simp[fQ,jF,e]
theorem KN(k:κ):∀kvs:List (κ×V),(kvs.any λkv=>decide (kv.1=k))=(fQ kvs k).isSome
 | []=>rfl
 |p::r=>by
  rw[kf]
  by_cases e:p.1=k
  . simp only[vb e,fK e,Bool.true_or,Option.isSome_some]
  . rw[pP e,gH e,Bool.false_or];exact KN k r
theorem JB(kvs:List (κ×V))(k:κ)(v):(putK kvs k v).length<=kvs.length+1:=by
 unfold putK;split
 . rw[ba];omega
 . rw[fe,cQ,List.length_nil];omega
theorem bK.bh(r:bK o u):o.isSome=u.isSome:=by
 cases o with
 |none=>cases u with
  |none=>rfl
  |some _=>exact(show False from r).elim
 |some _=>cases u with
  |none=>exact(show False from r).elim
  |some _=>rfl
theorem bK.getD(r:bK o u)(rd:RelV d d'):RelV (o.getD d) (u.getD d'):=by
 cases o with
 |none=>cases u with
  |none=>exact rd
  |some _=>exact(show False from r).elim
 |some _=>cases u with
  |none=>exact(show False from r).elim
  |some _=>exact r
theorem KV.val{vs:List (κ×Value)}(r:KV kvs vs)(k:κ):bK (fQ kvs k) (valueAt vs k):=by
 unfold KV at r
 induction r with
 |nil=>exact True.intro
 | @cons p q ps qs h t ih=>
  obtain⟨c,d⟩:=h
  by_cases e:p.1=k
  . have a:q.1=k:=c.symm.trans e
    have b:valueAt (q::qs) k=some q.2:=by simp[valueAt,jF,a]
    rw[vb e,b];exact d
  . have a:¬q.1=k:=λz=>e (c.trans z)
    have b:valueAt (q::qs) k=valueAt qs k:=by simp[valueAt,jF,a]
    rw[pP e,b];exact ih
theorem KV.any{vs:List (κ×Value)}(r:KV kvs vs)(k:κ):(kvs.any λkv=>decide (kv.1=k))=vs.any λkv=>decide (kv.1=k):=by
 unfold KV at r
 induction r with
 |nil=>rfl
 |cons h t ih=>rw[kf,kf,ih,h.1]
theorem KV.qC{vs:List (κ×Value)}(r:KV kvs vs)(k:κ)(ry:RelV y u):
 KV (kvs.map λkv=>if kv.1=k then(kv.1,y)else kv) (vs.map λkv=>if kv.1=k then(kv.1,u)else kv):=by
 unfold KV at r ⊢
 induction r with
 |nil=>exact .nil
 | @cons p q ps qs h t ih=>
  rw[bU,bU];refine .cons ?_ ih;obtain⟨h1,h2⟩:=h
  by_cases e:p.1=k
  . rw[ah e,ah (h1.symm.trans e)];exact⟨h1,ry⟩
  . rw[ae e,ae (λz=>e (h1.trans z))];exact⟨h1,h2⟩
theorem KV.put{vs:List (κ×Value)}(r:KV kvs vs)(k:κ)(ry:RelV y u):KV (putK kvs k y) (stored vs k u):=by
 unfold putK stored;rw[r.any k]
 by_cases e:(vs.any λkv=>decide (kv.1=k))=true
 . rw[ah e,ah e];exact r.qC k ry
 . rw[ae e,ae e];exact Paired.snoc r ⟨rfl,ry⟩
theorem KV.drop{vs:List (κ×Value)}(r:KV kvs vs)(k:κ):KV (jy kvs k) (without vs k):=by
 unfold KV at r ⊢;unfold jy without
 induction r with
 |nil=>exact .nil
 | @cons p q ps qs h t ih=>
  obtain⟨c,f⟩:=h;rw[je,je]
  by_cases e:p.1=k
  . have a:¬decide (p.1≠k)=true:=by simp[e]
    have b:¬decide (q.1≠k)=true:=by simp[c.symm.trans e]
    rw[ae a,ae b];exact ih
  . have d:¬q.1=k:=λz=>e (c.trans z)
    have a:decide (p.1≠k)=true:=by simp[e]
    have b:decide (q.1≠k)=true:=by simp[d]
    rw[ah a,ah b];exact .cons ⟨c,f⟩ ih
theorem KV.length{vs:List (κ×Value)}(r:KV kvs vs):kvs.length=vs.length:=Paired.length r
theorem VX(kvs:List (κ×V))(k:κ):(jy kvs k).length<=kvs.length:=kc _ _
end
theorem jt{P:Program}(r:RelV (kV k) u):(c6 P w).is k u=true:=by
 cases k with
 |inl i=>obtain⟨t,e⟩:=(show ∃t,u=Value.int i t from r);subst e;exact SW P w i t
 |inr x=>obtain⟨t,e⟩:=(show ∃t,u=Value.str x t from r);subst e;exact Jz P w x t
theorem qyE{P:Program}(r:RelV (oV k) u):(optKind P w).is k u=true:=by
 cases k with
 |none=>cases(show u=Value.none from r);rfl
 |some j=>exact jt (P:=P) (w:=w) r
theorem Kj{P:Program}:∀{ks:List bB} {us:ak},Vals (ks.map oV) us->ItemsAre (optKind P w) ks us
 | [],_,r=>by rw[qN]at r;cases r;exact .nil
 |k::ks,_,r=>by
  rw[bU]at r;cases r with
  |cons h t=>exact .cons (qyE h) (Kj t)
abbrev KT(H:Hp):List (List bB×V)->List (List bB×Addr×Value)->Prop:=Paired λp q=>p.1=q.1/\H q.2.1=some (.tup (p.1.map oV))/\RelV p.2 q.2.2
theorem KT.val(r:KT H kvs xs)(k:List bB):bK (fQ kvs k) ((atKey xs k).map (·.2)):=by
 induction r with
 |nil=>exact True.intro
 | @cons p q ps qs h t ih=>
  obtain⟨c,_,d⟩:=h
  by_cases e:p.1=k
  . have a:q.1=k:=c.symm.trans e
    have b:atKey (q::qs) k=some q.2:=by simp[atKey,jF,a]
    rw[vb e,b];exact d
  . have a:¬q.1=k:=λz=>e (c.trans z)
    have b:atKey (q::qs) k=atKey qs k:=by simp[atKey,jF,a]
    rw[pP e,b];exact ih
theorem KT.qC(r:KT H kvs xs)(k:List bB)(ry:RelV y u):
 KT H (kvs.map λkv=>if kv.1=k then(kv.1,y)else kv) (xs.map (putAt k u)):=by
 induction r with
 |nil=>exact .nil
 | @cons p q ps qs h t ih=>
  rw[bU,bU];refine .cons ?_ ih;obtain⟨h1,h2,h3⟩:=h;unfold putAt
  by_cases e:p.1=k
  . rw[ah e,ah (h1.symm.trans e)];exact⟨h1,h2,ry⟩
  . rw[ae e,ae (λz=>e (h1.trans z))];exact⟨h1,h2,h3⟩
theorem KT.put(r:KT H kvs xs)(k:List bB){b:Addr}(hb:H b=some (.tup (k.map oV)))(ry:RelV y u):
 KT H (putK kvs k y) (storedH xs k b u):=by
 have e:(kvs.any λkv=>decide (kv.1=k))=(atKey xs k).isSome:=by
  rw[KN,(r.val k).bh,qR]
 unfold putK storedH;rw[e]
 by_cases q:(atKey xs k).isSome=true
 . rw[ah q,ah q];exact r.qC k ry
 . rw[ae q,ae q];exact Paired.snoc r ⟨rfl,hb,ry⟩
theorem KT.keeps(r:KT H kvs xs)(c:∀b a,H b=some (.tup a)->H' b=some (.tup a)):KT H' kvs xs:=
 Paired.pC r λ_ _ z=>⟨z.1,c _ _ z.2.1,z.2.2⟩
section
variable {P:Program}{w:World}{H:Hp}{h:Heap}{a:Addr}
theorem Nq(ok:cJ P w H h)(e:Rd H a u):aD P w H h a u:=e.ok ok
theorem nZ(b:cJ P w H h)(e:Rd H a (.dK kvs)):kvs.length<=sizeLine/\(a==sysModules)=false/\∃vs,KV kvs vs/\h.DictOf (c6 P w) a vs:=
 show aD P w H h a (.dK kvs)from Nq b e
theorem NX(b:cJ P w H h)(e:H a=some (.dK kvs)):kvs.length<=sizeLine/\(a==sysModules)=false/\∃vs,KV kvs vs/\h.DictOf (c6 P w) a vs:=nZ b (.inl e)
theorem pY{ks:List bB}(f:cJ P w H h)(e:H a=some (.tup (ks.map oV))):(tupleKind (optKind P w)).is h ks a:=by
 obtain⟨_,ab,r,o,b,c,n,d⟩:=(show aD P w H h a (.tup (ks.map oV))from f a _ e)
 exact⟨o,ab.toArray,n,b,c,d,by simpa using Kj r⟩
theorem qh(c:cJ P w H h)(e:Rd H a (.dT kvs)):kvs.length<=sizeLine/\(a==sysModules)=false/\
 ∃xs,KT H kvs xs/\h.DictOfH (tupleKind (optKind P w)) a xs:=by
 obtain⟨z,y,xs,r,o,f,d,g,i,j,k,n⟩:=(show aD P w H h a (.dT kvs)from Nq c e)
 refine⟨z,y,xs,r,o,f,d,g,i,j,k,λx hx=>?_,n⟩
 have b:∀{l:List (List bB×V)} {m:List (List bB×Addr×Value)},KT H l m->∀x∈m,(tupleKind (optKind P w)).is h x.1 x.2.1:=by
  intro l m q
  induction q with
  |nil=>intro x hx;exact nomatch hx
  | @cons p q ps qs hq t ih=>
   intro x hx;rcases fw.mp hx with e|hx
   . subst e
     exact pY c (by rw[<-hq.1];exact hq.2.1)
   . exact ih x hx
 exact b r x hx
theorem B3(b:cJ P w H h)(e:H a=some (.dT kvs)):kvs.length<=sizeLine/\(a==sysModules)=false/\
 ∃xs,KT H kvs xs/\h.DictOfH (tupleKind (optKind P w)) a xs:=qh b (.inl e)
end
def bZ(H:Hp)(a:Addr)(y:V)(r:Option V):Prop:=
 (∃c k,Rd H a (.dK c)/\y=kV k/\r=fQ c k)∨∃c k b,Rd H a (.dT c)/\y= .ref b/\H b=some (.tup (k.map oV))/\r=fQ c k
def fx(H:Hp)(a:Addr)(y v:V)(d:Hp):Prop:=
 (∃c k,H a=some (.dK c)/\y=kV k/\c.length<sizeLine/\d=upd H a (.dK (putK c k v)))∨
 ∃c k b,H a=some (.dT c)/\y= .ref b/\H b=some (.tup (k.map oV))/\c.length<sizeLine/\d=upd H a (.dT (putK c k v))
theorem bZ.k{H:Hp}{a:Addr}{kvs:List (Key×V)}{k:Key}(e:H a=some (.dK kvs)):bZ H a (kV k) (fQ kvs k):=.inl ⟨kvs,k,.inl e,rfl,rfl⟩
theorem bZ.t{a b:Addr}{k:List bB}(e:H a=some (.dT kvs))(c:H b=some (.tup (k.map oV))):bZ H a (.ref b) (fQ kvs k):=.inr ⟨kvs,k,b,.inl e,rfl,c,rfl⟩
theorem fx.k{H:Hp}{a:Addr}{kvs:List (Key×V)}{k:Key}{v:V}(e:H a=some (.dK kvs))(b:kvs.length<sizeLine):fx H a (kV k) v (upd H a (.dK (putK kvs k v))):=.inl ⟨kvs,k,e,rfl,b,rfl⟩
theorem fx.t{a b:Addr}{k:List bB}{v:V}(e:H a=some (.dT kvs))(c:H b=some (.tup (k.map oV)))(d:kvs.length<sizeLine):
 fx H a (.ref b) v (upd H a (.dT (putK kvs k v))):=.inr ⟨kvs,k,b,e,rfl,c,d,rfl⟩
section
variable {X:Cx}{pins:aH}{σ:St}{H:Hp}{s:Shared}{a:Addr}{y v:V}{u r:Value}{o:Option V}{A:Around}{E:aQ}
theorem Inv.big(I:Inv X pins σ H s):sysModules<s.heap.objs.size:=by
 have h:mainGlobals<s.heap.objs.size:=(I.mod.glob.keeps I.bk).lt;exact eG (by decide) h
theorem UN(F:A.units+1<cLine)(I:Inv X pins σ H s)(g:bZ H a y (some v))(t:RelV y u)(h:∀f w,Inv X pins σ H w->RelV v f->Q f w):
 wpAny (model X.prog X.w) A (getItem (.ref a) u) Q E s:=by
 rcases g with⟨n,k,e,i,l⟩|⟨n,k,b,e,i,x,l⟩
 . subst i
   obtain⟨z,C,vs,c,dd⟩:=nZ I.av e;obtain⟨f,m,d⟩:=bK.some_of (v:=v) (o:=valueAt vs k) (by rw[l];exact c.val k)
   exact wpAny_getItem_of (jt t) dd.mapOf m (h f _ (I.tok _) d)
 . subst i
   cases(show u=Value.ref b from t)
   obtain⟨z,C,J,c,dd⟩:=qh I.av e;obtain⟨f,m,d⟩:=bK.some_of (v:=v) (o:=(atKey J k).map (·.2)) (by rw[l];exact c.val k)
   obtain⟨p,D,j⟩:=Option.map_eq_some_iff.mp m;refine wpAny_getItem_heap (tupleKind_room_in1 F) (pY I.av x) dd D ?_;rw[j];exact h f _ (I.tok _) d
theorem Rf(t:A.units+1<cLine)(I:Inv X pins σ H s)(g:bZ H a y o)(j:RelV y u)(h:∀m,Inv X pins σ H m->Q (.bool o.isSome) m):
 wpAny (model X.prog X.w) A (compareOp .In u (.ref a)) Q E s:=by
 rcases g with⟨i,k,e,d,l⟩|⟨i,k,b,e,d,n,l⟩
 . subst d
   obtain⟨z,f,vs,c,dd⟩:=nZ I.av e;refine wpAny_in_of (jt j) f dd.mapOf ?_;rw[<-(c.val k).bh,<-l];exact h _ (I.tok _)
 . subst d
   cases(show u=Value.ref b from j)
   obtain⟨z,f,w,c,dd⟩:=qh I.av e;refine wpAny_in_heap (tupleKind_room_in1 t) (pY I.av n) f dd ?_;have q:=(c.val k).bh;rw[qR]at q;rw[<-q,<-l];exact h _ (I.tok _)
theorem Xa(t:A.units+1<cLine)(I:Inv X pins σ H s)(g:bZ H a y o)(j:RelV y u)(h:∀m,Inv X pins σ H m->Q (.bool (!o.isSome)) m):
 wpAny (model X.prog X.w) A (compareOp .NotIn u (.ref a)) Q E s:=by
 rcases g with⟨i,k,e,d,l⟩|⟨i,k,b,e,d,n,l⟩
 . subst d
   obtain⟨z,f,vs,c,dd⟩:=nZ I.av e;refine wpAny_notIn_of (jt j) f dd.mapOf ?_;rw[<-(c.val k).bh,<-l];exact h _ (I.tok _)
 . subst d
   cases(show u=Value.ref b from j)
   obtain⟨z,f,w,c,dd⟩:=qh I.av e;refine wpAny_notIn_heap (tupleKind_room_in1 t) (pY I.av n) f dd ?_;have q:=(c.val k).bh;rw[qR]at q;rw[<-q,<-l];exact h _ (I.tok _)
theorem yu{ob:HO}(I:Inv X pins σ H s)(g:tK (H a))(hs:Heap.SameBut a s.heap h')(f:∃q,h'.get? a=some q)(c:aD X.prog X.w (upd H a ob) h' a ob):
 Inv X pins σ (upd H a ob) { s with heap:=h',toks:=t' }:=
 I.write (x:=a) (e:=a) g (.inl rfl) (λb q d z=>(hs.2 b d).trans z) f c
theorem Nf{P:Program}{h':Heap}{kvs:List (Key×V)}{vs:List (Key×Value)}(z:kvs.length<=sizeLine)(c:(a==sysModules)=false)(b:KV kvs vs)(dd:h'.DictOf (c6 P w) a vs):
 aD P w H' h' a (.dK kvs):=⟨z,c,vs,b,dd⟩
theorem UM{Q:Unit->Shared->Prop}(hu:A.units+1<cLine)(I:Inv X pins σ H s)(g:fx H a y v H')(ry:RelV y u)(rv:RelV v r)(h:∀s',Inv X pins σ H' s'->Q () s'):
 wpAny (model X.prog X.w) A (setItem (.ref a) u r) Q E s:=by
 rcases g with⟨kvs,k,e,ey,l,eH⟩|⟨kvs,k,b,e,ey,eb,l,eH⟩
 . subst ey eH
   obtain⟨z,hd,vs,rel,dd⟩:=NX I.av e;have hz:vs.length<=sizeLine:=by rw[<-rel.length];exact z
   have hl:(putK kvs k v).length<=sizeLine:=by have:=JB kvs k v;omega
   refine wpAny_setItem_pairs (hsz:=hz) (jt ry) dd λh' dd' hs=>h _ ?_
   have he:∃q,h'.get? a=some q:=let⟨q,_,_,hq,_⟩:=dd';⟨q,hq⟩;exact yu I (by rw[e];exact True.intro) hs he (Nf hl hd (rel.put k rv) dd')
 . subst ey eH
   cases(show u=Value.ref b from ry)
   obtain⟨z,hd,xs,rel,dd⟩:=B3 I.av e;have hz:xs.length<=sizeLine:=by rw[<-Paired.length rel];exact z
   have hl:(putK kvs k v).length<=sizeLine:=by have:=JB kvs k v;omega
   refine wpAny_setItem_heap (hsz:=hz) (tupleKind_room_in1 hu) (pY I.av eb) dd λh' dd' hs=>h _ ?_
   obtain⟨q,es,ep,hq,h2,h3,h4,_,h5⟩:=dd';refine yu I (by rw[e];exact True.intro) hs ⟨q,hq⟩ ⟨hl,hd,_,(rel.put k eb rv).keeps λc ys ec=>?_,q,es,ep,hq,h2,h3,h4,h5⟩
   rw[aE (jx ec e (λz=>nomatch z))]
   exact ec
end
section
variable {X:Cx}{pins:aH}{σ:St}{H:Hp}{s:Shared}{a:Addr}{kvs:List (Key×V)}{k:Key}{u:Value}{A:Around}{E:aQ}
theorem UO{Q:Unit->Shared->Prop}(I:Inv X pins σ H s)(e:H a=some (.dK kvs))(ry:RelV (kV k) u)(l:(fQ kvs k).isSome=true)(h:∀s',Inv X pins σ (upd H a (.dK (jy kvs k))) s'->Q () s'):
 wpAny (model X.prog X.w) A (delItem (.ref a) u) Q E s:=by
 obtain⟨z,hd,vs,rel,dd⟩:=NX I.av e;refine wpAny_delItem_slot dd.typeIs (by decide) PySem.F.slot_dict_delitem
  (call_meetsIn PySem.F.slot_dict_delitem dd.typeIs PySem.F.entry_dict_delitem (PySem.F.args_dict_delitem_2 _ _) (meets_dict_delitem_pairs (c6 X.prog X.w) a (jt ry)) ⟨vs,dd,by rw[<-rel.length];exact z,by rw[<-(rel.val k).bh];exact l,λh' dd' hs=>h _ ?_⟩)
 have he:∃q,h'.get? a=some q:=let⟨q,_,_,hq,_⟩:=dd';⟨q,hq⟩;exact yu I (by rw[e];exact True.intro) hs he (Nf (bQ (VX kvs k) z) hd (rel.drop k) dd')
theorem qy6(I:Inv X pins σ H s)(e:Rd H a (.dK kvs))(h:∀t c,Inv X pins σ H c->Q (.int kvs.length t) c):wpAny (model X.prog X.w) A (call (.builtin "len") [.ref a]) Q E s:=by
 obtain⟨z,d,vs,b,dd⟩:=nZ I.av e;refine call_len_dict d dd (by rw[<-b.length];rw[sizeLine_eq]at z;omega) ?_
 rw[<-b.length];exact h _ _ (I.tok _)
end
def yZ(i:Expr):Prop:=∀a iv,subscripted i false a iv=operate [a,iv] (getItem a iv)
theorem Le{s:Shared}{env:Env}{T id:String}
 (j:typeLookup (.type T) "__getitem__" =pure (some (.builtin id))) (hs:yZ slice)
 (h:wpAny (model prog w) A (eval value env) (λo c=>wpAny (model prog w) A (eval slice env) (λi a=>a.TypeIs o T/\wpAny (model prog w) A (getItem o i) Q E a) E c) E s):
 wpAny (model prog w) A (eval (.Subscript value slice pos) env) Q E s:=by
 refine Subscript_ (gw h (λo c e=>gw e (λi a b=>?_) λ_ _ x=>x) λ_ _ x=>x)
 obtain⟨g,b⟩:=b;unfold subscriptTail;refine aj ?_;rw[getitemInPython_of_ne g.not_modules];refine aj (wpAny_specialOf g j ?_);have fin:wpAny (model prog w) A (subscripted slice false o i) (λr d=>wpAny (model prog w) A (letTemporaryGo value o r >>= λ_=>pure r) Q E d) E a:=by
  rw[hs o i];exact wpAny_operating (gw b (λr d f=>aj (wpAny_letTemporaryGo (aI f))) λ_ _ x=>x)
 first
  |exact aI (aj fin)
  |exact aj (aI (aj fin))
  |exact aj fin
theorem SV{s:Shared}{a:Addr}(I:Inv X pins σ H s)(g:bZ H a y o):s.TypeIs (.ref a) "dict":=by
 rcases g with⟨c,k,e,_,_⟩|⟨c,k,b,e,_,_,_⟩
 . obtain⟨_,_,vs,_,dd⟩:=nZ I.av e
   exact dd.typeIs
 . obtain⟨_,_,d,_,dd⟩:=qh I.av e
   exact dd.typeIs
def qxs(td ty:TE):TE:=λσ H Q=>td σ H λx H1=>ty σ H1 λy H2=>∃a v,x= .ref a/\bZ H2 a y (some v)/\Q v H2
def Qw(ty td:TE):TE:=λσ H Q=>ty σ H λy H1=>td σ H1 λx H2=>∃a o,x= .ref a/\bZ H2 a y o/\Q (.bl o.isSome) H2
def Wn(ty td:TE):TE:=λσ H Q=>ty σ H λy H1=>td σ H1 λx H2=>∃a o,x= .ref a/\bZ H2 a y o/\Q (.bl (!o.isSome)) H2
def ZO(f ty g:TE):TS:=λD b H=>g b H λv H1=>f b H1 λx d=>ty b d λy e=>∃a c,x= .ref a/\fx e a y v c/\D.nx b c
section
variable {X:Cx}{o i e value:Expr}{pos pos' tpos:Pos}{td ty tv:TE}
theorem Wv(m:X.A.units+1<cLine)(l:PE X o td)(hi:PE X i ty)(hs:yZ i):PE X (.Subscript o i pos) (qxs td ty):=by
 intro b s f H Q I h;refine Le PySem.F.slot_dict_getitem.lookup hs (az (l b s f H _ I h) λu t ⟨x,H1,I1,rx,q1⟩=>az (hi b t f H1 _ I1 q1) λiv z w=>?_);obtain⟨y,j,d,r,a,v,ex,g,n⟩:=w
 subst ex;obtain rfl:u=Value.ref a:=rx;exact⟨SV d g,UN m d g r λw' A k c=>⟨v,j,k,c,n⟩⟩
theorem Me(l:X.A.units+1<cLine)(hi:PE X i ty)(k:PE X o td):PC X .In i o (Qw ty td):=by
 intro b s c H Q I h;refine az (hi b s c H _ I h) λiv t ⟨y,H1,I1,ry,q1⟩=>az (k b t c H1 _ I1 q1) λu w v=>?_;obtain⟨x,d,f,r,a,m,ex,g,n⟩:=v
 subst ex;obtain rfl:u=Value.ref a:=r;exact Rf l f g ry λs3 j=>⟨.bl m.isSome,d,j,rfl,n⟩
theorem J1(l:X.A.units+1<cLine)(hi:PE X i ty)(k:PE X o td):PC X .NotIn i o (Wn ty td):=by
 intro b s c H Q I h;refine az (hi b s c H _ I h) λiv t ⟨y,H1,I1,ry,q1⟩=>az (k b t c H1 _ I1 q1) λu w v=>?_;obtain⟨x,d,f,r,a,m,ex,g,n⟩:=v
 subst ex;obtain rfl:u=Value.ref a:=r;exact Xa l f g ry λs3 j=>⟨.bl (!m.isSome),d,j,rfl,n⟩
theorem W4(l:X.A.units+1<cLine)(k:PE X o td)(hi:PE X i ty)(m:PE X value tv)(hs:swapsWith value (some (.Subscript o i pos')) pos.line X.env=pure false):
 PS X (.Assign [.Subscript o i pos'] value pos) (ZO td ty tv):=by
 intro b s c H D I h;refine wpAny_Assign_Subscript (az (m b s c H _ I h) λr t ⟨v,H1,I1,rv,q1⟩=>az (k b t c H1 _ I1 q1) λu w ⟨x,H2,I2,rx,q2⟩=>az (hi b w c H2 _ I2 q2) λiv C z=>?_) hs;obtain⟨y,A,f,r,a,d,ex,g,n⟩:=z
 subst ex;obtain rfl:u=Value.ref a:=rx;exact UM l f g r rv λs4 j=>⟨c,d,j,n⟩
end
theorem VY{P:Program}(h:Heap)(a:sysModules<h.objs.size):aD P w H (h.push { cls:=.type "dict",data:=.dict #[] }) h.objs.size (.dK []):=
 ⟨jN _,oB.mpr (cN (cE a)),[],.nil,Heap.DictOf.new h⟩
theorem VW{P:Program}(h:Heap)(a:sysModules<h.objs.size):aD P w H (h.push { cls:=.type "dict",data:=.dict #[] }) h.objs.size (.dT []):=
 ⟨jN _,oB.mpr (cN (cE a)),[],.nil,_,#[],0,dv _ rfl,⟨rfl,rfl,rfl⟩,rfl,rfl,nH⟩
def X6:TE:=λ_ H Q=>∀p,H p=none->Q (.ref p) (upd H p (.dK []))
def X5:TE:=λ_ H Q=>∀p,H p=none->Q (.ref p) (upd H p (.dT []))
section
variable {X:Cx}{pos:Pos}
theorem U2:PE X (.Dict [] [] pos) X6:=λpins s b H Q I h=>
 wpAny_Dict_empty ⟨.ref s.heap.objs.size,_,I.laid (a:=s.heap.objs.size) (o:=.dK []) (t':=s.toks) (λ_ _ q=>bz _ q) (aN _) (VY s.heap I.big),rfl,h _ (I.av.fresh (aN _))⟩
theorem U1:PE X (.Dict [] [] pos) X5:=λpins s b H Q I h=>
 wpAny_Dict_empty ⟨.ref s.heap.objs.size,_,I.laid (a:=s.heap.objs.size) (o:=.dT []) (t':=s.toks) (λ_ _ q=>bz _ q) (aN _) (VW s.heap I.big),rfl,h _ (I.av.fresh (aN _))⟩
end
structure M1(X:Cx)(o:Expr)(m:Str)(apos:Pos)(e:Expr)(cpos:Pos):Prop where
 base:attributeBase o m X.env (eval o X.env)=eval o X.env
 q9:((backTo cpos (starEach [e] X.env)).all (λx=>!x.1)&&(backToKw cpos (keywordEach [] X.env)).all (λx=>x.1.isSome)
  &&decide (([e]:bb).length+([]:List Keyword).length+(if([]:List Keyword).isEmpty then 0 else 1)<30))=true
 line:(apos.endLine==cpos.line)=true
 trees:backTo cpos (starEach [e] X.env)= [(false,eval e X.env)]
structure M2(X:Cx)(o:Expr)(m:Str)(apos:Pos)(e f:Expr)(cpos:Pos):Prop where
 base:attributeBase o m X.env (eval o X.env)=eval o X.env
 q9:((backTo cpos (starEach [e,f] X.env)).all (λx=>!x.1)&&(backToKw cpos (keywordEach [] X.env)).all (λx=>x.1.isSome)
  &&decide (([e,f]:bb).length+([]:List Keyword).length+(if([]:List Keyword).isEmpty then 0 else 1)<30))=true
 line:(apos.endLine==cpos.line)=true
 trees:backTo cpos (starEach [e,f] X.env)= [(false,eval e X.env),(false,eval f X.env)]
def zT(H:Hp)(a:Addr):Prop:=(∃b,Rd H a (.dK b))∨∃b,Rd H a (.dT b)
theorem Zn{s:Shared}{a:Addr}(I:Inv X pins σ H s)(d:zT H a):
 s.TypeIs (.ref a) "dict"/\(∀b,Value.ref a= .ref b->∃ob,s.heap.get? b=some ob/\ob.dict=none)/\(a==sysModules)=false:=by
 rcases d with⟨h,e⟩|⟨h,e⟩
 . obtain⟨_,g,vs,_,dd⟩:=nZ I.av e
   refine⟨dd.typeIs,λb q=>?_,g⟩
   cases q;obtain⟨ob,_,_,c,f,_⟩:=dd;exact⟨ob,c,f.2.1⟩
 . obtain⟨_,g,i,_,dd⟩:=qh I.av e
   refine⟨dd.typeIs,λb q=>?_,g⟩
   cases q;obtain⟨ob,_,_,c,f,_⟩:=dd;exact⟨ob,c,f.2.1⟩
section
variable {X:Cx}{pins:aH}{σ:St}{H:Hp}{s:Shared}{a:Addr}{y d:V}{u r:Value}{o:Option V}{A:Around}{E:aQ}
theorem Y8(w:A.units+1<cLine)(I:Inv X pins σ H s)(g:bZ H a y o)(m:RelV y u)(h:∀t n,Inv X pins σ H n->RelV (o.getD .aq) t->Q t n):
 wpAny (model X.prog X.w) A (call (.builtin "dict.get") [.ref a,u]) Q E s:=by
 rcases g with⟨j,k,e,f,l⟩|⟨j,k,b,e,f,v,l⟩
 . subst f
   obtain⟨z,i,vs,c,dd⟩:=nZ I.av e;refine call_meetsIn PySem.F.slot_dict_get dd.typeIs PySem.F.entry_dict_get (PySem.F.args_dict_get_2 _ _) (meets_dict_get (c6 X.prog X.w) a (jt m) i) ⟨_,dd.mapOf,h _ _ (I.tok _) ?_⟩;rw[l];exact(c.val k).getD rfl
 . subst f
   cases(show u=Value.ref b from m)
   obtain⟨z,i,x,c,dd⟩:=qh I.av e;refine call_meetsIn PySem.F.slot_dict_get dd.typeIs PySem.F.entry_dict_get (PySem.F.args_dict_get_2 _ _) (meetsH_dict_get (tupleKind (optKind X.prog X.w)) a b i) ⟨tupleKind_room_in1 w,k,x,pY I.av v,dd,h _ _ (I.tok _) ?_⟩;rw[l];exact(c.val k).getD rfl
end
def X7(td ty:TE):TE:=λσ H Q=>td σ H λx H1=>∃a,x= .ref a/\zT H1 a/\ty σ H1 λy H2=>∃o,bZ H2 a y o/\Q (o.getD .aq) H2
section
variable {X:Cx}{o e f:Expr}{apos cpos:Pos}{td ty tx:TE}
theorem U3(r:X.A.units+1<cLine)(n:PE X o td)(l:PE X e ty)(m:M1 X o "get" apos e cpos):PE X (.Call (.Attribute o "get" apos) [e] [] cpos) (X7 td ty):=by
 intro b s j H Q I h;refine wpAny_Call_method m.base m.q9 m.line PySem.F.plainAttrs_dict PySem.F.slot_dict_get PySem.F.type_dict_get (az (n b s j H _ I h) λu w C=>?_);obtain⟨x,H1,i,v,a,ex,d,t⟩:=C
 subst ex;obtain rfl:u=Value.ref a:=v;obtain⟨z,A,_⟩:=Zn i d;refine⟨z,A,?_⟩;rw[m.trees];refine Calls.callWith_builtin rfl (Calls.evalArgs_plain (Calls.spliced_cons (az (l b w j H1 _ i t) λiv D ⟨y,H2,I2,ry,ov,g,q2⟩=>Calls.spliced_nil ?_)))
 exact Y8 r I2 g ry λw' E k c=>⟨_,H2,k,c,q2⟩
end
end L2
namespace Att
open PySem PySem.W PySem.Calls PyProof.Rows
theorem RZ{P:Params}:∀(ns:List Int) (vs:ak),WellAll P h vs (ns.map WData.int)->IntsAre vs ns:=by
 intro ns
 induction ns with
 |nil=>
  intro vs w;rw[qN]at w;cases w;exact .nil
 |cons n ns ih=>
  intro vs w;rw[bU]at w;cases w with
  |cons a b=>
   cases a;exact .cons _ _ (ih _ b)
theorem TL{l:OpenLaw}{n:Nat}(s:l.most=some n){P:Params}
 (b:l.row.toRowW.claim.pre args=true) (i:WellAll P h vals args):
 ∃a vs ns,vals= [Value.ref a]/\args= [WData.list (ns.map WData.int)]/\h.get? a=some { cls:=.type "list",data:=.seq vs.toArray }/\IntsAre vs ns/\ns.length<=n:=by
 have g:WShape.hasAll [] args [.list .int]=true:=(pre_splitW b).1;have j:l.pre.holds [] { args:=args }=true:=(pre_splitW b).2;obtain⟨d,r,rfl,k,m⟩:=hasAllW_cons g;obtain rfl:=hasAllW_nil m;obtain⟨u,rfl,o⟩:=hasW_list k;obtain⟨ns,rfl⟩:=items_int o;have c:ns.length<=n:=by
  unfold OpenLaw.pre at j;have e:(WTm.not (.lt (.lit (.int (n:Int))) (.len (.arg 0)))).holds [] { args:=[.list (ns.map .int)] }=true:=by
   have e:=(holds_andW j).1;rw[s]at e;exact e
  have f:=condW_of e (w_not (w_lt w_lit (w_len_list (w_arg rfl))));rw[ba]at f;refine Nat.le_of_not_lt λq=>?_
  have t:(n:Int)<((ns.length:Nat):Int):=by omega
  first
   |(rw[fK t]at f;exact aS f (by decide))
   |(simp at f;omega)
 cases i with
 |cons w1 w2=>
  cases w2;cases w1 with
  |list ho hall=>exact⟨_,_,ns,rfl,rfl,ho,RZ ns _ hall,c⟩
theorem Ug(l:OpenLaw)(args:List WData):l.row.toRowW.claim.post args (.bool true) args=true:=
 postW_of (r:=l.row.toRowW) (X:=(true==true))
  (show WShape.has [] (.bool true) .bool=true by first|rfl|decide|simp[WShape.has,WShape.arms,WShape.armsAll])
  (show(WTm.eq .res (.lit (.bool true))).value [] { args:=args,res:=some (.bool true),after:=args }=some (.bool (true==true))from w_eq_bool (w_res rfl) w_lit) rfl
theorem dZ{l:OpenLaw}{n:Nat}{q:Program}{loose:aB}{d:DefRec}
 (O:l.most=some n) (t:d.params.defaults= [])
 (call:∀(w:World) (c b:Shared) (mg x:bq) (h:Addr) (o:Obj) (y cd e:Value) (a:Addr) (vs:ak) (ns:List Int),
  Ground q loose [] XP w c mg x b.heap->YP w b.heap->
  b.heap.get? h=some o->o.data= .func (docDef d.name d.params d.body d.scope y cd e)->b.heap.CodeRec cd d.name->mg d.name=some (.ref h)->
  b.heap.get? a=some { cls:=.type "list",data:=.seq vs.toArray }->IntsAre vs ns->ns.length<=n->b.gens= #[]->
  codeAny (model l.prog w) callerA (.call (.ref h) ⟨[.ref a],[]⟩) (λr m=>r= .ok (.ret (.bool true))/\OldK b.heap m.heap/\m.os=b.os/\AllBare m.gens) b):
 WalkO q loose XP YP l.row.toRowW d [] (λf vs=>PySem.call f vs):=by
 intro w c b mg x G Y h o y cd e E kV Q J s A u L z D W k C U v M;obtain rfl:E= .none:=Dflts.none A t;obtain rfl:kV= .none:=Dflts.noKw A;obtain⟨a,vs,ns,rfl,rfl,j,g,i⟩:=TL O k v;refine enter_call (codeAny_mono (call w c b mg x h o y cd e a vs ns G Y Q (fd_plain J) s u j g i L) λr m R=>?_)
 obtain⟨rfl,F,H,I⟩:=R;exact⟨.inl ⟨.bool true,.bool true,[],rfl,λ_=>rfl,.bool true,Ug l _,λ_=>⟨List.Pairwise.nil,λ_ N=>(nomatch N)⟩⟩,F,H,I⟩
section
variable {prog:Program}{w:World}{A:Around}{E:aQ}{s:Shared}{K:Frag}
def ledger(h:Heap)(L d:Addr):aH:=(List.range h.objs.size).filterMap λa=>if a=L∨a=d then none else(h.get? a).map λo=>(a,o)
end
end Att
namespace L2
open PySem PySem.Spec PyProof.Rows
theorem bC:∀{vs:ak} {ns:List Int},IntsAre vs ns->Vals (ns.map V.int) vs
 |_,_,.nil=>.nil
 |_,_,.cons n t h=>.cons ⟨t,rfl⟩ (bC h)
def CL(H:Hp):Prop:=∀b,H b=none∨∃o a,H b=some (.aZ o (.lst a))
theorem UQ{P:Program}{K:ag}{R a:Addr}{x:Str}{sp:Sp}{c:Shared}{vs:ak}{ns:List Int}
 (Z:K.In c.heap) (J:c.heap.Ns mainGlobals mg) (g:c.heap.Ns builtinsNs mb) (W:∀x:Str,x≠"__name__"->mb x=bootBuiltins x) (I:c.heap.NoLimit) (hg:c.gens= #[])
 (O:c.heap.get? a=some { cls:=.type "list",data:=.seq vs.toArray }) (hi:IntsAre vs ns) (hl:ns.length<=sizeLine) (hr:aJ k callerA)
 (F:∀i:Heap,K.In i->i.Ns mainGlobals mg->dm P w K mg i CX k R fd [x] sp) (y:∀s u,BindsTo s fd ⟨[u],[]⟩ [(x,u)])
 (X:∀H:Hp,CL H->cx K H a (ns.map V.int)->sp [.ref a] H (λv _=>v= .bl true) λ_ _ _=>False)
 (U:∀H e j,CX [] H c (λ_ _ _=>False) e j->False):
 codeAny (model P w) callerA (.call (.ref R) ⟨[.ref a],[]⟩) (λr j=>r= .ok (.ret (.bool true))/\OldK c.heap j.heap/\j.os=c.os/\AllBare j.gens) c:=by
 have rv:=bC hi;have M:=hi.length;have t:∀H:Hp,CL H->cx K H a (ns.map V.int)->cJ P w H c.heap->(∀b,H b≠none->b=a)->(H a≠none->K.lookup a=none)->
  codeAny (model P w) callerA (.call (.ref R) ⟨[.ref a],[]⟩) (λr j=>r= .ok (.ret (.bool true))/\OldK c.heap j.heap/\j.os=c.os/\AllBare j.gens) c:=by
  intro H hO hS av hA hK;have f:∀{b:Addr} {o:Obj},c.heap.get? b=some o->H b=none->(iK c.heap H).get? b=some o:=λe n=>AY e n
  have Y:∀{b:Addr} {o:Obj} {D:Array DictEntry} {C:Nat},c.heap.get? b=some o->o.data= .dict D C->H b=none:=λ{b o D C} e d=>by
   cases q:H b with
   |none=>rfl
   |some u=>
    have Q:b=a:=hA b (by rw[q];simp)
    subst Q;rw[O]at e;cases e;have d':Data.seq vs.toArray _=Data.dict D C:=d;cases d'
  have l:∀{b:Addr} {m:bq},c.heap.Ns b m->(iK c.heap H).Ns b m:=λ{b m} ⟨o,D,C,e,d,r⟩=>⟨o,D,C,f e (Y e d),d,r⟩
  have E:K.In (iK c.heap H):=λb o e=>f (Z b o e) (by
   cases q:H b with
   |none=>rfl
   |some u=>
    have Q:b=a:=hA b (by rw[q];simp)
    subst Q;rw[hK (by rw[q];simp)]at e;cases e)
  have hM:Mod K mg (iK c.heap H):=⟨E,l J,⟨mb,l g,W⟩,let⟨mc,h1,h2⟩:=I;⟨mc,l h1,h2⟩⟩;have e0:fW P w K mg (iK c.heap H) callerA [] c H:=⟨rfl,hM,λb o e=>LL e,Nat.le_of_eq (Kk _ _),trivial,λb g=>aS (show b∈([]:List Addr)from g) (by simp),av,.of_eq hg⟩
  refine codeAny_mono ((F _ E (l J)).run callerA [] c H ⟨[.ref a],[]⟩ [.ref a] [.ref a] _ _ hr e0 (y c (.ref a)) (.cons rfl .nil) (X H hO hS)) λr j h=>?_
  cases r with
  |error e=>exact(U H e j h).elim
  |ok fl=>
   cases fl with
   |next=>exact False.elim h
   |brk=>exact False.elim h
   |cont=>exact False.elim h
   |ret u=>
    obtain⟨v,H',os,A,un,L,r',q⟩:=h;have q':v= .bl true:=q;subst q';obtain rfl:u=Value.bool true:=r';refine⟨rfl,OldK.of_keep λb o e=>?_,os,A⟩
    cases q:H b with
    |none=>exact un.keep b o e q (by intro z;exact aS (show b∈([]:List Addr)from z) (by simp)) (by simp)
    |some u=>
     rcases hO b with z|⟨ob,xs,z⟩
     . rw[q]at z;cases z
     . have z2:=un.aK b ob _ z
       obtain⟨e1,_⟩:=av b _ z;obtain⟨e2,_⟩:=L b _ z2;rw[e]at e1;cases e1;exact e2
 cases hk:K.lookup a with
 |some o=>
  have e:=Z a o hk;rw[O]at e;cases e;refine t (λ_=>none) (λ_=>.inl rfl) (.inr ⟨_,vs.toArray,_,hk,rfl,rfl,rfl,by rw[dW,M];exact hl,by simpa using rv⟩) (λb u z=>by have N:(none:Option HO)=some u:=z;cases N) (λb z=>aS rfl z) λz=>aS rfl z
 |none=>
  refine t (λb=>if b=a then some (.aZ { cls:=.type "list",data:=.seq vs.toArray } (.lst (ns.map V.int)))else none) (λb=>?_) (.inl (.inr ⟨{ cls:=.type "list",data:=.seq vs.toArray },ah rfl⟩)) (λb u z=>?_) (λb z=>?_) λ_=>hk
  . by_cases g:b=a
    . exact .inr ⟨_,_,ah g⟩
    . exact .inl (ae g)
  . by_cases g:b=a
    . have N:=(ah g).symm.trans z
      cases N;subst g;exact⟨O,by rw[ba];exact hl,vs,_,rv,O⟩
    . have N:=(ae g).symm.trans z
      cases N
  . by_cases g:b=a
    . exact g
    . exact aS (ae g) z
abbrev KOf{K:ag}(_:K.In h):ag:=K
theorem qw8{l:PySem.W.OpenLaw}{n k:Nat}{q:Program}{loose:aB}{XP:(bq)->Heap->Prop}{YP:World->Heap->Prop}{d:DefRec}{K:Params->ag}{E:World->jh}{sp:World->Sp}{x:Str}
 (X:l.most=some n) (A:n<=sizeLine) (y:d.params.defaults= []) (Z:aJ k callerA)
 (Q:∀(w:World) (h:Heap),YP w h->(K w.params).In h)
 (F:∀(w:World) (mg:bq) (m:Addr) (h:Heap),(K w.params).In h->h.Ns mainGlobals mg->mg d.name=some (.ref m)->
  ∃r:FuncData,(∀(s:Shared) (u:Value),BindsTo s r ⟨[u],[]⟩ [(x,u)])/\
   ∀b:Heap,(K w.params).In b->b.Ns mainGlobals mg->dm l.prog w (K w.params) mg b (E w) k m r [x] (sp w))
 (C:∀(w:World) (H:Hp) (a:Addr) (ns:List Int),ns.length<=n->CL H->cx (K w.params) H a (ns.map V.int)->sp w [.ref a] H (λv _=>v= .bl true) λ_ _ _=>False)
 (t:∀(w:World) (H:Hp) (s:Shared) (e:Value) (D:Shared),E w [] H s (λ_ _ _=>False) e D->False):
 PySem.W.WalkO q loose XP YP l.row.toRowW d [] (λf vs=>PySem.call f vs):=by
 refine Att.dZ X y λw J j mg mb m o pm cd L a vs ns G Y ho hd U z i g c W=>?_
 have I:=Q w _ Y;obtain⟨r,R,M⟩:=F w mg m _ I G.T.g z;exact UQ I G.T.g G.T.b G.T.builtins G.T.nolimit W i g (bQ c A) Z M R (λH N O=>C w H a ns c N O) λH e D=>t w H j e D
noncomputable def inClass (s:Stmt)(j:Nat):Stmt:=match s with
 | .ClassDef _ _ _ body _ _ _ _ _ _ _=>body.getD j (.Pass ⟨0,0,0,0⟩)
 |_=>.Pass ⟨0,0,0,0⟩
noncomputable def L8 (s:Stmt):Arguments:=match s with
 | .FunctionDef _ a _ _ _ _ _ _ _ _=>a
 |_=>{ posonlyargs:=[],args:=[],vararg:=none,kwonlyargs:=[],kw_defaults:=[],kwarg:=none,defaults:=[] }
def pW(s:Stmt):List Stmt:=match s with
 | .FunctionDef _ _ b _ _ _ _ _ _ _=>b
 |_=>[]
noncomputable def fP (s:Stmt):Scope:=match s with
 | .FunctionDef _ _ _ _ _ _ sc _ _ _=>sc
 |_=>{ kind:=.function,names:=[],isGenerator:=false,isCoroutine:=false }
abbrev fg:jh:=λ_ _ _ _ _ _=>False
abbrev E0:XK:=λ_ _ _=>False
theorem qa:Passes fg X E0:=λ_ _ _ _ _ _ _ h=>h.elim
structure tH(K:ag)(x qual:Str)(st:Stmt)(f:Addr)(fd:FuncData):Prop where
 ex:∃(oc:Value) (od:Option Addr) (kV doc pm:Value) (an:Option Addr) (cdv ct:Value) (osl:Array (cK)),
  fd=PySem.W.fnOf x qual (L8 st) (pW st) (fP st) .none kV doc pm an cdv ct/\K.lookup f=some ⟨oc,od,.func fd,osl⟩/\PySem.W.codeIn K cdv qual=true
 kp:PySem.W.keepIn K (.ref f)=true
section
variable {P:Program}{w:World}{K:ag}{mg:bq}{base:Heap}
theorem tH.ok{x c:Str}{st:Stmt}{sp:Sp}(F:tH K x c st f fd)(S:rO N ps (fP st))(i:∀vs H Q E,sp vs H Q E->vs.length=ps.length)
 (d:∀b,fd.code=b->∀(A:Around) (a:List Env) (s:Shared) (H:Hp) (vs:LV) (Q:VK) (E:XK),aJ k (A.deeper (envOfC c (fP st) s.heap.objs.size f b))->sp vs H Q E->
  ∃t,fY (oh fg P w K mg base N c (fP st) f b A a s H E).rB (pW st) t/\t { nx:=λ_ j=>Q .aq j,rt:=Q } (start N vs) H):dm P w K mg base fg (k+1) f fd ps sp:=by
 obtain⟨r,u,kV,l,v,an,b,o,n,rfl,lk,e⟩:=F.ex;refine qy1 lk e S i λA a s H vs Q E m g=>?_
 obtain⟨t,h,q⟩:=d b rfl A a s H vs Q E m g;exact⟨t,h.rB,q⟩
end
theorem m7(a:aJ k A):A.units+1<cLine:=gG (Nat.add_le_add_left (by decide:1<=64) _) a.units
theorem qB{A B:Prop}(h:B):if false=true then A else B:=by
 rw[ae iQ];exact h
theorem qA{A B:Prop}(h:A):if true=true then A else B:=by
 rw[ah rfl];exact h
section
variable {X:Cx}
theorem Uz:cM X (.builtin "len") (λxs H Q=>∃a kvs,xs= [V.ref a]/\H a=some (.dK kvs)/\Q (.int kvs.length) H):=by
 intro pins s σ H xs us Q I r h;obtain⟨a,kvs,rfl,ha,q⟩:=h;obtain⟨u,rfl,ru⟩:=vals1 r;cases ru;exact qy6 I (.inl ha) λt s' I'=>⟨.int kvs.length,H,I',⟨t,rfl⟩,q⟩
end
end L2
namespace R
open PySem PySem.Spec PyProof.Rows L2
inductive RV where
 |aq|bl (b:Bool)|int (i:Int)|str (x:Str)|ref (a:Addr)|ty (n:String)
 |tup (xs:List RV)|ls (xs:List RV)
abbrev LR:=List RV
abbrev bT:=List (Key×RV)
def Fz(K:ag)(H:Hp)(a:Addr)(vs:LV):Prop:=
 (∃o,H a=some (.aZ o (.lst vs)))∨
  ∃(o:Obj) (ab:Array Value) (n:Nat),K.lookup a=some o/\o.cls= .type "list"/\o.dict=Option.none/\o.data= .seq ab n/\ab.size<=sizeLine/\Vals vs ab.toList
theorem Fz.sq{K:ag}{a:Addr}{vs:LV}(h:Fz K H a vs):cx K H a vs:=by
 rcases h with⟨o,h⟩|h
 . exact .inl (.inr ⟨o,h⟩)
 . exact .inr h
instance {K:ag} {H:Hp} {a:Addr} {xs:LV}:Coe (H a=some (HO.tup xs)) (bL K H a xs):=⟨bL.of⟩
mutual
def Rep(K:ag)(H:Hp):RV->V->Prop
 | .aq,v=>v= .aq
 | .bl b,v=>v= .bl b
 | .int i,v=>v= .int i
 | .str x,v=>v= .str x
 | .ref a,v=>v= .ref a
 | .ty n,v=>v= .ty n
 | .tup xs,v=>∃a vs,v= .ref a/\H a=some (.tup vs)/\aa K H xs vs
 | .ls xs,v=>∃a vs,v= .ref a/\Fz K H a vs/\aa K H xs vs
def aa(K:ag)(H:Hp):LR->LV->Prop
 | [],vs=>vs= []
 |x::xs,vs=>∃v r,vs=v::r/\Rep K H x v/\aa K H xs r
end
noncomputable def jz:HO->Bool
 | .dK _=>true
 | .dT _=>true
 |_=>false
structure bp(H H':Hp):Prop where
 bj:∀b xs,H b=some (.tup xs)->H' b=some (.tup xs)
 aK:∀b o u,jz u=false->H b=some (.aZ o u)->H' b=some (.aZ o u)
structure Ext(H H':Hp):Prop where
 bj:∀b xs,H b=some (.tup xs)->H' b=some (.tup xs)
 aK:∀b o u,H b=some (.aZ o u)->H' b=some (.aZ o u)
theorem Ext.w(e:Ext H H'):bp H H':=⟨e.bj,λb o u _ h=>e.aK b o u h⟩
theorem Ext.refl(H):Ext H H:=⟨λ_ _ h=>h,λ_ _ _ h=>h⟩
theorem Ext.trans{H H1 d:Hp}(a:Ext H H1)(b:Ext H1 d):Ext H d:=⟨λc x h=>b.bj c x (a.bj c x h),λc o x h=>b.aK c o x (a.aK c o x h)⟩
theorem bp.trans{H H1 d:Hp}(a:bp H H1)(b:bp H1 d):bp H d:=⟨λc x h=>b.bj c x (a.bj c x h),λc o x n h=>b.aK c o x n (a.aK c o x n h)⟩
theorem Ext.new{p:Addr}(h:H p=none):Ext H (upd H p o):=
 ⟨λb a e=>by rw[aE (d9 e h)];exact e,λb o a e=>by rw[aE (d9 e h)];exact e⟩
def RS:HO->Bool
 | .tup _=>false
 | .aZ _ _=>false
 |_=>true
theorem bp.cb{p:Addr}(h:H p=some (.aZ o u))(s:jz u=true){v:HO}:bp H (upd H p v):=by
 refine⟨λb c e=>?_,λb ob c a e=>?_⟩
 . have n:b≠p:=by rintro rfl;rw[h]at e;cases e
   rw[aE n];exact e
 . have n:b≠p:=by rintro rfl;rw[h]at e;cases e;rw[s]at a;cases a
   rw[aE n];exact e
theorem Ext.write{p:Addr}(h:H p=some o)(s:RS o=true):Ext H (upd H p o'):=by
 refine⟨λb a e=>?_,λb ob a e=>?_⟩
 . have n:b≠p:=by rintro rfl;rw[h]at e;cases e;cases s
   rw[aE n];exact e
 . have n:b≠p:=by rintro rfl;rw[h]at e;cases e;cases s
   rw[aE n];exact e
theorem bL.aX{K:ag}{a:Addr}{vs:LV}(e:bp H H')(h:bL K H a vs):bL K H' a vs:=by
 rcases h with(h|⟨o,h⟩)|h
 . exact .inl (.inl (e.bj _ _ h))
 . exact .inl (.inr ⟨o,e.aK _ _ _ rfl h⟩)
 . exact .inr h
theorem Fz.aX{K:ag}{a:Addr}{vs:LV}(e:bp H H')(h:Fz K H a vs):Fz K H' a vs:=by
 rcases h with⟨o,h⟩|h
 . exact .inl ⟨o,e.aK _ _ _ rfl h⟩
 . exact .inr h
mutual
theorem Rep.aX{K:ag}{H H':Hp}(e:bp H H'):∀(r:RV) (v:V),Rep K H r v->Rep K H' r v
 | .aq,v,h=>by simpa only[Rep]using h
 | .bl _,v,h=>by simpa only[Rep]using h
 | .int _,v,h=>by simpa only[Rep]using h
 | .str _,v,h=>by simpa only[Rep]using h
 | .ref _,v,h=>by simpa only[Rep]using h
 | .ty _,v,h=>by simpa only[Rep]using h
 | .tup xs,v,h=>by
  simp only[Rep]at h ⊢;obtain⟨a,vs,e1,h1,h2⟩:=h;exact⟨a,vs,e1,e.bj _ _ h1,aa.aX e xs vs h2⟩
 | .ls xs,v,h=>by
  simp only[Rep]at h ⊢;obtain⟨a,vs,e1,h1,h2⟩:=h;exact⟨a,vs,e1,h1.aX e,aa.aX e xs vs h2⟩
theorem aa.aX{K:ag}{H H':Hp}(e:bp H H'):∀(rs:LR) (vs:LV),aa K H rs vs->aa K H' rs vs
 | [],vs,h=>by simpa only[aa]using h
 |x::xs,vs,h=>by
  simp only[aa]at h ⊢;obtain⟨v,r,e1,h1,h2⟩:=h;exact⟨v,r,e1,Rep.aX e x v h1,aa.aX e xs r h2⟩
end
section
variable {K:ag}{H:Hp}
theorem aa.cons{x:RV}{v:V}{vs:LV}(h:Rep K H x v)(t:aa K H xs vs):aa K H (x::xs) (v::vs):=by
 simp only[aa];exact⟨v,vs,rfl,h,t⟩
theorem aa.nil:aa K H [] []:=by simp only[aa]
theorem aa.length:∀{xs:LR} {vs:LV},aa K H xs vs->xs.length=vs.length
 | [],vs,h=>by simp only[aa]at h;subst h;rfl
 |x::xs,vs,h=>by
  simp only[aa]at h;obtain⟨v,r,rfl,_,t⟩:=h;simp[aa.length t]
theorem aa.get:∀{xs:LR} {vs:LV} {i:Nat} {x:RV},aa K H xs vs->xs[i]? =some x->∃v,vs[i]? =some v/\Rep K H x v
 | [],_,_,_,_,e=>by simp at e
 |y::xs,vs,0,x,h,e=>by
  simp only[aa]at h;obtain⟨v,r,rfl,a,_⟩:=h;simp at e;subst e;exact⟨v,by simp,a⟩
 |y::xs,vs,i+1,x,h,e=>by
  simp only[aa]at h;obtain⟨v,r,rfl,_,t⟩:=h;obtain⟨u,a,b⟩:=aa.get (i:=i) t (by simpa using e)
  exact⟨u,by simpa using a,b⟩
theorem aa.append:∀{xs a:LR} {vs ws:LV},aa K H xs vs->aa K H a ws->aa K H (xs++a) (vs++ws)
 | [],_,vs,_,h,t=>by simp only[aa]at h;subst h;simpa using t
 |x::xs,a,vs,ws,h,t=>by
  simp only[aa]at h;obtain⟨v,r,rfl,b,c⟩:=h;exact aa.cons b (aa.append c t)
theorem aa.take:∀{xs:LR} {vs:LV} (n:Nat),aa K H xs vs->aa K H (xs.take n) (vs.take n)
 |_,_,0,_=>by simpa using aa.nil
 | [],vs,n+1,h=>by simp only[aa]at h;subst h;simpa using aa.nil
 |x::xs,vs,n+1,h=>by
  simp only[aa]at h;obtain⟨v,r,rfl,a,b⟩:=h;exact aa.cons a (aa.take n b)
theorem aa.drop:∀{xs:LR} {vs:LV} (n:Nat),aa K H xs vs->aa K H (xs.drop n) (vs.drop n)
 |_,_,0,h=>by simpa using h
 | [],vs,n+1,h=>by simp only[aa]at h;subst h;simpa using aa.nil
 |x::xs,vs,n+1,h=>by
  simp only[aa]at h;obtain⟨v,r,rfl,b,a⟩:=h;exact aa.drop n a
theorem aa.set{x:RV}{v:V}(hx:Rep K H x v):∀{xs:LR} {vs:LV} (i:Nat),aa K H xs vs->aa K H (xs.set i x) (vs.set i v)
 | [],vs,i,h=>by simp only[aa]at h;subst h;simpa using aa.nil
 |y::xs,vs,0,h=>by
  simp only[aa]at h;obtain⟨w,r,rfl,b,a⟩:=h;exact aa.cons hx a
 |y::xs,vs,i+1,h=>by
  simp only[aa]at h;obtain⟨w,r,rfl,b,a⟩:=h;exact aa.cons b (aa.set hx i a)
theorem aa.bE{vs:LV}{i:Int}{x:RV}(h:aa K H xs vs)(e:L2.bE xs i=some x):∃v,L2.bE vs i=some v/\Rep K H x v:=by
 unfold L2.bE at e ⊢;rw[<-h.length];cases q:fz xs.length i with
 |none=>rw[q]at e;cases e
 |some j=>rw[q]at e;exact h.get (by simpa using e)
end
inductive RO where
 |lst (xs:LR)
 |dk (kvs:bT)
 |dt (kvs:List (List bB×RV))
 |ins (C:Addr) (fs:List (Str×RV))
 |fk (kvs:bT)
 |ft (kvs:List (List bB×RV))
 |tb (P:Addr) (pos:Pos) (q:Str)
noncomputable def fS (P:Addr)(pos:Pos)(x:Option Addr):Heap->Prop:=λh=>h.get? P=some { cls:=.none,data:=.fields (match x with|none=>#[]|some c=>#[rawInt pos.line,rawInt pos.col,.ref c]) }
abbrev RM:=Addr->Option RO
noncomputable def put (M:RM)(a:Addr)(o:RO):RM:=λb=>if b=a then some o else M b
theorem bF{a:Addr}:put M a o a=some o:=by unfold put;rw[ah rfl]
theorem put_ne{a b:Addr}(h:b≠a):put M a o b=M b:=by unfold put;rw[ae h]
theorem iD{a:Addr}:put (put M a o) a o'=put M a o':=by
 funext b;unfold put;split<;>rfl
noncomputable def aF(K:ag)(H:Hp):List (κ×RV)->List (κ×V)->Prop
 | [],ws=>ws= []
 |(k,x)::r,ws=>∃v t,ws=(k,v)::t/\Rep K H x v/\aF K H r t
theorem aF.aX{K:ag}(e:bp H H'):∀{a:List (κ×RV)} {ws:List (κ×V)},aF K H a ws->aF K H' a ws
 | [],_,h=>h
 |(k,x)::r,ws,h=>by
  obtain⟨v,t,e1,b,c⟩:=h;exact⟨v,t,e1,Rep.aX e x v b,aF.aX e c⟩
noncomputable def cU (K:ag)(H:Hp):RO->HO->Prop
 | .lst xs,o=>∃vs,o= .lst vs/\aa K H xs vs
 | .dk kvs,o=>∃a,o= .dK a/\aF K H kvs a
 | .dt kvs,o=>∃a,o= .dT a/\aF K H kvs a
 | .ins C fs,o=>∃e b,o= .ins C e b/\aF K H fs b
 | .fk kvs,o=>∃ob a,o= .aZ ob (.dK a)/\aF K H kvs a
 | .ft kvs,o=>∃ob a,o= .aZ ob (.dT a)/\aF K H kvs a
 | .tb P pos q,o=>o= .ext (fS P pos none)∨∃c d vs t,o= .ext (fS P pos (some c))/\H c=some (.aZ d (.own c))/\d.data= .fields vs/\vs[1]? =some (.str q t)
theorem cU.aX{K:ag}(e:bp H H'):∀{o:RO} {ho:HO},cU K H o ho->cU K H' o ho
 | .lst xs,_,h=>by obtain⟨vs,e1,a⟩:=h;exact⟨vs,e1,aa.aX e xs vs a⟩
 | .dk _,_,h=>by obtain⟨f,e1,a⟩:=h;exact⟨f,e1,a.aX e⟩
 | .dt _,_,h=>by obtain⟨f,e1,a⟩:=h;exact⟨f,e1,a.aX e⟩
 | .ins _ _,_,h=>by obtain⟨b,d,e1,a⟩:=h;exact⟨b,d,e1,a.aX e⟩
 | .fk _,_,h=>by obtain⟨b,d,e1,a⟩:=h;exact⟨b,d,e1,a.aX e⟩
 | .ft _,_,h=>by obtain⟨b,d,e1,a⟩:=h;exact⟨b,d,e1,a.aX e⟩
 | .tb _ _ _,_,h=>h.imp id λ⟨c,i,vs,t,e1,a,g⟩=>⟨c,i,vs,t,e1,e.aK _ _ _ rfl a,g⟩
theorem cU.Ai{K:ag}{p:Addr}{v:HO}:∀{o:RO} {ho:HO},cU K H o ho->H p=some ho->bp H (upd H p v)
 | .lst _,_,h,e=>by obtain⟨_,rfl,_⟩:=h;exact(Ext.write e rfl).w
 | .dk _,_,h,e=>by obtain⟨_,rfl,_⟩:=h;exact(Ext.write e rfl).w
 | .dt _,_,h,e=>by obtain⟨_,rfl,_⟩:=h;exact(Ext.write e rfl).w
 | .ins _ _,_,h,e=>by obtain⟨_,_,rfl,_⟩:=h;exact(Ext.write e rfl).w
 | .fk _,_,h,e=>by obtain⟨_,_,rfl,_⟩:=h;exact bp.cb e rfl
 | .ft _,_,h,e=>by obtain⟨_,_,rfl,_⟩:=h;exact bp.cb e rfl
 | .tb _ _ _,_,h,e=>by rcases h with rfl|⟨_,_,_,_,rfl,_⟩<;>exact(Ext.write e rfl).w
section
variable {K:ag}{H H':Hp}
theorem bL.ext{a:Addr}{vs:LV}(e:Ext H H')(h:bL K H a vs):bL K H' a vs:=bL.aX e.w h
theorem Fz.ext{a:Addr}{vs:LV}(h:Fz K H a vs)(e:Ext H H'):Fz K H' a vs:=h.aX e.w
theorem Rep.ext(e:Ext H H')(r)(v)(h:Rep K H r v):Rep K H' r v:=Rep.aX e.w r v h
theorem aa.ext(e:Ext H H')(r)(v)(h:aa K H r v):aa K H' r v:=aa.aX e.w r v h
theorem aF.ext(h:aF K H xs ws)(e:Ext H H'):aF K H' xs ws:=aF.aX e.w h
theorem cU.ext(h:cU K H o ho)(e:Ext H H'):cU K H' o ho:=cU.aX e.w h
end
def View(K:ag)(H:Hp)(M:RM):Prop:=∀a o,M a=some o->∃b,H a=some b/\cU K H o b
section
variable {K:ag}{H H':Hp}{M:RM}{p:Addr}{ho:HO}{o:RO}
theorem View.free(w:View K H M)(h:H p=none):M p=none:=by
 cases q:M p with
 |none=>rfl
 |some o=>obtain⟨ho,e,_⟩:=w p o q;rw[h]at e;cases e
theorem View.new(w:View K H M)(h:H p=none):View K (upd H p ho) M:=λa o e=>by
 obtain⟨b,e1,r⟩:=w a o e;exact⟨b,by rw[aE (d9 e1 h)];exact e1,r.ext (Ext.new h)⟩
theorem View.cV(w:View K H M)(h:H p=none)(r:cU K (upd H p ho) o ho):View K (upd H p ho) (put M p o):=λa c e=>by
 by_cases b:a=p
 . subst b;rw[bF]at e;cases e;exact⟨ho,c0,r⟩
 . rw[put_ne b]at e;exact w.new h a c e
theorem View.write(w:View K H M)(h:M p=some o')(r:cU K (upd H p ho) o ho):View K (upd H p ho) (put M p o):=λa d e=>by
 by_cases b:a=p
 . subst b;rw[bF]at e;cases e;exact⟨ho,c0,r⟩
 . rw[put_ne b]at e
   obtain⟨c,e1,r1⟩:=w a d e;obtain⟨g,f,r2⟩:=w p o' h;exact⟨c,by rw[aE b];exact e1,cU.aX (r2.Ai f) r1⟩
end
abbrev bw:=List (Option RV)
abbrev ao:=RV->RM->Prop
abbrev au:=bw->RM->ao->Prop
abbrev dJ:=bw->RM->(Bool->RM->Prop)->Prop
abbrev bS:=bw->RM->(LR->RM->Prop)->Prop
def aU(K:ag)(H:Hp)(σ:bw)(a:L2.St):Prop:=σ.length=a.length/\∀(i:Nat) r,σ[i]? =some (some r)->∃v,a[i]? =some (some v)/\Rep K H r v
theorem aU.aX{K:ag}(h:aU K H σ σ0)(e:bp H H'):aU K H' σ σ0:=
 ⟨h.1,λi r q=>by obtain⟨v,e1,a⟩:=h.2 i r q;exact⟨v,e1,Rep.aX e r v a⟩⟩
theorem aU.ext{K:ag}(h:aU K H σ σ0)(e:Ext H H'):aU K H' σ σ0:=h.aX e.w
theorem aU.set{K:ag}{v:V}(h:aU K H σ σ0)(c:Rep K H r v)(i):aU K H (σ.set i (some r)) (σ0.set i (some v)):=by
 refine⟨by simp[h.1],λj d q=>?_⟩
 by_cases a:i=j
 . subst a
   rw[List.getElem?_set]at q;split at q
   . split at q
     . cases q;rename_i e _ ;exact⟨v,by rw[List.getElem?_set_self (by rw[<-h.1];assumption)],c⟩
     . cases q
   . rename_i z;exact aS rfl z
 . rw[List.getElem?_set_ne a]at q
   obtain⟨w,e1,b⟩:=h.2 j d q;exact⟨w,by rw[List.getElem?_set_ne a];exact e1,b⟩
def iW(K:ag)(H:Hp)(Q:ao)(Q0:VK):Prop:=∀rv b v a,Q rv b->Ext H a->View K a b->Rep K a rv v->Q0 v a
theorem iW.ext{K:ag}(h:iW K H Q Q0)(e:Ext H H'):iW K H' Q Q0:=λrv b v a q c w r=>h rv b v a q (e.trans c) w r
def up(K:ag)(t:au):TE:=λσ0 H Q0=>∃σ M Q,aU K H σ σ0/\View K H M/\t σ M Q/\iW K H Q Q0
def Dl(K:ag)(t:dJ):TT:=λσ0 H Q0=>∃σ M Q,aU K H σ σ0/\View K H M/\t σ M Q/\∀b M' H',Q b M'->Ext H H'->View K H' M'->Q0 b H'
noncomputable def Dk (K:ag)(t:bS):TA:=λσ0 H Q0=>∃σ M Q,aU K H σ σ0/\View K H M/\t σ M Q/\∀rs M' vs H',Q rs M'->Ext H H'->View K H' M'->aa K H' rs vs->Q0 vs H'
structure RD where
 nx:bw->RM->Prop
 rt:ao
 bk:bw->RM->Prop:=λ_ _=>False
 ct:bw->RM->Prop:=λ_ _=>False
abbrev c9:=RD->bw->RM->Prop
def oM(K:ag)(H:Hp)(q:bw->RM->Prop)(q0:L2.St->Hp->Prop):Prop:=∀c M a b,q c M->Ext H b->View K b M->aU K b c a->q0 a b
theorem oM.ext{K:ag}(h:oM K H Q Q0)(e:Ext H H'):oM K H' Q Q0:=λσ M σ0 H2 q e2 w r=>h σ M σ0 H2 q (e.trans e2) w r
structure wY(K:ag)(H:Hp)(D:RD)(D0:Ends):Prop where
 nx:oM K H D.nx D0.nx
 rt:iW K H D.rt D0.rt
 bk:oM K H D.bk D0.bk
 ct:oM K H D.ct D0.ct
theorem wY.ext{K:ag}(h:wY K H D D0)(e:Ext H H'):wY K H' D D0:=⟨h.nx.ext e,h.rt.ext e,h.bk.ext e,h.ct.ext e⟩
def OG(K:ag)(t:c9):TS:=λD0 σ0 H=>∃σ M D,aU K H σ σ0/\View K H M/\t D σ M/\wY K H D D0
def ai(X:Cx)(e:Expr)(t:au):Prop:=PE X e (up X.K t)
def d7(X:Cx)(e:Expr)(t:dJ):Prop:=PT X e (Dl X.K t)
def nI(X:Cx)(e:Expr)(t:dJ):Prop:=PW X e (Dl X.K t)
def eV(X:Cx)(es:bb)(t:bS):Prop:=PA X es (Dk X.K t)
def eI(X:Cx)(s:Stmt)(t:c9):Prop:=PS X s (OG X.K t)
def j5(X:Cx)(s:List Stmt)(t:c9):Prop:=fY X s (OG X.K t)
section
variable {X:Cx}
theorem PE.imp{e:Expr}{t t':TE}(h:PE X e t)(i:∀σ H Q,t' σ H Q->t σ H Q):PE X e t':=λpins s σ H Q I w=>h pins s σ H Q I (i σ H Q w)
theorem PT.imp{e:Expr}{t t':TT}(h:PT X e t)(i:∀σ H Q,t' σ H Q->t σ H Q):PT X e t':=λpins s σ H Q I w=>h pins s σ H Q I (i σ H Q w)
theorem PW.imp{e:Expr}{t t':TT}(h:PW X e t)(i:∀σ H Q,t' σ H Q->t σ H Q):PW X e t':=λwh pins s σ H Q I w=>h wh pins s σ H Q I (i σ H Q w)
theorem PA.imp{e:bb}{t t':TA}(h:PA X e t)(i:∀σ H Q,t' σ H Q->t σ H Q):PA X e t':=λpos pins s σ H Q I w=>h pos pins s σ H Q I (i σ H Q w)
theorem PS.imp{e:Stmt}{t t':TS}(h:PS X e t)(i:∀D σ H,t' D σ H->t D σ H):PS X e t':=λpins s σ H D I w=>h pins s σ H D I (i D σ H w)
theorem fY.imp{e:List Stmt}{t t':TS}(h:fY X e t)(i:∀D σ H,t' D σ H->t D σ H):fY X e t':=λpins s σ H D I w=>h pins s σ H D I (i D σ H w)
end
section
variable {X:Cx}{a b c:Expr}{ta tb tc:au}{tA tB:dJ}{pos:Pos}{rest:bb}
def qv(i:Nat):au:=λσ M Q=>match σ[i]? with|some (some v)=>Q v M|_=>False
def rC(v:RV):au:=λ_ M Q=>Q v M
theorem rv(i){x:Str}(k:X.N[i]? =some x:=by rfl)(g:qX X.env.scope x)(l:(x==("__debug__":Str))=false:=by decide)
 (f:(x==("__classdict__":Str))=false:=by decide):ai X (.Name x pos) (qv i):=PE.imp (YL k g l f) λσ0 H Q h=>by
 obtain⟨o,M,n,hs,g,d,m⟩:=h;unfold qv at d;split at d
 . rename_i r e
   obtain⟨v,e1,j⟩:=hs.2 i r e;exact⟨v,e1,m r M v H d (.refl H) g j⟩
 . exact d.elim
theorem rX{e:Expr}{v:V}(h:PE X e (tC v))(f:∀H,Rep X.K H r v):ai X e (rC r):=PE.imp h λσ0 H Q h=>by
 obtain⟨k,M,j,hs,i,g,d⟩:=h;exact d r M v H g (.refl H) i (f H)
theorem ri{i j pos}:ai X (.Constant (.int i) j pos) (rC (.int i)):=rX Ye λH=>by simp only[Rep]
theorem rb{b j pos}:ai X (.Constant (.bool b) j pos) (rC (.bl b)):=rX qyr λH=>by simp only[Rep]
theorem rn{j pos}:ai X (.Constant .none j pos) (rC .aq):=rX YR λH=>by simp only[Rep]
theorem rs{x j pos}:ai X (.Constant (.str x) j pos) (rC (.str x)):=rX YN λH=>by simp only[Rep]
theorem Nn{x:Str}{v:V}(f:X.mg x=some u)(h:RelV v u)(g:∀H,Rep X.K H r v)(e:Gl X x:=by rfl)(d:(x==("__debug__":Str))=false:=by decide):ai X (.Name x pos) (rC r):=
 rX (Wu e f h d) g
theorem vH{x:Str}{v:V}(f:X.mg x=none)(i:bootBuiltins x=some u)(j:RelV v u)(h:∀H,Rep X.K H r v)(e:Gl X x:=by rfl)(g:x≠"__name__":=by decide)(d:(x==("__debug__":Str))=false:=by decide):ai X (.Name x pos) (rC r):=
 rX (Wx e f i j g d) h
abbrev cu:=RV->RV->RM->ao->Prop
def sY(K:ag)(g:cu):R2:=λx y H f=>∃d e M Q,Rep K H d x/\Rep K H e y/\View K H M/\g d e M Q/\iW K H Q f
def cS(X:Cx)(f:Value->Value->Sem Value)(d:cu):Prop:=dH X f (sY X.K d)
def ot(rr:cu)(ta tb:au):au:=λσ M Q=>ta σ M λx M1=>tb σ M1 λy M2=>rr x y M2 Q
theorem yz{K:ag}(h:up K (ot rr ta tb) σ0 H Q0):sX (sY K rr) (up K ta) (up K tb) σ0 H Q0:=by
 obtain⟨σ,M,Q,hs,hv,ht,hk⟩:=h;refine⟨σ,M,_,hs,hv,ht,λrx M1 x H1 hb e1 v1 r1=>?_⟩
 refine⟨σ,M1,_,hs.ext e1,v1,hb,λry M2 y H2 hr e2 v2 r2=>?_⟩
 exact⟨rx,ry,M2,Q,Rep.ext e2 rx x r1,r2,v2,hr,hk.ext (e1.trans e2)⟩
theorem rop{op:Operator}(f:cS X (binaryOp op) rr)(d:ai X a ta)(e:ai X b tb):ai X (.BinOp a op b pos) (ot rr ta tb):=PE.imp (qyo f d e) λ_ _ _ h=>yz h
theorem Rj{op:CmpOp}(g:cS X (compareOp op) rr)(d:ai X a ta)(e:ai X b tb)(f:behindInMarks op b=false):ai X (.Compare a [op] [b] pos) (ot rr ta tb):=
 PE.imp (LH g d e f) λ_ _ _ h=>yz h
def m8(t:au):dJ:=λσ M Q=>t σ M λv M'=>match v with| .bl k=>Q k M'|_=>False
theorem pT{K:ag}{H:Hp}{Q:Bool->RM->Prop}{Q0:Bool->Hp->Prop}(g:∀b f d,Q b f->Ext H d->View K d f->Q0 b d):
 iW K H (λv f=>match v with| .bl k=>Q k f|_=>False) (λx d=>∃k,x= .bl k/\Q0 k d):=λrv f v d q e w r=>by
 cases rv with
 |bl k=>simp only[Rep]at r;exact⟨k,r,g k f d q e w⟩
 |_=>exact q.elim
theorem Z1{op:CmpOp}(i:cS X (compareOp op) rr)(d:ai X a ta)(e:ai X b tb)(g:behindInMarks op b=false):d7 X (.Compare a [op] [b] pos) (m8 (ot rr ta tb)):=
 PT.imp (LD i d e g) λσ0 H m h=>by
  obtain⟨l,M,Q,hs,k,j,f⟩:=h;exact yz ⟨l,M,_,hs,k,j,pT f⟩
theorem ZZ{e:Expr}{t:au}(h:ai X e t)(f:∀d,isTrue e X.env d=(do let v<-d;standAt e.pos;holding [v] (truthy v)):=by intro _;rfl):d7 X e (m8 t):=
 PT.imp (YB h f) λσ0 H l h=>by
  obtain⟨k,M,Q,hs,j,i,g⟩:=h;exact⟨k,M,_,hs,j,i,pT g⟩
noncomputable def r8 (rr rr':cu)(ta tb tc:au):au:=λσ M Q=>ta σ M λx M1=>tb σ M1 λy M2=>rr x y M2 λz M3=>match z with
 | .bl k=>(k=true->tc σ M3 λw M4=>rr' y w M4 Q)/\(k=false->Q (.bl false) M3)
 |_=>False
theorem Kr{K:ag}(h:up K (r8 rr rr' ta tb tc) σ0 H Q0):By (sY K rr) (sY K rr') (up K ta) (up K tb) (up K tc) σ0 H Q0:=by
 obtain⟨σ,M,Q,hs,hv,ht,hk⟩:=h;refine⟨σ,M,_,hs,hv,ht,λrx M1 x H1 hb e1 v1 r1=>?_⟩
 refine⟨σ,M1,_,hs.ext e1,v1,hb,λry M2 y H2 hr e2 v2 r2=>?_⟩
 refine⟨rx,ry,M2,_,Rep.ext e2 rx x r1,r2,v2,hr,λrz M3 z H3 hz e3 v3 r3=>?_⟩
 cases rz with
 |bl k=>
  simp only[Rep]at r3;refine⟨k,r3,?_⟩;have e13:=(e1.trans e2).trans e3;cases k with
  |true=>
   refine qA ?_;refine⟨σ,M3,_,hs.ext e13,v3,hz.1 rfl,λrw M4 w H4 hw e4 v4 r4=>?_⟩
   exact⟨ry,rw,M4,Q,Rep.ext (e3.trans e4) ry y r2,r4,v4,hw,hk.ext (e13.trans e4)⟩
  |false=>exact qB (hk _ M3 _ H3 (hz.2 rfl) e13 v3 (by simp only[Rep]))
 |_=>exact hz.elim
theorem XM{op d:CmpOp}(k:cS X (compareOp op) rr)(e:cS X (compareOp d) rr')(f:ai X a ta)(g:ai X b tb)(i:ai X c tc)(j:lastMarks [op,d] [b,c]=false:=by with_unfolding_all rfl):
 ai X (.Compare a [op,d] [b,c] pos) (r8 rr rr' ta tb tc):=PE.imp (U4 k e f g i j) λ_ _ _ h=>Kr h
theorem We{op d:CmpOp}(l:cS X (compareOp op) rr)(e:cS X (compareOp d) rr')(f:ai X a ta)(g:ai X b tb)(i:ai X c tc)(k:lastMarks [op,d] [b,c]=false:=by with_unfolding_all rfl):
 d7 X (.Compare a [op,d] [b,c] pos) (m8 (r8 rr rr' ta tb tc)):=PT.imp (VD l e f g i k) λσ0 H r h=>by
 obtain⟨o,M,Q,hs,n,m,j⟩:=h;exact Kr ⟨o,M,_,hs,n,m,pT j⟩
def Oz(g:RV->RM->ao->Prop)(ta:au):au:=λσ M Q=>ta σ M λx M1=>g x M1 Q
def OH(K:ag)(g:RV->RM->ao->Prop):V->Hp->VK->Prop:=λx H e=>∃d M Q,Rep K H d x/\View K H M/\g d M Q/\iW K H Q e
theorem Wa{K:ag}{g:RV->RM->ao->Prop}(h:up K (Oz g ta) σ0 H Q0):OD (OH K g) (up K ta) σ0 H Q0:=by
 obtain⟨σ,M,Q,hs,hv,ht,hk⟩:=h;exact⟨σ,M,_,hs,hv,ht,λrx M1 x H1 hb e1 v1 r1=>⟨rx,M1,Q,r1,v1,hb,hk.ext e1⟩⟩
theorem run{op:UnaryOp}{g:RV->RM->ao->Prop}(e:Dz X (unaryOp op) (OH X.K g))(d:ai X a ta):ai X (.UnaryOp op a pos) (Oz g ta):=PE.imp (qym e d) λ_ _ _ h=>Wa h
def zp(t u:dJ):dJ:=λσ M Q=>t σ M λc M1=>(c=true->u σ M1 Q)/\(c=false->Q false M1)
def zE(t u:dJ):dJ:=λσ M Q=>t σ M λc M1=>(c=true->Q true M1)/\(c=false->u σ M1 Q)
def Hn(t:dJ):dJ:=λσ M Q=>t σ M λc M1=>Q (!c) M1
theorem ZF(d:d7 X a tA):nI X (.BoolOp .And [a] pos) tA:=WZ d
theorem Qs(d:d7 X a tA):nI X (.BoolOp .Or [a] pos) tA:=Yz d
theorem rand(l:d7 X a tA)(m:nI X (.BoolOp .And (b::rest) pos) tB):nI X (.BoolOp .And (a::b::rest) pos) (zp tA tB):=PW.imp (YA l m) λσ0 H r h=>by
 obtain⟨f,M,Q,hs,o,n,d⟩:=h;refine⟨f,M,_,hs,o,n,λk M1 H1 q e1 e=>?_⟩
 cases k with
 |true=>exact qA ⟨f,M1,Q,hs.ext e1,e,q.1 rfl,λb i g z j w=>d b i g z (e1.trans j) w⟩
 |false=>exact qB (d false M1 H1 (q.2 rfl) e1 e)
theorem OB(l:d7 X a tA)(m:nI X (.BoolOp .Or (b::rest) pos) tB):nI X (.BoolOp .Or (a::b::rest) pos) (zE tA tB):=PW.imp (qyh l m) λσ0 H r h=>by
 obtain⟨f,M,Q,hs,o,n,d⟩:=h;refine⟨f,M,_,hs,o,n,λk M1 H1 q e1 e=>?_⟩
 cases k with
 |true=>exact qA (d true M1 H1 (q.1 rfl) e1 e)
 |false=>exact qB ⟨f,M1,Q,hs.ext e1,e,q.2 rfl,λb i g z j w=>d b i g z (e1.trans j) w⟩
theorem zG(h:nI X a tA):d7 X a tA:=PW.pt h
theorem Z0(d:d7 X a tA):d7 X (.UnaryOp .Not a pos) (Hn tA):=PT.imp (YC d) λσ0 H l h=>by
 obtain⟨j,M,Q,hs,g,f,e⟩:=h;exact⟨j,M,_,hs,g,f,λk M1 H1 q e1 i=>e (!k) M1 H1 q e1 i⟩
def yS(ta tb:au):au:=λσ M Q=>ta σ M λx M1=>match x with| .bl c=>(c=true->tb σ M1 Q)/\(c=false->Q (.bl false) M1)|_=>False
def zi(ta tb:au):au:=λσ M Q=>ta σ M λx M1=>match x with| .bl c=>(c=true->Q (.bl true) M1)/\(c=false->tb σ M1 Q)|_=>False
def Nj(ta:au):au:=λσ M Q=>ta σ M λx M1=>match x with| .bl c=>Q (.bl (!c)) M1|_=>False
theorem Hb{op}{t:au}(h:ai X a t):ai X (.BoolOp op [a] pos) t:=YO h
theorem Nr(ha:ai X a ta)(hb:ai X (.BoolOp .And (b::rest) pos) tb):ai X (.BoolOp .And (a::b::rest) pos) (yS ta tb):=PE.imp (Yh ha hb) λσ0 H Q0 h=>by
 obtain⟨σ,M,Q,hs,hv,ht,hk⟩:=h;refine⟨σ,M,_,hs,hv,ht,λrx M1 x H1 q e1 v1 r1=>?_⟩
 cases rx with
 |bl k=>
  simp only[Rep]at r1;refine⟨k,r1,?_⟩;cases k with
  |true=>exact qA ⟨σ,M1,Q,hs.ext e1,v1,q.1 rfl,hk.ext e1⟩
  |false=>exact qB (hk _ M1 _ H1 (q.2 rfl) e1 v1 (by simp only[Rep]))
 |_=>exact q.elim
theorem Ha(ha:ai X a ta)(hb:ai X (.BoolOp .Or (b::rest) pos) tb):ai X (.BoolOp .Or (a::b::rest) pos) (zi ta tb):=PE.imp (qyn ha hb) λσ0 H Q0 h=>by
 obtain⟨σ,M,Q,hs,hv,ht,hk⟩:=h;refine⟨σ,M,_,hs,hv,ht,λrx M1 x H1 q e1 v1 r1=>?_⟩
 cases rx with
 |bl k=>
  simp only[Rep]at r1;refine⟨k,r1,?_⟩;cases k with
  |true=>exact qA (hk _ M1 _ H1 (q.1 rfl) e1 v1 (by simp only[Rep]))
  |false=>exact qB ⟨σ,M1,Q,hs.ext e1,v1,q.2 rfl,hk.ext e1⟩
 |_=>exact q.elim
theorem Z2(ha:ai X a ta):ai X (.UnaryOp .Not a pos) (Nj ta):=PE.imp (YQ ha) λσ0 H Q0 h=>by
 obtain⟨σ,M,Q,hs,hv,ht,hk⟩:=h;refine⟨σ,M,_,hs,hv,ht,λrx M1 x H1 q e1 v1 r1=>?_⟩
 cases rx with
 |bl k=>simp only[Rep]at r1;exact⟨k,r1,hk _ M1 _ H1 q e1 v1 (by simp only[Rep])⟩
 |_=>exact q.elim
def zD(t:dJ)(ta tb:au):au:=λσ M Q=>t σ M λc M1=>(c=true->ta σ M1 Q)/\(c=false->tb σ M1 Q)
theorem rif(j:d7 X c tA)(g:ai X a ta)(i:ai X b tb):ai X (.IfExp c a b pos) (zD tA ta tb):=PE.imp (U0 j g i) λσ0 H n h=>by
 obtain⟨d,M,Q,hs,m,l,e⟩:=h;refine⟨d,M,_,hs,m,l,λk M1 H1 q e1 f=>?_⟩
 cases k with
 |true=>exact qA ⟨d,M1,Q,hs.ext e1,f,q.1 rfl,e.ext e1⟩
 |false=>exact qB ⟨d,M1,Q,hs.ext e1,f,q.2 rfl,e.ext e1⟩
variable {e:Expr}{es:bb}{te:au}{t:bS}
def j0:bS:=λ_ M Q=>Q [] M
def nX(ta:au)(tr:bS):bS:=λσ M Q=>ta σ M λx M1=>tr σ M1 λxs M2=>Q (x::xs) M2
theorem zx:eV X [] j0:=PA.imp Yi λσ0 H i h=>by
 obtain⟨j,M,Q,hs,g,f,d⟩:=h;exact d [] M [] H f (.refl H) g aa.nil
theorem sI(ha:ai X e te)(hr:eV X es t)(hs:starEach (e::es) X.env=(false,eval e X.env)::starEach es X.env:=by rfl):eV X (e::es) (nX te t):=PA.imp (Wy ha hr hs) λσ0 H Q0 h=>by
 obtain⟨σ,M,Q,hs,hv,ht,hk⟩:=h;refine⟨σ,M,_,hs,hv,ht,λrx M1 x H1 q e1 v1 r1=>?_⟩
 refine⟨σ,M1,_,hs.ext e1,v1,q,λrs M2 vs H2 q2 e2 v2 r2=>?_⟩
 exact hk (rx::rs) M2 (x::vs) H2 q2 (e1.trans e2) v2 (aa.cons (Rep.ext e2 rx x r1) r2)
def He(t:bS):au:=λσ M Q=>t σ M λrs M1=>rs.length<=sizeLine/\Q (.tup rs) M1
theorem rR{K:ag}{p:Addr}{rs:LR}{vs:LV}(h:H p=none)(r:aa K H rs vs):Rep K (upd H p (.tup vs)) (.tup rs) (.ref p):=by
 simp only[Rep];exact⟨p,vs,rfl,c0,aa.ext (Ext.new h) rs vs r⟩
theorem js{K:ag}{p:Addr}{rs:LR}{vs:LV}(h:H p=none)(r:aa K H rs vs):Rep K (upd H p (.aZ o (.lst vs))) (.ls rs) (.ref p):=by
 simp only[Rep];exact⟨p,vs,rfl,.inl ⟨o,c0⟩,aa.ext (Ext.new h) rs vs r⟩
theorem Qp{x1}(h:eV X es t):ai X (.Tuple es x1 pos) (He t):=PE.imp (YM h) λσ0 H l h=>by
 obtain⟨k,M,Q,hs,i,g,f⟩:=h;refine⟨k,M,_,hs,i,g,λrs M1 vs H1 q e1 j r1=>⟨by rw[<-r1.length];exact q.1,λp d=>?_⟩⟩
 exact f _ M1 _ _ q.2 (e1.trans (Ext.new d)) (j.new d) (rR d r1)
def Hu(t:bS):au:=λσ M Q=>t σ M λrs M1=>rs.length<=sizeLine/\∀p,M1 p=none->Q (.ref p) (put M1 p (.lst rs))
theorem Qt(h:eV X es t):ai X (.List es pos) (Hu t):=PE.imp (Mc h) λσ0 H l h=>by
 obtain⟨k,M,Q,hs,j,i,g⟩:=h;refine⟨k,M,_,hs,j,i,λrs M1 vs H1 q e1 f r1=>⟨by rw[<-r1.length];exact q.1,λp d=>?_⟩⟩
 exact g _ _ _ _ (q.2 p (f.free d)) (e1.trans (Ext.new d)) (f.cV d ⟨vs,rfl,aa.ext (Ext.new d) rs vs r1⟩) (by simp only[Rep])
end
section
variable {X:Cx}{pins:aH}{σ:L2.St}{H:Hp}{s:Shared}
theorem freeze{p:Addr}(I:Inv X pins σ H s)(h:H p=some (.lst xs)):∃o,Inv X pins σ (upd H p (.aZ o (.lst xs))) s:=by
 have m:xs.length<=sizeLine/\∃(ab:ak) (n:Nat),Vals xs ab/\s.heap.get? p=some { cls:=.type "list",data:=.seq ab.toArray n }:=I.av p _ h;obtain⟨z,ab,n,r,e⟩:=id m;have d:∀b,H b=none->b≠p:=λb q w=>by subst w;rw[h]at q;cases q
 refine⟨{ cls:=.type "list",data:=.seq ab.toArray n },⟨I.ok,I.os,I.bare,⟨I.base.keep,I.base.slot,λb o q w x=>?_,I.base.there,λb f q=>?_,λb o u q=>?_,λb t q=>?_⟩,I.loc,I.cell,?_,λx c q=>?_,λq l=>?_,λb u q=>?_,I.len⟩⟩
 . have:=I.base.free b o q w x
   rw[aE (d b this)];exact this
 . have e1:=I.base.bj b f q
   rw[aE (jx e1 h (by intro z;cases z))];exact e1
 . have e1:=I.base.aK b o u q
   rw[aE (jx e1 h (by intro z;cases z))];exact e1
 . obtain⟨a,e1⟩:=I.base.et b t q
   exact⟨a,by rw[aE (jx e1 h (by intro z;cases z))];exact e1⟩
 . rw[aE (d _ I.free)];exact I.free
 . have:=I.bM x c q
   rw[aE (d _ this)];exact this
 . obtain⟨j,g,k⟩:=I.pin q l
   exact⟨j,by rw[aE (d _ g)];exact g,k⟩
 . by_cases i:b=p
   . subst i
     rw[c0]at q;cases q;exact⟨e,z,ab,n,r,e⟩
   . rw[aE i]at q
     refine(I.av b u q).ej (λ_ _ _ q=>q) (λc q=>?_) λc v q=>?_
     . rw[aE (jx q h (by intro z;cases z))];exact q
     . rw[aE (jx q h (by intro z;cases z))];exact q
theorem frozen(h:EP X pins σ (λv a=>∃H1 p xs,v= .ref p/\H1 p=none/\a=upd H1 p (.lst xs)/\∀o,Q (.ref p) (upd H1 p (.aZ o (.lst xs)))) u s):EP X pins σ Q u s:=by
 obtain⟨v,a,I,r,H1,p,xs,rfl,c,rfl,q⟩:=h;obtain⟨o,b⟩:=freeze I (p:=p) (xs:=xs) c0;rw[Wh]at b;exact⟨.ref p,_,b,r,q o⟩
end
section
variable {X:Cx}{es:bb}{t:bS}{pos:Pos}
def Hv(t:bS):au:=λσ M Q=>t σ M λrs M1=>rs.length<=sizeLine/\Q (.ls rs) M1
theorem Qu(h:eV X es t):ai X (.List es pos) (Hv t):=λpins s σ0 H Q0 I hw=>by
 obtain⟨σ,M,Q,hs,hv,ht,hk⟩:=hw;refine az (Mc h pins s σ0 H (λv H'=>∃H1 p xs,v= .ref p/\H1 p=none/\H'=upd H1 p (.lst xs)/\∀o,Q0 (.ref p) (upd H1 p (.aZ o (.lst xs)))) I ?_) λ_ _ e=>frozen e
 refine⟨σ,M,_,hs,hv,ht,λrs M1 vs H1 q e1 v1 r1=>⟨by rw[<-r1.length];exact q.1,λp hp=>⟨H1,p,vs,rfl,hp,rfl,λo=>?_⟩⟩⟩
 exact hk _ M1 _ _ q.2 (e1.trans (Ext.new hp)) (v1.new hp) (js hp r1)
end
section
variable {X:Cx}{st:Stmt}{rest:List Stmt}{t u:c9}{e:Expr}{te:au}{pos:Pos}
def Nk:c9:=λD a M=>D.nx a M
def Hg(t u:c9):c9:=λD a M=>t { D with nx:=u D } a M
theorem QD:j5 X [] Nk:=fY.imp W0 λD0 a H h=>by
 obtain⟨f,M,D,hs,d,c,b⟩:=h;exact b.nx f M a H c (.refl H) d hs
theorem ZN(h1:eI X st t)(h2:j5 X rest u):j5 X (st::rest) (Hg t u):=fY.imp (VE h1 h2) λD0 σ0 H h=>by
 obtain⟨σ,M,D,hs,hv,ht,hd⟩:=h;refine⟨σ,M,_,hs,hv,ht,⟨λσ' M' σ0' H' q e w r=>?_,hd.rt,hd.bk,hd.ct⟩⟩
 exact⟨σ',M',D,r,w,q,hd.ext e⟩
def NO(te:au):c9:=λD a M=>te a M λ_ M1=>D.nx a M1
theorem ZM(d:ai X e te)(hs:swapsWith e none pos.line X.env=pure false:=by rfl):eI X (.Expr e pos) (NO te):=PS.imp (W3 d hs) λD0 a H h=>by
 obtain⟨b,M,D,hs,g,f,c⟩:=h;exact⟨b,M,_,hs,g,f,λrx M1 x H1 q e1 i r1=>c.nx b M1 a H1 q e1 i (hs.ext e1)⟩
def Hh(te:au):c9:=λD a M=>te a M D.rt
theorem Qz(b:ai X e te):eI X (.Return (some e) pos) (Hh te):=PS.imp (YE b) λD0 g H h=>by
 obtain⟨f,M,D,hs,d,c,a⟩:=h;exact⟨f,M,_,hs,d,c,a.rt⟩
def Nh:c9:=λD _ M=>D.rt .aq M
theorem ZI:eI X (.Return none pos) Nh:=PS.imp W2 λD0 d H h=>by
 obtain⟨f,M,D,hs,c,b,a⟩:=h;exact a.rt .aq M .aq H b (.refl H) c (by simp only[Rep])
def zm(c:dJ)(t u:c9):c9:=λD a M=>c a M λb M1=>(b=true->t D a M1)/\(b=false->u D a M1)
theorem sif{a b:List Stmt}(l:d7 X c tc)(i:j5 X a t)(j:j5 X b u):eI X (.If c a b pos) (zm tc t u):=PS.imp (qyj l i j) λD0 o H h=>by
 obtain⟨d,M,D,hs,n,m,f⟩:=h;refine⟨d,M,_,hs,n,m,λk M1 H1 q e1 g=>?_⟩
 cases k with
 |true=>exact qA ⟨d,M1,D,hs.ext e1,g,q.1 rfl,f.ext e1⟩
 |false=>exact qB ⟨d,M1,D,hs.ext e1,g,q.2 rfl,f.ext e1⟩
def vW(i:Nat)(te:au):c9:=λD a M=>te a M λx M1=>D.nx (a.set i (some x)) M1
theorem sset(i){x:Str}(c:ai X e te)(a:X.N.Nodup)(hi:X.N[i]? =some x:=by rfl)(hx:Loc X.env.scope x)(hs:swapsWith e (some (.Name x pos')) pos.line X.env=pure false:=by rfl)
 (d:X.fn x=true∨X.env.scope.names.lookup x=some .local):eI X (.Assign [.Name x pos'] e pos) (vW i te):=PS.imp (YD a hi hx c hs d) λD0 l H h=>by
 obtain⟨k,M,D,hs,g,f,b⟩:=h;exact⟨k,M,_,hs,g,f,λrx M1 x H1 q e1 j r1=>b.nx _ M1 _ H1 q e1 j ((hs.ext e1).set r1 i)⟩
abbrev ji:=RV->bw->RM->(bw->RM->Prop)->Prop
def upG(K:ag)(g:ji):TG:=λv a H c=>∃rv b M Q,Rep K H rv v/\aU K H b a/\View K H M/\g rv b M Q/\oM K H Q c
def oI(X:Cx)(a:Expr)(g:ji):Prop:=PG X a (upG X.K g)
theorem PG.imp{tg:Expr}{t t':TG}(h:PG X tg t)(i:∀v σ H Q,t' v σ H Q->t v σ H Q):PG X tg t':=λpins s σ H v u Q I r w=>h pins s σ H v u Q I r (i v σ H Q w)
def ja(i:Nat):ji:=λx a M Q=>Q (a.set i (some x)) M
theorem qyW(i){x:Str}(a:X.N.Nodup)(hi:X.N[i]? =some x:=by rfl)(hx:Loc X.env.scope x)
 (b:X.fn x=true∨X.env.scope.names.lookup x=some .local):oI X (.Name x pos) (ja i):=PG.imp (yC a hi hx b) λv j H k h=>by
 obtain⟨rv,l,M,Q,f,hs,g,c,d⟩:=h;exact d _ M _ H c (.refl H) g (hs.set f i)
noncomputable def vm:bw->List Nat->LR->bw
 |σ,i::is,x::xs=>vm (σ.set i (some x)) is xs
 |σ,_,_=>σ
def nj:List Nat->nJ
 | []=>GO
 |i::is=>NU (Cb i) (nj is)
theorem L0{K:ag}:∀{is:List Nat} {rs:LR} {vs:LV} {σ:bw} {σ0:L2.St},rs.length=is.length->aa K H rs vs->aU K H σ σ0->
 (∀a,aU K H (vm σ is rs) a->Q0 a H)->nj is vs σ0 H Q0
 | [],[],vs,σ,σ0,_,r,hs,k=>by
  simp only[aa]at r;exact⟨r,k σ0 hs⟩
 |i::is,x::rs,vs,σ,σ0,hl,r,hs,k=>by
  simp only[aa]at r;obtain⟨v,b,rfl,c,d⟩:=r;refine⟨v,b,rfl,?_⟩;show nj is b (σ0.set i (some v)) H Q0;exact L0 (σ:=σ.set i (some x)) (by simpa using hl) d (hs.set c i) k
def wu(is:List Nat):ji:=λx a M Q=>match x with| .tup xs=>xs.length=is.length/\Q (vm a is xs) M|_=>False
theorem Q9{is:List Nat}{n:Nat}(hc:X.calm=true)(h:oH X es (nj is))(hl:n=is.length:=by rfl)
 (hn:(assignEach es X.env).length=n:=by rfl) (hst:(assignEach es X.env).findIdx? (·.1)=none:=by rfl):oI X (.Tuple es k pos) (wu is):=PG.imp (Mb hc h hn hst) λv σ0 H Q0 h=>by
 obtain⟨rv,σ,M,Q,hr,hs,hv,hg,hk⟩:=h;cases rv with
 |tup xs=>
  simp only[Rep]at hr;obtain⟨a,vs,rfl,h1,h2⟩:=hr;exact⟨a,vs,rfl,bL.of h1,by rw[<-h2.length,hl];exact hg.1,L0 hg.1 h2 hs λσ0' q=>hk _ M σ0' H hg.2 (.refl H) hv q⟩
 |_=>exact hg.elim
def Cq(te:au)(g:ji):c9:=λD a M=>te a M λx M1=>g x a M1 D.nx
theorem Fb{tg e:Expr}{g:ji}{pos:Pos}(he:ai X e te)(hg:oI X tg g)(hs:swapsWithSole [tg] e pos.line X.env=pure false:=by rfl)(hw:swappedStores [tg] e X.env=pure none:=by rfl)
 (h1:(assignEach [tg] X.env).map (·.2)= [assign tg X.env]:=by rfl):eI X (.Assign [tg] e pos) (Cq te g):=PS.imp (YI he hg hs hw h1) λD0 σ0 H h=>by
 obtain⟨σ,M,D,hs,hv,ht,hd⟩:=h;exact⟨σ,M,_,hs,hv,ht,λrx M1 x H1 q e1 v1 r1=>⟨rx,σ,M1,D.nx,r1,hs.ext e1,v1,q,hd.nx.ext e1⟩⟩
abbrev yT:=RV->RV->RV->RM->(RM->Prop)->Prop
noncomputable def Nt (K:ag)(g:yT):zC:=λo i v H d=>∃ro ri c M Q,Rep K H ro o/\Rep K H ri i/\Rep K H c v/\View K H M/\g ro ri c M Q/\∀b a,Q b->Ext H a->View K a b->d a
def Np(to ti:au)(g:yT):ji:=λv σ M Q=>to σ M λo M1=>ti σ M1 λi M2=>g o i v M2 λM3=>Q σ M3
theorem Ra{o i:Expr}{g:yT}(ho:ai X o to)(hi:ai X i ti)(hs:yY X (Nt X.K g))
 (ha:∀v,assign (.Subscript o i pos) X.env v=(do
  let ov<-holding [v] (eval o X.env)
  let iv<-holding [v,ov] (eval i X.env)
  standAt pos
  holding [v,ov,iv] (setItem ov iv v)
  release [v,ov,iv] []):=by intro _;rfl):oI X (.Subscript o i pos) (Np to ti g):=PG.imp (YK ho hi hs ha) λv σ0 H Q0 h=>by
 obtain⟨rv,σ,M,Q,hr,hs,hv,hg,hk⟩:=h;refine⟨σ,M,_,hs,hv,hg,λro M1 o H1 q e1 v1 r1=>?_⟩
 refine⟨σ,M1,_,hs.ext e1,v1,q,λri M2 i H2 q2 e2 v2 r2=>?_⟩
 refine⟨ro,ri,rv,M2,_,Rep.ext e2 ro o r1,r2,Rep.ext (e1.trans e2) rv v hr,v2,q2,λM3 H3 q3 e3 v3=>?_⟩
 have e:=(e1.trans e2).trans e3;exact hk σ M3 σ0 H3 q3 e v3 (hs.ext e)
noncomputable def jw (g:ji)(tb:c9)(D:RD)(ok:RM->Prop)(un:RM->RM):LR->bw->RM->Prop
 | [],σ,M=>ok M/\D.nx σ (un M)
 |x::r,σ,M=>ok M/\g x σ M λσ2 M2=>tb { D with nx:=jw g tb D ok un r,ct:=jw g tb D ok un r,bk:=λσ M=>ok M/\D.nx σ (un M),rt:=λv M=>ok M/\D.rt v (un M) } σ2 M2
end
open PySem.SeqAt (EqAt RcAt RcNeAt)
mutual
def bc:RV->RV->Bool
 | .aq,.aq=>true
 | .bl a,.bl b=>a==b
 | .bl a,.int b=>(if a then 1 else 0)==b
 | .int a,.bl b=>a==(if b then 1 else 0)
 | .int a,.int b=>a==b
 | .str a,.str b=>a==b
 | .tup xs,.tup ys=>eO xs ys
 | .ls xs,.ls ys=>eO xs ys
 |_,_=>false
def eO:LR->LR->Bool
 | [],[]=>true
 |x::xs,y::ys=>bc x y&&eO xs ys
 |_,_=>false
end
noncomputable def aA:Nat->RV->Bool
 |_,.aq=>true
 |_,.bl _=>true
 |_,.int _=>true
 |_,.str _=>true
 |n+1,.tup xs=>xs.all (aA n)
 |n+1,.ls xs=>xs.all (aA n)
 |_,_=>false
mutual
def Den(h:Heap):RV->Value->Prop
 | .aq,u=>u= .none
 | .bl b,u=>u= .bool b
 | .int i,u=>∃t,u= .int i t
 | .str x,u=>∃t,u= .str x t
 | .tup xs,u=>∃a ab,u= .ref a/\h.IsTuple a ab.toArray/\ay h xs ab
 | .ls xs,u=>∃a ab,u= .ref a/\h.IsList a ab.toArray/\ay h xs ab
 | .ref _,_=>False
 | .ty _,_=>False
def ay(h:Heap):LR->ak->Prop
 | [],us=>us= []
 |x::xs,us=>∃u r,us=u::r/\Den h x u/\ay h xs r
end
theorem ay.length:∀{xs:LR} {us:ak},ay h xs us->xs.length=us.length
 | [],us,d=>by simp only[ay]at d;subst d;rfl
 |x::xs,us,d=>by
  simp only[ay]at d;obtain⟨u,r,rfl,_,t⟩:=d;simp[ay.length t]
theorem ay.get:∀{xs:LR} {us:ak} {j:Nat} {u:Value},ay h xs us->us[j]? =some u->Den h (xs.getD j .aq) u/\xs.getD j .aq∈xs
 | [],us,_,_,d,e=>by simp only[ay]at d;subst d;simp at e
 |x::xs,us,0,u,d,e=>by
  simp only[ay]at d;obtain⟨v,r,rfl,c,_⟩:=d;simp at e;subst e;exact⟨by simpa using c,by simp⟩
 |x::xs,us,j+1,u,d,e=>by
  simp only[ay]at d;obtain⟨v,r,rfl,_,t⟩:=d;obtain⟨a,b⟩:=ay.get (j:=j) t (by simpa using e)
  exact⟨by simpa using a,by simp only[List.getD_cons_succ];exact gv _ b⟩
section
variable {X:Cx}{pins:aH}{σ:L2.St}{H:Hp}{s:Shared}
theorem Vals.cons_inv{v:V}{vs:LV}{us:ak}(r:Vals (v::vs) us):∃u c,us=u::c/\RelV v u/\Vals vs c:=by
 cases r with
 |cons a b=>exact⟨_,_,rfl,a,b⟩
theorem iE(I:Inv X pins σ H s):∀n,(∀r v u,aA n r=true->Rep X.K H r v->RelV v u->Den s.heap r u):=by
 intro n
 induction n with
 |zero=>
  intro r v u o h w;cases r with
  |aq=>simp only[Rep]at h;subst h;simp only[Den];exact w
  |bl b=>simp only[Rep]at h;subst h;simp only[Den];exact w
  |int i=>simp only[Rep]at h;subst h;simp only[Den];exact w
  |str x=>simp only[Rep]at h;subst h;simp only[Den];exact w
  |_=>simp[aA]at o
 |succ n ih=>
  have all:∀rs vs us,rs.all (aA n)=true->aa X.K H rs vs->Vals vs us->ay s.heap rs us:=by
   intro rs
   induction rs with
   |nil=>
    intro vs us _ h w;simp only[aa]at h;subst h;cases w;simp only[ay]
   |cons x xs ihx=>
    intro vs us o h w;simp only[aa]at h;obtain⟨v,r,rfl,c,d⟩:=h;obtain⟨u,e,rfl,g,j⟩:=Vals.cons_inv w;rw[fb,aY]at o;simp only[ay];exact⟨u,e,rfl,ih x v u o.1 c g,ihx r e o.2 d j⟩
  intro r v u o h w;cases r with
  |aq=>simp only[Rep]at h;subst h;simp only[Den];exact w
  |bl b=>simp only[Rep]at h;subst h;simp only[Den];exact w
  |int i=>simp only[Rep]at h;subst h;simp only[Den];exact w
  |str x=>simp only[Rep]at h;subst h;simp only[Den];exact w
  |tup xs=>
   simp only[Rep]at h;obtain⟨a,vs,rfl,c,d⟩:=h;obtain⟨ab,rv,f,_⟩:=I.tuple (bL.of c);simp only[Den];exact⟨a,ab,w,f,all xs vs ab o d rv⟩
  |ls xs=>
   simp only[Rep]at h;obtain⟨a,vs,rfl,c,d⟩:=h;obtain⟨ab,rv,f,_⟩:=I.list c.sq;simp only[Den];exact⟨a,ab,w,f.isList,all xs vs ab o d rv⟩
  |_=>simp[aA]at o
end
theorem Lh{h:Heap}{a:Addr}{xs f:ak}(p:h.IsTuple a xs.toArray)(q:h.IsTuple a f.toArray):xs=f:=by
 obtain⟨o,e,_,n,d⟩:=p;obtain⟨i,c,_,g,b⟩:=q;rw[e]at c;cases c;rw[d]at b;injection b with d1 _
 simpa using congrArg Array.toList d1
theorem Lo{h:Heap}{a:Addr}{xs f:ak}(p:h.IsList a xs.toArray)(q:h.IsList a f.toArray):xs=f:=by
 obtain⟨o,e,_,n,d⟩:=p;obtain⟨i,c,_,g,b⟩:=q;rw[e]at c;cases c;rw[d]at b;injection b with d1 _
 simpa using congrArg Array.toList d1
theorem K9{h:Heap}{a:Addr}(p:h.IsList a xs)(q:h.IsTuple a ys):False:=by
 obtain⟨o,e,c,_⟩:=p;obtain⟨f,d,b,_⟩:=q;rw[e]at d;cases d;rw[c]at b;exact aS b (by decide+kernel)
def pf:RV->Bool
 | .aq=>true
 | .bl _=>true
 | .int _=>true
 | .str _=>true
 |_=>false
noncomputable def GX:Value->Option RV
 | .none=>some .aq
 | .bool b=>some (.bl b)
 | .int i _=>some (.int i)
 | .str x _=>some (.str x)
 |_=>none
theorem NY:∀{x:RV},pf x=true->Den h x u->GX u=some x
 | .aq,_,d=>by simp only[Den]at d;subst d;rfl
 | .bl _,_,d=>by simp only[Den]at d;subst d;rfl
 | .int _,_,d=>by simp only[Den]at d;obtain⟨t,rfl⟩:=d;rfl
 | .str _,_,d=>by simp only[Den]at d;obtain⟨t,rfl⟩:=d;rfl
theorem qy5:∀{x:RV},pf x=false->Den h x u->GX u=none
 | .tup _,_,d=>by simp only[Den]at d;obtain⟨a,ab,rfl,_⟩:=d;rfl
 | .ls _,_,d=>by simp only[Den]at d;obtain⟨a,ab,rfl,_⟩:=d;rfl
 | .ref _,_,d=>by simp only[Den]at d
 | .ty _,_,d=>by simp only[Den]at d
theorem Bh:∀n x y u,aA n x=true->aA n y=true->Den h x u->Den h y u->x=y:=by
 intro n;have sc:∀x y u,pf x=true->Den h x u->Den h y u->x=y:=by
  intro x y u m f b;have ex:=NY m f;cases sy:pf y with
  |true=>
   have s:=NY sy b;rw[ex]at s;exact dz s
  |false=>
   have s:=qy5 sy b;rw[ex]at s;cases s
 induction n with
 |zero=>
  intro x y u j k f b;have m:pf x=true:=by cases x<;>first|rfl|(simp[aA]at j)
  exact sc x y u m f b
 |succ n ih=>
  have all:∀i c us,i.all (aA n)=true->c.all (aA n)=true->ay h i us->ay h c us->i=c:=by
   intro i
   induction i with
   |nil=>
    intro c us _ _ d e;simp only[ay]at d;subst d;cases c with
    |nil=>rfl
    |cons y c=>simp only[ay]at e;obtain⟨_,_,z,_⟩:=e;cases z
   |cons x i ihx=>
    intro c us j k d e;simp only[ay]at d;obtain⟨u,r,rfl,d1,v⟩:=d;cases c with
    |nil=>simp only[ay]at e;cases e
    |cons y c=>
     simp only[ay]at e;obtain⟨C,A,z,e1,w⟩:=e;cases z;rw[fb,aY]at j k;rw[ih x y u j.1 k.1 d1 e1,ihx c r j.2 k.2 v w]
  intro x y u j k f b;cases m:pf x with
  |true=>exact sc x y u m f b
  |false=>
   cases sy:pf y with
   |true=>exact(sc y x u sy b f).symm
   |false=>
    cases x with
    |tup i=>
     simp only[Den]at f;obtain⟨a,ab,rfl,p,d⟩:=f;cases y with
     |tup c=>
      simp only[Den]at b;obtain⟨t,g,z,l,o⟩:=b;cases z;obtain rfl:=Lh p l;rw[all i c ab j k d o]
     |ls c=>
      simp only[Den]at b;obtain⟨t,g,z,l,o⟩:=b;cases z;exact(K9 l p).elim
     |ref _=>simp only[Den]at b
     |ty _=>simp only[Den]at b
     |_=>cases sy
    |ls i=>
     simp only[Den]at f;obtain⟨a,ab,rfl,p,d⟩:=f;cases y with
     |ls c=>
      simp only[Den]at b;obtain⟨t,g,z,l,o⟩:=b;cases z;obtain rfl:=Lo p l;rw[all i c ab j k d o]
     |tup c=>
      simp only[Den]at b;obtain⟨t,g,z,l,o⟩:=b;cases z;exact(K9 p l).elim
     |ref _=>simp only[Den]at b
     |ty _=>simp only[Den]at b
     |_=>cases sy
    |ref _=>simp only[Den]at f
    |ty _=>simp only[Den]at f
    |_=>cases m
mutual
theorem mX:∀(x:RV),(∃n,aA n x=true)->bc x x=true
 | .aq,_=>by simp[bc]
 | .bl _,_=>by simp[bc]
 | .int _,_=>by simp[bc]
 | .str _,_=>by simp[bc]
 | .tup xs,⟨n,o⟩=>by
  rw[bc];refine AS xs ?_;cases n with
  |zero=>simp[aA]at o
  |succ n=>exact⟨n,o⟩
 | .ls xs,⟨n,o⟩=>by
  rw[bc];refine AS xs ?_;cases n with
  |zero=>simp[aA]at o
  |succ n=>exact⟨n,o⟩
 | .ref _,⟨n,o⟩=>by cases n<;>simp[aA]at o
 | .ty _,⟨n,o⟩=>by cases n<;>simp[aA]at o
theorem AS:∀(xs:LR),(∃n,xs.all (aA n)=true)->eO xs xs=true
 | [],_=>by simp[eO]
 |x::xs,⟨n,o⟩=>by
  rw[fb,aY]at o;rw[eO,mX x ⟨n,o.1⟩,AS xs ⟨n,o.2⟩];rfl
end
abbrev qb(xs a:LR)(j:Nat):Bool:=bc (xs.getD j .aq) (a.getD j .aq)
theorem rN:∀a b:LR,((List.range (min a.length b.length)).all (qb a b)&&a.length==b.length)=eO a b
 | [],[]=>by simp[eO]
 | [],_::_=>by simp[eO]
 |_::_,[]=>by simp[eO]
 |x::a,y::b=>by
  have e:=rN a b;have e1:min (x::a).length (y::b).length=min a.length b.length+1:=by simp only[cQ];omega
  have c:((x::a).length==(y::b).length)=(a.length==b.length):=by simp
  have d:(List.range (min a.length b.length+1)).all (qb (x::a) (y::b))=(bc x y&&(List.range (min a.length b.length)).all (qb a b)):=by
   rw[List.range_succ_eq_map,fb,tq];rfl
  rw[e1,c,d,eO,<-e,Bool.and_assoc]
theorem AR{xs a:LR}(h:xs.length=a.length):(List.range xs.length).all (qb xs a)=eO xs a:=by
 have:=rN xs a;rw[<-h,Nat.min_self]at this;simpa using this
theorem AI{xs a:LR}(h:xs.length≠a.length):eO xs a=false:=by
 have:=rN xs a;rw[<-this];simp[h]
theorem in1_units(A:Around):A.in1.units=A.units+1:=rfl
theorem A0:∀(n:Nat) (x y:RV) (A:Around) (s:Shared) (u w:Value),aA n x=true->aA n y=true->Den s.heap x u->Den s.heap y w->A.units+n<cLine->EqAt A s u w (bc x y):=by
 intro n
 induction n with
 |zero=>
  intro x y A s u w ox oy dx dy hu;cases x<;>cases y<;>first|(simp only[Den]at dx;done)|(simp only[Den]at dy;done)|(simp[aA]at ox;done)|(simp[aA]at oy;done)|(simp only[Den]at dx dy;(first|subst dx|obtain⟨t1,rfl⟩:=dx|obtain⟨a1,its1,rfl,p1,d1⟩:=dx);(first|subst dy|obtain⟨t2,rfl⟩:=dy|obtain⟨a2,its2,rfl,p2,d2⟩:=dy);first|(simp only[bc,Bool.not_false,Bool.not_true];with_reducible first|exact EqAt.same _|exact EqAt.none_bool _|exact EqAt.none_int _ _|exact EqAt.none_str _ _|exact EqAt.bool_none _|exact EqAt.bool_bool _ _|exact EqAt.bool_int _ _ _|exact EqAt.bool_str _ _ _|exact EqAt.int_none _ _|exact EqAt.int_bool _ _ _|exact EqAt.int_int _ _ _ _|exact EqAt.int_str _ _ _ _|exact EqAt.str_none _ _|exact EqAt.str_bool _ _ _|exact EqAt.str_int _ _ _ _|exact EqAt.str_str _ _ _ _))
 |succ n ih=>
  intro x y A s u w ox oy dx dy hu;have hu0:A.units<cLine:=by omega
  have item:∀(xs ys:LR) (us ws:ak),xs.all (aA n)=true->ys.all (aA n)=true->ay s.heap xs us->ay s.heap ys ws->
   ∀j (j1:j<us.toArray.size) (j2:j<ws.toArray.size),EqAt A.in1 s us.toArray[j] ws.toArray[j] (qb xs ys j):=λxs ys us ws o1 o2 d1 d2 j j1 j2=>by
   obtain⟨a1,b1⟩:=d1.get (j:=j) (u:=us.toArray[j]) (by simp)
   obtain⟨a2,b2⟩:=d2.get (j:=j) (u:=ws.toArray[j]) (by simp)
   exact ih _ _ A.in1 s _ _ (dw.mp o1 _ b1) (dw.mp o2 _ b2) a1 a2 (by rw[in1_units];omega)
  have same_EqAt_tup:∀(xs ys:LR) (a a':Addr) (ab its':ak),s.heap.IsTuple a ab.toArray->s.heap.IsTuple a' its'.toArray->ay s.heap xs ab->ay s.heap ys its'->aA (n+1) (.tup xs)=true->aA (n+1) (.tup ys)=true->EqAt A s (.ref a) (.ref a') (bc (RV.tup xs) (RV.tup ys)):=by
   intro xs ys a a' ab its' p p' d d' ox oy
   by_cases ha:a=a'
   . subst ha
     obtain rfl:=Lh p p';have e:RV.tup xs=RV.tup ys:=Bh (n+1) _ _ (.ref a) ox oy (by simp only[Den];exact⟨a,ab,rfl,p,d⟩) (by simp only[Den];exact⟨a,ab,rfl,p,d'⟩)
     rw[<-e,mX _ ⟨_,ox⟩];exact EqAt.same _
   refine EqAt.of_refs ha ?_;rw[bc,<-rN,d.length,d'.length];have:=RcAt.tuples p p' hu0 (item xs ys ab its' ox oy d d');simpa using this
  have same_EqAt_ls:∀(xs ys:LR) (a a':Addr) (ab its':ak),s.heap.IsList a ab.toArray->s.heap.IsList a' its'.toArray->ay s.heap xs ab->ay s.heap ys its'->aA (n+1) (.ls xs)=true->aA (n+1) (.ls ys)=true->EqAt A s (.ref a) (.ref a') (bc (RV.ls xs) (RV.ls ys)):=by
   intro xs ys a a' ab its' p p' d d' ox oy
   by_cases ha:a=a'
   . subst ha
     obtain rfl:=Lo p p';have e:RV.ls xs=RV.ls ys:=Bh (n+1) _ _ (.ref a) ox oy (by simp only[Den];exact⟨a,ab,rfl,p,d⟩) (by simp only[Den];exact⟨a,ab,rfl,p,d'⟩)
     rw[<-e,mX _ ⟨_,ox⟩];exact EqAt.same _
   refine EqAt.of_refs ha ?_;rw[bc]
   by_cases hz:xs.length=ys.length
   . rw[<-AR hz,d.length]
     have:=RcAt.lists p p' (by simp[<-d.length,<-d'.length,hz]) hu0 (item xs ys ab its' ox oy d d')
     simpa using this
   . rw[AI hz]
     exact RcAt.lists_lengths p p' (by simp[<-d.length,<-d'.length,hz]) hu0
  cases x<;>cases y<;>first|(simp only[Den]at dx;done)|(simp only[Den]at dy;done)|(simp only[Den]at dx dy;(first|subst dx|obtain⟨t1,rfl⟩:=dx|obtain⟨a1,its1,rfl,p1,d1⟩:=dx);(first|subst dy|obtain⟨t2,rfl⟩:=dy|obtain⟨a2,its2,rfl,p2,d2⟩:=dy);first|with_reducible exact same_EqAt_tup _ _ _ _ _ _ p1 p2 d1 d2 ox oy|with_reducible exact same_EqAt_ls _ _ _ _ _ _ p1 p2 d1 d2 ox oy|(simp only[bc,Bool.not_false,Bool.not_true];with_reducible first|exact EqAt.same _|exact EqAt.none_bool _|exact EqAt.none_int _ _|exact EqAt.none_str _ _|exact EqAt.bool_none _|exact EqAt.bool_bool _ _|exact EqAt.bool_int _ _ _|exact EqAt.bool_str _ _ _|exact EqAt.int_none _ _|exact EqAt.int_bool _ _ _|exact EqAt.int_int _ _ _ _|exact EqAt.int_str _ _ _ _|exact EqAt.str_none _ _|exact EqAt.str_bool _ _ _|exact EqAt.str_int _ _ _ _|exact EqAt.str_str _ _ _ _|exact EqAt.tuple_none p1 hu0|exact EqAt.tuple_bool _ p1 hu0|exact EqAt.tuple_int _ _ p1 hu0|exact EqAt.tuple_str _ _ p1 hu0|exact EqAt.list_none p1 hu0|exact EqAt.list_bool _ p1 hu0|exact EqAt.list_int _ _ p1 hu0|exact EqAt.list_str _ _ p1 hu0|exact EqAt.none_tuple p2 hu0|exact EqAt.bool_tuple _ p2 hu0|exact EqAt.int_tuple _ _ p2 hu0|exact EqAt.str_tuple _ _ p2 hu0|exact EqAt.none_list p2 hu0|exact EqAt.bool_list _ p2 hu0|exact EqAt.int_list _ _ p2 hu0|exact EqAt.str_list _ _ p2 hu0|exact EqAt.tuple_list p1 p2 hu0|exact EqAt.list_tuple p1 p2 hu0))
theorem JP(n:Nat)(x y:RV)(A:Around)(s:Shared)(u w:Value)(ox:aA (n+1) x=true)(oy:aA (n+1) y=true)(dx:Den s.heap x u)(dy:Den s.heap y w)(hu:A.units+(n+1)<cLine):RcNeAt A s u w (!bc x y):=by
 have hu0:A.units<cLine:=by omega
 have item:∀(xs ys:LR) (us ws:ak),xs.all (aA n)=true->ys.all (aA n)=true->ay s.heap xs us->ay s.heap ys ws->
  ∀j (j1:j<us.toArray.size) (j2:j<ws.toArray.size),EqAt A.in1 s us.toArray[j] ws.toArray[j] (qb xs ys j):=λxs ys us ws o1 o2 d1 d2 j j1 j2=>by
  obtain⟨a1,b1⟩:=d1.get (j:=j) (u:=us.toArray[j]) (by simp)
  obtain⟨a2,b2⟩:=d2.get (j:=j) (u:=ws.toArray[j]) (by simp)
  exact A0 n _ _ A.in1 s _ _ (dw.mp o1 _ b1) (dw.mp o2 _ b2) a1 a2 (by rw[in1_units];omega)
 have same_RcNeAt_tup:∀(xs ys:LR) (a a':Addr) (ab its':ak),s.heap.IsTuple a ab.toArray->s.heap.IsTuple a' its'.toArray->ay s.heap xs ab->ay s.heap ys its'->aA (n+1) (.tup xs)=true->aA (n+1) (.tup ys)=true->RcNeAt A s (.ref a) (.ref a') (!bc (RV.tup xs) (RV.tup ys)):=by
  intro xs ys a a' ab its' p p' d d' ox oy;rw[bc,<-rN,d.length,d'.length];have:=RcNeAt.tuples p p' hu0 (item xs ys ab its' ox oy d d');simpa using this
 have same_RcNeAt_ls:∀(xs ys:LR) (a a':Addr) (ab its':ak),s.heap.IsList a ab.toArray->s.heap.IsList a' its'.toArray->ay s.heap xs ab->ay s.heap ys its'->aA (n+1) (.ls xs)=true->aA (n+1) (.ls ys)=true->RcNeAt A s (.ref a) (.ref a') (!bc (RV.ls xs) (RV.ls ys)):=by
  intro xs ys a a' ab its' p p' d d' ox oy;rw[bc]
  by_cases hz:xs.length=ys.length
  . rw[<-AR hz,d.length]
    have:=RcNeAt.lists p p' (by simp[<-d.length,<-d'.length,hz]) hu0 (item xs ys ab its' ox oy d d')
    simpa using this
  . rw[AI hz]
    exact RcNeAt.lists_lengths p p' (by simp[<-d.length,<-d'.length,hz]) hu0
 cases x<;>cases y<;>first|(simp only[Den]at dx;done)|(simp only[Den]at dy;done)|(simp only[Den]at dx dy;(first|subst dx|obtain⟨t1,rfl⟩:=dx|obtain⟨a1,its1,rfl,p1,d1⟩:=dx);(first|subst dy|obtain⟨t2,rfl⟩:=dy|obtain⟨a2,its2,rfl,p2,d2⟩:=dy);first|with_reducible exact same_RcNeAt_tup _ _ _ _ _ _ p1 p2 d1 d2 ox oy|with_reducible exact same_RcNeAt_ls _ _ _ _ _ _ p1 p2 d1 d2 ox oy|(simp only[bc,Bool.not_false,Bool.not_true];with_reducible first|exact RcNeAt.none_none|exact RcNeAt.none_bool _|exact RcNeAt.none_int _ _|exact RcNeAt.none_str _ _|exact RcNeAt.bool_none _|exact RcNeAt.bool_bool _ _|exact RcNeAt.bool_int _ _ _|exact RcNeAt.bool_str _ _ _|exact RcNeAt.int_none _ _|exact RcNeAt.int_bool _ _ _|exact RcNeAt.int_int _ _ _ _|exact RcNeAt.int_str _ _ _ _|exact RcNeAt.str_none _ _|exact RcNeAt.str_bool _ _ _|exact RcNeAt.str_int _ _ _ _|exact RcNeAt.str_str _ _ _ _|exact RcNeAt.tuple_none p1 hu0|exact RcNeAt.tuple_bool _ p1 hu0|exact RcNeAt.tuple_int _ _ p1 hu0|exact RcNeAt.tuple_str _ _ p1 hu0|exact RcNeAt.list_none p1 hu0|exact RcNeAt.list_bool _ p1 hu0|exact RcNeAt.list_int _ _ p1 hu0|exact RcNeAt.list_str _ _ p1 hu0|exact RcNeAt.none_tuple p2 hu0|exact RcNeAt.bool_tuple _ p2 hu0|exact RcNeAt.int_tuple _ _ p2 hu0|exact RcNeAt.str_tuple _ _ p2 hu0|exact RcNeAt.none_list p2 hu0|exact RcNeAt.bool_list _ p2 hu0|exact RcNeAt.int_list _ _ p2 hu0|exact RcNeAt.str_list _ _ p2 hu0|exact RcNeAt.tuple_list p1 p2 hu0|exact RcNeAt.list_tuple p1 p2 hu0))
theorem Vw(n:Nat)(x y:RV)(A:Around)(s:Shared)(u w:Value)(ox:aA (n+1) x=true)(oy:aA (n+1) y=true)(dx:Den s.heap x u)(dy:Den s.heap y w)(hu:A.units+(n+1)<cLine):RcAt A s u w (bc x y):=by
 have hu0:A.units<cLine:=by omega
 have item:∀(xs ys:LR) (us ws:ak),xs.all (aA n)=true->ys.all (aA n)=true->ay s.heap xs us->ay s.heap ys ws->
  ∀j (j1:j<us.toArray.size) (j2:j<ws.toArray.size),EqAt A.in1 s us.toArray[j] ws.toArray[j] (qb xs ys j):=λxs ys us ws o1 o2 d1 d2 j j1 j2=>by
  obtain⟨a1,b1⟩:=d1.get (j:=j) (u:=us.toArray[j]) (by simp)
  obtain⟨a2,b2⟩:=d2.get (j:=j) (u:=ws.toArray[j]) (by simp)
  exact A0 n _ _ A.in1 s _ _ (dw.mp o1 _ b1) (dw.mp o2 _ b2) a1 a2 (by rw[in1_units];omega)
 have same_RcAt_tup:∀(xs ys:LR) (a a':Addr) (ab its':ak),s.heap.IsTuple a ab.toArray->s.heap.IsTuple a' its'.toArray->ay s.heap xs ab->ay s.heap ys its'->aA (n+1) (.tup xs)=true->aA (n+1) (.tup ys)=true->RcAt A s (.ref a) (.ref a') (bc (RV.tup xs) (RV.tup ys)):=by
  intro xs ys a a' ab its' p p' d d' ox oy;rw[bc,<-rN,d.length,d'.length];have:=RcAt.tuples p p' hu0 (item xs ys ab its' ox oy d d');simpa using this
 have same_RcAt_ls:∀(xs ys:LR) (a a':Addr) (ab its':ak),s.heap.IsList a ab.toArray->s.heap.IsList a' its'.toArray->ay s.heap xs ab->ay s.heap ys its'->aA (n+1) (.ls xs)=true->aA (n+1) (.ls ys)=true->RcAt A s (.ref a) (.ref a') (bc (RV.ls xs) (RV.ls ys)):=by
  intro xs ys a a' ab its' p p' d d' ox oy;rw[bc]
  by_cases hz:xs.length=ys.length
  . rw[<-AR hz,d.length]
    have:=RcAt.lists p p' (by simp[<-d.length,<-d'.length,hz]) hu0 (item xs ys ab its' ox oy d d')
    simpa using this
  . rw[AI hz]
    exact RcAt.lists_lengths p p' (by simp[<-d.length,<-d'.length,hz]) hu0
 cases x<;>cases y<;>first|(simp only[Den]at dx;done)|(simp only[Den]at dy;done)|(simp only[Den]at dx dy;(first|subst dx|obtain⟨t1,rfl⟩:=dx|obtain⟨a1,its1,rfl,p1,d1⟩:=dx);(first|subst dy|obtain⟨t2,rfl⟩:=dy|obtain⟨a2,its2,rfl,p2,d2⟩:=dy);first|with_reducible exact same_RcAt_tup _ _ _ _ _ _ p1 p2 d1 d2 ox oy|with_reducible exact same_RcAt_ls _ _ _ _ _ _ p1 p2 d1 d2 ox oy|(simp only[bc,Bool.not_false,Bool.not_true];with_reducible first|exact RcAt.none_none|exact RcAt.none_bool _|exact RcAt.none_int _ _|exact RcAt.none_str _ _|exact RcAt.bool_none _|exact RcAt.bool_bool _ _|exact RcAt.bool_int _ _ _|exact RcAt.bool_str _ _ _|exact RcAt.int_none _ _|exact RcAt.int_bool _ _ _|exact RcAt.int_int _ _ _ _|exact RcAt.int_str _ _ _ _|exact RcAt.str_none _ _|exact RcAt.str_bool _ _ _|exact RcAt.str_int _ _ _ _|exact RcAt.str_str _ _ _ _|exact RcAt.tuple_none p1 hu0|exact RcAt.tuple_bool _ p1 hu0|exact RcAt.tuple_int _ _ p1 hu0|exact RcAt.tuple_str _ _ p1 hu0|exact RcAt.list_none p1 hu0|exact RcAt.list_bool _ p1 hu0|exact RcAt.list_int _ _ p1 hu0|exact RcAt.list_str _ _ p1 hu0|exact RcAt.none_tuple p2 hu0|exact RcAt.bool_tuple _ p2 hu0|exact RcAt.int_tuple _ _ p2 hu0|exact RcAt.str_tuple _ _ p2 hu0|exact RcAt.none_list p2 hu0|exact RcAt.bool_list _ p2 hu0|exact RcAt.int_list _ _ p2 hu0|exact RcAt.str_list _ _ p2 hu0|exact RcAt.tuple_list p1 p2 hu0|exact RcAt.list_tuple p1 p2 hu0))
section
variable {X:Cx}
theorem oe(h:dH X f r)(ri:∀(i j:Int) M Q (H:Hp) (c:VK),rr (.int i) (.int j) M Q->(∀z:RV,Q z M->∀v,Rep X.K H z v->c v H)->r (.int i) (.int j) H c)
 (no:∀x y M Q,rr x y M Q->∃i j,x= .int i/\y= .int j):cS X f rr:=by
 intro d s w H x y v u c I m n g;obtain⟨a,b,M,Q,ra,rb,l,e,k⟩:=g;obtain⟨i,j,rfl,rfl⟩:=no a b M Q e;simp only[Rep]at ra rb;subst ra;subst rb;exact h d s w H _ _ v u c I m n (ri i j M Q H c e λz q t o=>k z M t H q (.refl H) l o)
def vG(C:Int->Int->Prop)(g:Int->Int->RV):cu:=λx y M Q=>match x,y with| .int i,.int j=>C i j/\Q (g i j) M|_,_=>False
def p9(g:Int->Int->RV):cu:=λx y M Q=>match x,y with| .int i,.int j=>Q (g i j) M|_,_=>False
theorem A5{g:Int->Int->RV}(x y)(M)(Q)(h:vG C g x y M Q):∃i j,x= .int i/\y= .int j:=by
 unfold vG at h;split at h
 . exact⟨_,_,rfl,rfl⟩
 . exact h.elim
theorem uY{g:Int->Int->RV}(x y)(M)(Q)(h:p9 g x y M Q):∃i j,x= .int i/\y= .int j:=by
 unfold p9 at h;split at h
 . exact⟨_,_,rfl,rfl⟩
 . exact h.elim
abbrev Hf:cu:=p9 λi j=>.int (i-j)
theorem Rw:cS X (binaryOp .Sub) Hf:=oe Yl (λi j M Q H a h k=>⟨i,j,rfl,rfl,k _ h _ (by simp only[Rep])⟩) uY
abbrev Ht:cu:=vG (λ_ j=>0<j) λi j=>.int (i % j)
theorem RB:cS X (binaryOp .Mod) Ht:=oe Yp (λi j M Q H a h k=>⟨i,j,rfl,rfl,h.1,k _ h.2 _ (by simp only[Rep])⟩) A5
abbrev HE:cu:=vG (λ_ j=>0<j/\j<1073741824) λi j=>.int (i / j)
theorem RF:cS X (binaryOp .FloorDiv) HE:=oe WB (λi j M Q H a h k=>⟨i,j,rfl,rfl,h.1,k _ h.2 _ (by simp only[Rep])⟩) A5
abbrev Hi:cu:=vG (λi j=>0<=j/\j<=1000000/\i.natAbs<2 ^ 64) λi j=>.int (i ^ j.toNat)
theorem Ry:cS X (binaryOp .Pow) Hi:=oe Yn (λi j M Q H a h k=>⟨i,j,rfl,rfl,h.1,k _ h.2 _ (by simp only[Rep])⟩) A5
abbrev Ov:cu:=p9 λi j=>.bl (decide (i<j))
theorem PF:cS X (compareOp .Lt) Ov:=oe qyu (λi j M Q H a h k=>⟨i,j,rfl,rfl,k _ h _ (by simp only[Rep])⟩) uY
abbrev Ou:cu:=p9 λi j=>.bl (decide (i<=j))
theorem PD:cS X (compareOp .LtE) Ou:=oe qyv (λi j M Q H a h k=>⟨i,j,rfl,rfl,k _ h _ (by simp only[Rep])⟩) uY
abbrev Oq:cu:=p9 λi j=>.bl (decide (j<i))
theorem Px:cS X (compareOp .Gt) Oq:=oe qyw (λi j M Q H a h k=>⟨i,j,rfl,rfl,k _ h _ (by simp only[Rep])⟩) uY
abbrev Oo:cu:=p9 λi j=>.bl (decide (j<=i))
theorem Pw:cS X (compareOp .GtE) Oo:=oe qyx (λi j M Q H a h k=>⟨i,j,rfl,rfl,k _ h _ (by simp only[Rep])⟩) uY
noncomputable def Hr:cu:=λx y M Q=>match x,y with
 | .int i,.int j=>g9 i j/\Q (.int (i*j)) M
 | .ref a,.int k=>∃b,M a=some (.lst b)/\-(2 ^ 63)<=k/\k<2 ^ 63/\b.length*k.toNat<=sizeLine/\Q (.ls (List.replicate k.toNat b).flatten) M
 |_,_=>False
theorem Ke{K:ag}{vs:LV}(r:aa K H xs vs):∀n:Nat,aa K H (List.replicate n xs).flatten (List.replicate n vs).flatten
 |0=>by simpa using aa.nil
 |n+1=>by
  rw[qQ,tw,qQ,tw];exact r.append (Ke r n)
theorem RA:cS X (binaryOp .Mult) Hr:=by
 intro d s z H x y v u l I t w h;obtain⟨a,b,M,Q,ra,rb,f,c,m⟩:=h;cases a with
 |int i=>
  cases b with
  |int j=>simp only[Rep]at ra rb;exact Yo d s z H x y v u l I t w ⟨i,j,ra,rb,c.1,m _ M _ H c.2 (.refl H) f (by simp only[Rep])⟩
  |_=>exact(show False from c).elim
 |ref p=>
  cases b with
  |int k=>
   simp only[Rep]at ra rb;obtain⟨g,J,C,D,E,F⟩:=c;obtain⟨L,e,r⟩:=f p _ J;obtain⟨vs,rfl,n⟩:=r;refine az (Ym d s z H x y v u (λv A=>∃H1 p g,v= .ref p/\H1 p=none/\A=upd H1 p (.lst g)/\∀o,l (.ref p) (upd H1 p (.aZ o (.lst g)))) I t w ⟨p,k,vs,ra,rb,e,C,D,by rw[<-n.length];exact E,λq c=>⟨H,q,_,rfl,c,rfl,λo=>?_⟩⟩) λ_ _ e=>frozen e
   exact m _ M _ _ F (Ext.new c) (f.new c) (js c (Ke n _))
  |_=>exact(show False from c).elim
 |_=>cases b<;>exact(show False from c).elim
noncomputable def zq:cu:=λx y M Q=>match x,y with
 | .int i,.int j=>Q (.int (i+j)) M
 | .str i,.str j=>i.length+j.length<=sizeLine/\Q (.str (i++j)) M
 | .tup xs,.tup ys=>xs.length+ys.length<=sizeLine/\Q (.tup (xs++ys)) M
 | .ls xs,.ls ys=>xs.length+ys.length<=sizeLine/\Q (.ls (xs++ys)) M
 |_,_=>False
theorem V3{s:Shared}{t b:Addr}{o:ak}(v:IsTup s.heap t ([]:ak).toArray)(u:IsTup s.heap b o.toArray)(h:Q (.ref b) s):
 wpAny (model prog w) A (binaryOp .Add (.ref t) (.ref b)) Q E s:=by
 obtain⟨⟨r,dd,j,sl⟩,m,k,n,l⟩:=id v;obtain⟨⟨i,f,e,g⟩,d,a,x,c⟩:=id u;simp only at k l a c;subst k l a c;exact concat_meets ⟨_,m,rfl⟩ ⟨_,d,rfl⟩ noFill_tuple_add seq_tuple_add PySem.F.slot_tuple_add PySem.F.entry_tuple_add (PySem.F.args_tuple_add_2 _ _)
  (tuple_addW0 t b [].toArray o.toArray n x dd f sl g (by simp)) ⟨m,d,h⟩
theorem Xd{s:Shared}{l b:Addr}{vs ws:ak}(hl:s.heap.IsList l vs.toArray)(hb:s.heap.IsList b ws.toArray)
 (h:Q (.ref s.heap.objs.size) { s with heap:=s.heap.push { cls:=.type "list",data:=.seq (vs++ws).toArray } }) (hsz:vs.length+ws.length<=sizeLine):
 wpAny (model prog w) A (binaryOp .Add (.ref l) (.ref b)) Q E s:=by
 obtain⟨⟨cls,dd,data,sl⟩,ho,hc,n,hd⟩:=id hl;obtain⟨⟨cls2,dd2,data2,sl2⟩,ho2,hc2,n2,hd2⟩:=id hb;simp only at hc hd hc2 hd2;subst hc hd hc2 hd2;have e:vs.toArray++ws.toArray=(vs++ws).toArray:=by simp
 refine concat_meets ⟨_,ho,rfl⟩ ⟨_,ho2,rfl⟩ noFill_list_add seq_list_add PySem.F.slot_list_add PySem.F.entry_list_add (PySem.F.args_list_add_2 _ _) (list_addW l b vs.toArray ws.toArray n n2 dd dd2 sl sl2 (by simpa using hsz)) ⟨ho,ho2,?_⟩
 rw[e];exact h
theorem RG:cS X (binaryOp .Add) zq:=by
 intro f s J H x y v u E I z A h;obtain⟨a,b,M,Q,ra,rb,n,c,m⟩:=h;cases a with
 |int i=>
  cases b with
  |int j=>simp only[Rep]at ra rb;exact Yr f s J H x y v u E I z A ⟨i,j,ra,rb,m _ M _ H c (.refl H) n (by simp only[Rep])⟩
  |_=>exact(show False from c).elim
 |str i=>
  cases b with
  |str j=>simp only[Rep]at ra rb;exact Tq f s J H x y v u E I z A ⟨i,j,ra,rb,c.1,m _ M _ H c.2 (.refl H) n (by simp only[Rep])⟩
  |_=>exact(show False from c).elim
 |tup D=>
  cases b with
  |tup ys=>
   obtain⟨N,c⟩:=c;simp only[Rep]at ra rb;obtain⟨p,vs,rfl,r,k⟩:=ra;obtain⟨q,C,rfl,g,d⟩:=rb
   by_cases R:vs= []
   . subst R
     have hx:D= []:=by have:=k.length;simpa using this
     subst hx;cases z;cases A;obtain⟨ab,r1,p1,_⟩:=I.tuple (bL.of r);obtain⟨w,r2,O,_⟩:=I.tuple (bL.of g);cases r1;exact V3 p1 O ⟨.ref q,H,I,rfl,m _ M _ H c (.refl H) n (by simp only[Rep,ka];exact⟨q,C,rfl,g,d⟩)⟩
   . refine WC f s J H _ _ v u E I z A ⟨p,q,vs,C,rfl,rfl,r,g,R,by rw[<-k.length,<-d.length];exact N,λe=>?_,λe l L=>?_⟩
     . subst e
       have W:ys= []:=by have:=d.length;simpa using this
       subst W;exact m _ M _ H c (.refl H) n (by simp only[Rep,oE];exact⟨p,vs,rfl,r,k⟩)
     . exact m _ M _ _ c (Ext.new L) (n.new L) (rR L (k.append d))
  |_=>exact(show False from c).elim
 |ls D=>
  cases b with
  |ls ys=>
   obtain⟨N,c⟩:=c;simp only[Rep]at ra rb;obtain⟨p,vs,rfl,r,k⟩:=ra;obtain⟨q,C,rfl,g,d⟩:=rb;cases z;cases A;obtain⟨ab,r1,p1,Y⟩:=I.list r.sq;obtain⟨w,r2,O,Z⟩:=I.list g.sq;have t:vs.length+C.length<=sizeLine:=by rw[<-k.length,<-d.length];exact N
   refine az (Xd (Q:=EP X f J (λv U=>∃H1 p D,v= .ref p/\H1 p=none/\U=upd H1 p (.lst D)/\∀o,E (.ref p) (upd H1 p (.aZ o (.lst D))))) p1.isList O.isList ?_ (by rw[<-r1.length,<-r2.length];exact t)) λ_ _ e=>frozen e
   have F:=I.av.fresh (aN s.heap.objs.size);refine⟨.ref s.heap.objs.size,upd H s.heap.objs.size (.lst (vs++C)),I.laid (t':=s.toks) (λb ob q=>bz _ q) (aN _) ?_,rfl,H,_,_,rfl,F,rfl,λo=>?_⟩
   . exact⟨by rw[fe];exact t,_,0,r1.append r2,dv _ rfl⟩
   . exact m _ M _ _ c (Ext.new F) (n.new F) (js F (k.append d))
  |_=>exact(show False from c).elim
 |_=>cases b<;>exact(show False from c).elim
def Rq:cu:=λx y M Q=>aA 16 x=true/\aA 16 y=true/\Q (.bl (!bc x y)) M
theorem one(l:X.A.units+64<cLine):cS X (compareOp .NotEq) Rq:=by
 intro d s m H x y v u k I i j h;obtain⟨a,b,M,Q,ra,rb,g,⟨o1,c,f⟩,e⟩:=h;exact JP 15 a b X.A s v u o1 c (iE I 16 a x v o1 ra i) (iE I 16 b y u c rb j) (by omega) _ _ _ _ ⟨.bl (!bc a b),H,I,rfl,e _ M _ H f (.refl H) g (by simp only[Rep])⟩
def ip:RV->Bool
 | .aq=>true
 |_=>false
theorem Lz{K:ag}:∀{a:RV} {x:V},Rep K H a x->decide (x= .aq)=ip a:=by
 intro a x h;cases a with
 |tup xs=>simp only[Rep]at h;obtain⟨p,vs,rfl,_⟩:=h;simp[ip]
 |ls xs=>simp only[Rep]at h;obtain⟨p,vs,rfl,_⟩:=h;simp[ip]
 |_=>simp only[Rep]at h;subst h;simp[ip]
def Ot:cu:=λx y M Q=>match y with| .aq=>Q (.bl (ip x)) M|_=>False
def Mv:cu:=λx y M Q=>match y with| .aq=>Q (.bl (!ip x)) M|_=>False
theorem Pz:cS X (compareOp .Is) Ot:=by
 intro c s k H x y v u e I i j h;obtain⟨a,b,M,Q,ra,rb,g,d,f⟩:=h;cases b with
 |aq=>simp only[Rep]at rb;exact Yq c s k H x y v u e I i j ⟨rb,by rw[Lz ra];exact f _ M _ H d (.refl H) g (by simp only[Rep])⟩
 |_=>exact(show False from d).elim
theorem Yv:cS X (compareOp .IsNot) Mv:=by
 intro c s k H x y v u e I i j h;obtain⟨a,b,M,Q,ra,rb,g,d,f⟩:=h;cases b with
 |aq=>simp only[Rep]at rb;exact WA c s k H x y v u e I i j ⟨rb,by rw[Lz ra];exact f _ M _ H d (.refl H) g (by simp only[Rep])⟩
 |_=>exact(show False from d).elim
noncomputable def dR:cu:=λx y M Q=>match x,y with
 | .tup xs,.int i=>match bE xs i with|some v=>Q v M|none=>False
 | .ls xs,.int i=>match bE xs i with|some v=>Q v M|none=>False
 | .ref a,.int i=>match M a with
  |some (.lst xs)=>match bE xs i with|some v=>Q v M|none=>False
  |_=>False
 | .str z,.int i=>z.length<=sizeLine/\match bE z.cps.toList i with|some c=>Q (.str ⟨#[c]⟩) M|none=>False
 |_,_=>False
theorem PB:tJ X (sY X.K dR):=by
 intro g f j s C H x y v u n I t A h hs;obtain⟨a,b,M,Q,ra,rb,l,d,o⟩:=h;cases b with
 |int i=>
  simp only[Rep]at rb;cases a with
  |tup m=>
   simp only[Rep]at ra;obtain⟨p,vs,rfl,D,k⟩:=ra;simp only[dR]at d;cases e:bE m i with
   |none=>rw[e]at d;exact d.elim
   |some z=>
    rw[e]at d;obtain⟨w,e1,r1⟩:=k.bE e;exact Zh g f j s C H _ y v u n I t A ⟨p,vs,i,w,rfl,rb,D,e1,o _ M _ H d (.refl H) l r1⟩ hs
  |ls m=>
   simp only[Rep]at ra;obtain⟨p,vs,rfl,D,k⟩:=ra;simp only[dR]at d;cases e:bE m i with
   |none=>rw[e]at d;exact d.elim
   |some z=>
    rw[e]at d;obtain⟨w,e1,r1⟩:=k.bE e;exact Lv g f j s C H _ y v u n I t A ⟨p,vs,i,w,rfl,rb,D.sq,e1,o _ M _ H d (.refl H) l r1⟩ hs
  |ref p=>
   simp only[Rep]at ra;simp only[dR]at d;split at d
   . rename_i m E
     obtain⟨J,e,r⟩:=l p _ E;obtain⟨vs,rfl,k⟩:=r;cases e2:bE m i with
     |none=>rw[e2]at d;exact d.elim
     |some z=>
      rw[e2]at d;obtain⟨w,e1,r1⟩:=k.bE e2;exact Lv g f j s C H x y v u n I t A ⟨p,vs,i,w,ra,rb,cx.of e,e1,o _ M _ H d (.refl H) l r1⟩ hs
   . exact d.elim
  |str z=>
   simp only[Rep]at ra;simp only[dR]at d;obtain⟨F,d⟩:=d;cases e:bE z.cps.toList i with
   |none=>rw[e]at d;exact d.elim
   |some c=>
    rw[e]at d;exact Zi g f j s C H x y v u n I t A ⟨z,i,c,ra,rb,F,e,o _ M _ H d (.refl H) l (by simp only[Rep])⟩ hs
  |_=>exact(show False from d).elim
 |_=>cases a<;>exact(show False from d).elim
theorem rix{a b:Expr}{c tb:au}(d:ai X a c)(e:ai X b tb)(hs:LZ b:=by intro _ _;rfl):ai X (.Subscript a b pos) (ot dR c tb):=PE.imp (qyp PB d e hs) λ_ _ _ h=>yz h
noncomputable def p8:yT:=λo i v M Q=>match o,i with
 | .ref p,.int k=>match M p with
  |some (.lst xs)=>match fz xs.length k with|some j=>Q (put M p (.lst (xs.set j v)))|none=>False
  |_=>False
 |_,_=>False
theorem qyt:yY X (Nt X.K p8):=by
 intro f s z H o i v w iv u n I ro ri rv h;obtain⟨a,b,c,M,Q,ra,rb,x,m,d,t⟩:=h;cases a with
 |ref p=>
  cases b with
  |int k=>
   simp only[Rep]at ra rb;simp only[p8]at d;split at d
   . rename_i y g
     obtain⟨A,e,r⟩:=m p _ g;obtain⟨vs,rfl,l⟩:=r;cases e2:fz y.length k with
     |none=>rw[e2]at d;exact d.elim
     |some j=>
      rw[e2]at d;have ex:Ext H (upd H p (.lst (vs.set j v))):=Ext.write e rfl;exact set_list f s z H o i v w iv u n I ro ri rv ⟨p,vs,k,j,ra,rb,e,by rw[<-l.length];exact e2,t _ _ d ex (m.write g ⟨_,rfl,aa.ext ex _ _ (l.set x j)⟩)⟩
   . exact d.elim
  |_=>exact(show False from d).elim
 |_=>cases b<;>exact(show False from d).elim
def eF(K:ag)(r:LR->RM->ao->Prop):LV->Hp->VK->Prop:=λvs H a=>∃rs M Q,aa K H rs vs/\View K H M/\r rs M Q/\iW K H Q a
def jY(r:LR->RM->ao->Prop)(t:bS):au:=λσ M Q=>t σ M λrs M1=>r rs M1 Q
theorem JZ{K:ag}{t:bS}(h:up K (jY r t) σ0 H Q0):Dg (eF K r) (Dk K t) σ0 H Q0:=by
 obtain⟨e,M,Q,hs,c,b,a⟩:=h;exact⟨e,M,_,hs,c,b,λrs M1 vs H1 q e1 d r1=>⟨rs,M1,Q,r1,d,q,a.ext e1⟩⟩
variable {x:Str}{p pos:Pos}{e:Expr}{es:bb}{t:bS}{id T:String}{r:LR->RM->ao->Prop}
theorem p5(d:cM X (.builtin id) (eF X.K r))(i:X.mg x=none)(k:bootBuiltins x=some (.builtin id))(c:eV X (e::es) t)(g:Gl X x:=by rfl)(j:x≠"__name__":=by decide)(a:(x==("__debug__":Str))=false:=by decide)
 (f:starEach (e::es) X.env=(false,eval e X.env)::starEach es X.env:=by rfl) (b:(backTo pos (starEach es X.env)).any (·.1)=false:=by rfl):ai X (.Call (.Name x p) (e::es) [] pos) (jY r t):=
 PE.imp (U5 d g i k c j a f b) λ_ _ _ h=>JZ h
theorem BB(d:cM X (.type T) (eF X.K r))(i:X.mg x=none)(k:bootBuiltins x=some (.type T))(c:eV X (e::es) t)(g:Gl X x:=by rfl)(j:x≠"__name__":=by decide)(a:(x==("__debug__":Str))=false:=by decide)
 (f:starEach (e::es) X.env=(false,eval e X.env)::starEach es X.env:=by rfl) (b:(backTo pos (starEach es X.env)).any (·.1)=false:=by rfl):ai X (.Call (.Name x p) (e::es) [] pos) (jY r t):=
 PE.imp (Ul d g i k c j a f b) λ_ _ _ h=>JZ h
theorem aa.one{K:ag}{x:RV}{vs:LV}(h:aa K H [x] vs):∃v,vs= [v]/\Rep K H x v:=by
 simp only[aa]at h;obtain⟨v,r,rfl,a,rfl⟩:=h;exact⟨v,rfl,a⟩
theorem aa.two{K:ag}{x y:RV}{vs:LV}(h:aa K H [x,y] vs):∃v w,vs= [v,w]/\Rep K H x v/\Rep K H y w:=by
 simp only[aa]at h;obtain⟨v,r,rfl,a,w,c,rfl,b,rfl⟩:=h;exact⟨v,w,rfl,a,b⟩
noncomputable def zj:LR->RM->ao->Prop:=λrs M Q=>match rs with
 | [.tup xs]=>Q (.int xs.length) M
 | [.ls xs]=>Q (.int xs.length) M
 | [.str z]=>z.length<=sizeLine/\Q (.int z.length) M
 | [.ref a]=>match M a with|some (.lst xs)=>Q (.int xs.length) M|_=>False
 |_=>False
theorem GS:cM X (.builtin "len") (eF X.K zj):=by
 intro b s l H w us g I j h;obtain⟨rs,M,Q,k,f,c,i⟩:=h;unfold zj at c;split at c
 . rename_i n
   obtain⟨v,rfl,r1⟩:=k.one;simp only[Rep]at r1;obtain⟨q,vs,rfl,m,d⟩:=r1;exact AE b s l H _ us g I j ⟨q,vs,rfl,.inr m,by rw[<-d.length];exact i _ M _ H c (.refl H) f (by simp only[Rep])⟩
 . rename_i n
   obtain⟨v,rfl,r1⟩:=k.one;simp only[Rep]at r1;obtain⟨q,vs,rfl,m,d⟩:=r1;exact AE b s l H _ us g I j ⟨q,vs,rfl,.inl m.sq,by rw[<-d.length];exact i _ M _ H c (.refl H) f (by simp only[Rep])⟩
 . rename_i z
   obtain⟨v,rfl,r1⟩:=k.one;simp only[Rep]at r1;subst r1;exact SJ b s l H _ us g I j ⟨z,rfl,c.1,i _ M _ H c.2 (.refl H) f (by simp only[Rep])⟩
 . rename_i a
   obtain⟨v,rfl,r1⟩:=k.one;simp only[Rep]at r1;subst r1;split at c
   . rename_i n o
     obtain⟨u,e,r⟩:=f a _ o;obtain⟨vs,rfl,d⟩:=r;exact AE b s l H _ us g I j ⟨a,vs,rfl,.inl (cx.of e),by rw[<-d.length];exact i _ M _ H c (.refl H) f (by simp only[Rep])⟩
   . exact c.elim
 . exact c.elim
noncomputable def Bw:LR->RM->ao->Prop:=λrs M Q=>match rs with
 | [.tup xs]=>Q (.tup xs) M
 | [.ls xs]=>Q (.tup xs) M
 | [.ref a]=>match M a with|some (.lst xs)=>Q (.tup xs) M|_=>False
 |_=>False
theorem Za:cM X (.type "tuple") (eF X.K Bw):=by
 intro b s n H y us j I l h;obtain⟨rs,M,Q,m,i,c,k⟩:=h;unfold Bw at c;split at c
 . rename_i o
   obtain⟨v,rfl,r1⟩:=m.one;simp only[Rep]at r1;obtain⟨q,vs,rfl,g,f⟩:=r1;exact AF b s n H _ us j I l ⟨q,vs,rfl,.inr ⟨g,k _ M _ H c (.refl H) i (by simp only[Rep];exact⟨q,vs,rfl,g,f⟩)⟩⟩
 . rename_i o
   obtain⟨v,rfl,r1⟩:=m.one;simp only[Rep]at r1;obtain⟨q,vs,rfl,g,f⟩:=r1;exact AF b s n H _ us j I l ⟨q,vs,rfl,.inl ⟨g.sq,λl d=>k _ M _ _ c (Ext.new d) (i.new d) (rR d f)⟩⟩
 . rename_i a
   obtain⟨v,rfl,r1⟩:=m.one;simp only[Rep]at r1;subst r1;split at c
   . rename_i o u
     obtain⟨w,e,r⟩:=i a _ u;obtain⟨vs,rfl,f⟩:=r;exact AF b s n H _ us j I l ⟨a,vs,rfl,.inl ⟨cx.of e,λl d=>k _ M _ _ c (Ext.new d) (i.new d) (rR d f)⟩⟩
   . exact c.elim
 . exact c.elim
end
open HT
section
variable {prog:Program}{w:World}{A:Around}{E:aQ}{s:Shared}
theorem RX{t sl:Addr}{lo hi:Option Int}(a:IsTup s.heap t items)(hs:s.heap.IsSliceOf sl vl vu .none)(pl:IsPart vl lo)(j:IsPart vu hi)
 (h0:aR items.size 0 lo=0) (f:aR items.size items.size hi=items.size)
 (h:Q (.ref t) s):wpAny (model prog w) A (getItem (.ref t) (.ref sl)) Q E s:=by
 obtain⟨i,e,d,g⟩:=id hs;have c:s.TypeIs (.ref sl) "slice":=⟨i,e,d⟩;unfold getItem
 try with_reducible refine jM ?_
 first|refine aj (aI ?_)|skip
 refine aj (wpAny_sequenceKey a.typeIs (by decide) ?_)
 refine aj (wpAny_callSpecial?_slot (name:=Str.ofString "__getitem__") a.typeIs zQ
  (jE zQ a.typeIs entry_tuple_getitem ?_ (args_tuple_getitem _ _)))
 show wpAny _ _ (Builtin.Tuple.tupleItemsOf (.ref t) >>= _) _ _ s;refine aj (tupleItemsOf_ a ?_);refine aj (wpAny_typeOf c ?_);rw[ah (by decide)]
 refine aj (Jm hs pl j ?_);have b:(((aR items.size 0 lo:Nat):Int)==0&&(1:Int)==1&&(aR items.size items.size hi-aR items.size 0 lo)==items.size)=true:=by
  rw[h0,f];simp
 show wpAny _ _ (if(((aR items.size 0 lo:Nat):Int)==0&&(1:Int)==1&&(aR items.size items.size hi-aR items.size 0 lo)==items.size)=true then _ else _) _ _ s
 rw[ah b];show wpAny _ _ (Builtin.Tuple.tupleIsExact (.ref t) >>= _) _ _ s;unfold Builtin.Tuple.tupleIsExact;refine aj (aj (wpAny_typeOf a.typeIs (aI ?_)));rw[ah (by decide)]
 refine aj (wpAny_rule ?_);refine aj (aI ?_);exact aI ⟨_,rfl,aI h⟩
end
section
variable {X:Cx}
abbrev oJ:=bw->RM->(Option Int->RM->Prop)->Prop
def upP(K:ag)(t:oJ):TO:=λσ0 H Q0=>∃σ M Q,aU K H σ σ0/\View K H M/\t σ M Q/\∀o M' H',Q o M'->Ext H H'->View K H' M'->Q0 o H'
def qW(X:Cx)(e:Option Expr)(t:oJ):Prop:=PO X e (upP X.K t)
def Ho:oJ:=λ_ M Q=>Q none M
def Ni(t:au):oJ:=λσ M Q=>t σ M λx M1=>match x with| .int i=>Q (some i) M1|_=>False
theorem PO.imp{e:Option Expr}{t t':TO}(h:PO X e t)(i:∀σ H Q,t' σ H Q->t σ H Q):PO X e t':=λpins s σ H Q I w=>h pins s σ H Q I (i σ H Q w)
theorem qyl:qW X none Ho:=PO.imp W6 λσ0 H d h=>by
 obtain⟨e,M,Q,hs,c,b,a⟩:=h;exact a none M H b (.refl H) c
theorem qyi{e:Expr}(h:ai X e te):qW X (some e) (Ni te):=PO.imp (W5 h) λσ0 H Q0 h=>by
 obtain⟨σ,M,Q,hs,hv,ht,hk⟩:=h;refine⟨σ,M,_,hs,hv,ht,λrx M1 x H1 q e1 v1 r1=>?_⟩
 cases rx with
 |int i=>simp only[Rep]at r1;exact⟨i,r1,hk _ M1 H1 q e1 v1⟩
 |_=>exact(show False from q).elim
noncomputable def gu (xs:LR)(lo hi:Option Int):LR:=(xs.drop (aR xs.length 0 lo)).take (aR xs.length xs.length hi-aR xs.length 0 lo)
theorem KI{K:ag}{vs:LV}(r:aa K H xs vs)(lo hi:Option Int):aa K H (gu xs lo hi) (oj vs lo hi):=by
 unfold gu oj;rw[r.length];exact(r.drop _).take _
noncomputable def og:RV->Option Int->Option Int->RM->ao->Prop:=λx lo hi M Q=>match x with
 | .tup xs=>Q (.tup (gu xs lo hi)) M
 | .ls xs=>Q (.ls (gu xs lo hi)) M
 | .ref a=>match M a with|some (.lst xs)=>Q (.ls (gu xs lo hi)) M|_=>False
 |_=>False
noncomputable def upL (K:ag)(r:RV->Option Int->Option Int->RM->ao->Prop):V->Option Int->Option Int->Hp->VK->Prop:=λx lo hi H b=>∃a M Q,Rep K H a x/\View K H M/\r a lo hi M Q/\iW K H Q b
theorem Rx:wX X (upL X.K og):=by
 intro f s y H x v A C lo hi sl m I w hs t u h;obtain⟨a,M,Q,ra,l,d,n⟩:=h;have c:∀p xs vs,x= .ref p->cx X.K H p vs->aa X.K H xs vs->Q (.ls (gu xs lo hi)) M->
  ∃T id,typeLookup (.type T) "__getitem__" =pure (some (.builtin id))/\s.TypeIs v T/\wpAny (model X.prog X.w) X.A (getItem v (.ref sl)) (EP X f y m) X.xe s:=by
  intro p xs vs ex j g d;obtain⟨T,id,F,J,L⟩:=Wr f s y H x v A C lo hi sl (λv D=>∃H1 p xs,v= .ref p/\H1 p=none/\D=upd H1 p (.lst xs)/\∀o,m (.ref p) (upd H1 p (.aZ o (.lst xs)))) I w hs t u
   ⟨p,vs,ex,j,λq b=>⟨H,q,_,rfl,b,rfl,λo=>n _ M _ _ d (Ext.new b) (l.new b) (js b (KI g lo hi))⟩⟩
  exact⟨T,id,F,J,az L λ_ _ e=>frozen e⟩
 cases a with
 |tup xs=>
  simp only[og]at d;simp only[Rep]at ra;obtain⟨p,vs,rfl,j,g⟩:=ra
  by_cases k:aR vs.length 0 lo=0/\aR vs.length vs.length hi=vs.length
  . cases w
    obtain⟨ab,r,z,O⟩:=I.tuple (bL.of j);have i:ab.toArray.size=vs.length:=by rw[dW];exact r.length.symm
    refine⟨"tuple",_,PyProof.Rows.slot_tuple_getitem.lookup,z.typeIs,?_⟩;refine RX z hs t u (by rw[i];exact k.1) (by rw[i];exact k.2) ⟨.ref p,H,I,rfl,?_⟩
    have e:gu xs lo hi=xs:=by
     unfold gu;rw[g.length,k.1,k.2,List.drop_zero,Nat.sub_zero,<-g.length,List.take_length]
    rw[e]at d;exact n _ M _ H d (.refl H) l (by simp only[Rep];exact⟨p,vs,rfl,j,g⟩)
  . exact Xx f s y H _ v A C lo hi sl m I w hs t u ⟨p,vs,rfl,j,k,λq b=>n _ M _ _ d (Ext.new b) (l.new b) (rR b (KI g lo hi))⟩
 |ls xs=>
  simp only[og]at d;simp only[Rep]at ra;obtain⟨p,vs,rfl,j,g⟩:=ra;exact c p xs vs rfl j.sq g d
 |ref p=>
  simp only[og]at d;simp only[Rep]at ra;split at d
  . rename_i xs E
    obtain⟨N,e,r⟩:=l p _ E;obtain⟨vs,rfl,g⟩:=r;exact c p xs vs ra (cx.of e) g d
  . exact d.elim
 |_=>exact(show False from d).elim
def Oy(te:au)(tl th:oJ):au:=λσ M Q=>te σ M λx M1=>tl σ M1 λl M2=>th σ M2 λu M3=>og x l u M3 Q
theorem rsl{e:Expr}{lo hi:Option Expr}(he:ai X e te)(hl:qW X lo tl)(hu:qW X hi th):ai X (.Subscript e (.Slice lo hi none p2) pos) (Oy te tl th):=PE.imp (VG Rx he hl hu) λσ0 H Q0 h=>by
 obtain⟨σ,M,Q,hs,hv,ht,hk⟩:=h;refine⟨σ,M,_,hs,hv,ht,λrx M1 x H1 q e1 v1 r1=>?_⟩
 refine⟨σ,M1,_,hs.ext e1,v1,q,λl M2 H2 q2 e2 v2=>?_⟩
 refine⟨σ,M2,_,hs.ext (e1.trans e2),v2,q2,λu M3 H3 q3 e3 v3=>?_⟩
 exact⟨rx,M3,Q,Rep.ext (e2.trans e3) rx x r1,v3,q3,hk.ext ((e1.trans e2).trans e3)⟩
theorem S6(K:ag):PySem.W.kitOne K (.type "NoneType") (.type "int")=some false:=by kernel_rfl
theorem Td(K:ag):PySem.W.kitOne K (.type "bool") (.type "int")=some true:=by kernel_rfl
theorem SK(K:ag):PySem.W.kitOne K (.type "int") (.type "int")=some true:=by kernel_rfl
theorem S4(K:ag):PySem.W.kitOne K (.type "str") (.type "int")=some false:=by kernel_rfl
theorem S2(K:ag):PySem.W.kitOne K (.type "tuple") (.type "int")=some false:=by kernel_rfl
theorem Ta(K:ag):PySem.W.kitOne K (.type "list") (.type "int")=some false:=by kernel_rfl
noncomputable def MU:RV->Option Bool
 | .aq=>some false
 | .bl _=>some true
 | .int _=>some true
 | .str _=>some false
 | .tup _=>some false
 | .ls _=>some false
 |_=>none
theorem Sj(K:ag):PySem.W.kitOne K (.type "NoneType") (.type "bool")=some false:=by kernel_rfl
theorem SN(K:ag):PySem.W.kitOne K (.type "bool") (.type "bool")=some true:=by kernel_rfl
theorem Sn(K:ag):PySem.W.kitOne K (.type "int") (.type "bool")=some false:=by kernel_rfl
theorem Sh(K:ag):PySem.W.kitOne K (.type "str") (.type "bool")=some false:=by kernel_rfl
theorem Sf(K:ag):PySem.W.kitOne K (.type "tuple") (.type "bool")=some false:=by kernel_rfl
theorem S7(K:ag):PySem.W.kitOne K (.type "list") (.type "bool")=some false:=by kernel_rfl
noncomputable def is_bool:RV->Option Bool
 | .aq=>some false
 | .bl _=>some true
 | .int _=>some false
 | .str _=>some false
 | .tup _=>some false
 | .ls _=>some false
 |_=>none
theorem S5(K:ag):PySem.W.kitOne K (.type "NoneType") (.type "str")=some false:=by kernel_rfl
theorem Tc(K:ag):PySem.W.kitOne K (.type "bool") (.type "str")=some false:=by kernel_rfl
theorem S8(K:ag):PySem.W.kitOne K (.type "int") (.type "str")=some false:=by kernel_rfl
theorem S3(K:ag):PySem.W.kitOne K (.type "str") (.type "str")=some true:=by kernel_rfl
theorem SY(K:ag):PySem.W.kitOne K (.type "tuple") (.type "str")=some false:=by kernel_rfl
theorem S9(K:ag):PySem.W.kitOne K (.type "list") (.type "str")=some false:=by kernel_rfl
noncomputable def MT:RV->Option Bool
 | .aq=>some false
 | .bl _=>some false
 | .int _=>some false
 | .str _=>some true
 | .tup _=>some false
 | .ls _=>some false
 |_=>none
theorem R8(K:ag):PySem.W.kitOne K (.type "NoneType") (.type "tuple")=some false:=by kernel_rfl
theorem So(K:ag):PySem.W.kitOne K (.type "bool") (.type "tuple")=some false:=by kernel_rfl
theorem R9(K:ag):PySem.W.kitOne K (.type "int") (.type "tuple")=some false:=by kernel_rfl
theorem R7(K:ag):PySem.W.kitOne K (.type "str") (.type "tuple")=some false:=by kernel_rfl
theorem R6(K:ag):PySem.W.kitOne K (.type "tuple") (.type "tuple")=some true:=by kernel_rfl
theorem Sk(K:ag):PySem.W.kitOne K (.type "list") (.type "tuple")=some false:=by kernel_rfl
noncomputable def Lc:RV->Option Bool
 | .aq=>some false
 | .bl _=>some false
 | .int _=>some false
 | .str _=>some false
 | .tup _=>some true
 | .ls _=>some false
 |_=>none
theorem Si(K:ag):PySem.W.kitOne K (.type "NoneType") (.type "list")=some false:=by kernel_rfl
theorem SM(K:ag):PySem.W.kitOne K (.type "bool") (.type "list")=some false:=by kernel_rfl
theorem Sl(K:ag):PySem.W.kitOne K (.type "int") (.type "list")=some false:=by kernel_rfl
theorem Sg(K:ag):PySem.W.kitOne K (.type "str") (.type "list")=some false:=by kernel_rfl
theorem Se(K:ag):PySem.W.kitOne K (.type "tuple") (.type "list")=some false:=by kernel_rfl
theorem Jv(K:ag):PySem.W.kitOne K (.type "list") (.type "list")=some true:=by kernel_rfl
noncomputable def Lx:RV->Option Bool
 | .aq=>some false
 | .bl _=>some false
 | .int _=>some false
 | .str _=>some false
 | .tup _=>some false
 | .ls _=>some true
 |_=>none
noncomputable def tyN:RV->Option String
 | .aq=>some "NoneType"
 | .bl _=>some "bool"
 | .int _=>some "int"
 | .str _=>some "str"
 | .tup _=>some "tuple"
 | .ls _=>some "list"
 |_=>none
noncomputable def qw (T:String)(a:RV->Option Bool):LR->RM->ao->Prop:=λrs M Q=>match rs with
 | [x,.ty T']=>T'=T/\(match a x with|some b=>Q (.bl b) M|none=>False)
 |_=>False
theorem wj{T:String}(ht:∀a b,test a=some b->∃n,tyN a=some n/\PySem.W.kitOne X.K (.type n) (.type T)=some b):cM X (.builtin "isinstance") (eF X.K (qw T test)):=by
 intro pins s σ H xs us Q0 I rl h;obtain⟨rs,M,Q,rr,hv,hq,hk⟩:=h;unfold qw at hq;split at hq
 . rename_i a T'
   obtain⟨rfl,hq⟩:=hq;obtain⟨v,w,rfl,r1,r2⟩:=rr.two;obtain⟨u,u',rfl,w1,w2⟩:=vals2 rl;simp only[Rep]at r2;subst r2;obtain rfl:u'=Value.type T':=w2;cases e:test a with
   |none=>rw[e]at hq;exact hq.elim
   |some b=>
    rw[e]at hq;obtain⟨n,en,ek⟩:=ht a b e;have fin:∀tk,EP X pins σ Q0 (.bool b) { s with toks:=tk }:=λtk=>⟨.bl b,H,I.tok tk,rfl,hk _ M _ H hq (.refl H) hv (by simp only[Rep])⟩
    cases a with
    |aq=>cases en;simp only[Rep]at r1;subst r1;cases(show u=Value.none from w1);exact qT PySem.W.kitx_none I.de True.intro ek (λz=>nomatch z) fin
    |bl y=>cases en;simp only[Rep]at r1;subst r1;cases(show u=Value.bool y from w1);exact qT PySem.W.kitx_bool I.de True.intro ek (λz=>nomatch z) fin
    |int y=>cases en;simp only[Rep]at r1;subst r1;obtain⟨t,q⟩:=(show ∃t,u=Value.int y t from w1);cases q;exact qT PySem.W.kitx_int I.de True.intro ek (λz=>nomatch z) fin
    |str y=>cases en;simp only[Rep]at r1;subst r1;obtain⟨t,q⟩:=(show ∃t,u=Value.str y t from w1);cases q;exact qT PySem.W.kitx_str I.de True.intro ek (λz=>nomatch z) fin
    |tup ys=>
     cases en;simp only[Rep]at r1;obtain⟨p,vs,rfl,hp,hr⟩:=r1;cases(show u=Value.ref p from w1)
     obtain⟨ab,_,pt,_⟩:=I.tuple (bL.of hp);obtain⟨o,h1,h2,_⟩:=pt;exact qT PySem.W.kitx_tuple I.de ⟨o,h1,h2⟩ ek (λz=>nomatch z) fin
    |ls ys=>
     cases en;simp only[Rep]at r1;obtain⟨p,vs,rfl,hp,hr⟩:=r1;cases(show u=Value.ref p from w1)
     obtain⟨ab,_,pt,_⟩:=I.list hp.sq;obtain⟨o,h1,h2,_⟩:=pt.isList;exact qT PySem.W.kitx_list I.de ⟨o,h1,h2⟩ ek (λz=>nomatch z) fin
    |_=>cases en
 . exact hq.elim
theorem V2:cM X (.builtin "isinstance") (eF X.K (qw "int" MU)):=wj λa b e=>by
 cases a with
 |aq=>cases e;exact⟨_,rfl,S6 X.K⟩
 |bl _=>cases e;exact⟨_,rfl,Td X.K⟩
 |int _=>cases e;exact⟨_,rfl,SK X.K⟩
 |str _=>cases e;exact⟨_,rfl,S4 X.K⟩
 |tup _=>cases e;exact⟨_,rfl,S2 X.K⟩
 |ls _=>cases e;exact⟨_,rfl,Ta X.K⟩
 |_=>cases e
theorem Ux:cM X (.builtin "isinstance") (eF X.K (qw "bool" is_bool)):=wj λa b e=>by
 cases a with
 |aq=>cases e;exact⟨_,rfl,Sj X.K⟩
 |bl _=>cases e;exact⟨_,rfl,SN X.K⟩
 |int _=>cases e;exact⟨_,rfl,Sn X.K⟩
 |str _=>cases e;exact⟨_,rfl,Sh X.K⟩
 |tup _=>cases e;exact⟨_,rfl,Sf X.K⟩
 |ls _=>cases e;exact⟨_,rfl,S7 X.K⟩
 |_=>cases e
theorem V1:cM X (.builtin "isinstance") (eF X.K (qw "str" MT)):=wj λa b e=>by
 cases a with
 |aq=>cases e;exact⟨_,rfl,S5 X.K⟩
 |bl _=>cases e;exact⟨_,rfl,Tc X.K⟩
 |int _=>cases e;exact⟨_,rfl,S8 X.K⟩
 |str _=>cases e;exact⟨_,rfl,S3 X.K⟩
 |tup _=>cases e;exact⟨_,rfl,SY X.K⟩
 |ls _=>cases e;exact⟨_,rfl,S9 X.K⟩
 |_=>cases e
theorem T1:cM X (.builtin "isinstance") (eF X.K (qw "tuple" Lc)):=wj λa b e=>by
 cases a with
 |aq=>cases e;exact⟨_,rfl,R8 X.K⟩
 |bl _=>cases e;exact⟨_,rfl,So X.K⟩
 |int _=>cases e;exact⟨_,rfl,R9 X.K⟩
 |str _=>cases e;exact⟨_,rfl,R7 X.K⟩
 |tup _=>cases e;exact⟨_,rfl,R6 X.K⟩
 |ls _=>cases e;exact⟨_,rfl,Sk X.K⟩
 |_=>cases e
theorem Uw:cM X (.builtin "isinstance") (eF X.K (qw "list" Lx)):=wj λa b e=>by
 cases a with
 |aq=>cases e;exact⟨_,rfl,Si X.K⟩
 |bl _=>cases e;exact⟨_,rfl,SM X.K⟩
 |int _=>cases e;exact⟨_,rfl,Sl X.K⟩
 |str _=>cases e;exact⟨_,rfl,Sg X.K⟩
 |tup _=>cases e;exact⟨_,rfl,Se X.K⟩
 |ls _=>cases e;exact⟨_,rfl,Jv X.K⟩
 |_=>cases e
abbrev bV:=LR->RM->ao->Prop
def fG(K:ag)(sp:bV):Sp:=λvs H a _=>∃rs M Q,aa K H rs vs/\View K H M/\sp rs M Q/\iW K H Q a
end
structure zU(P:Program)(w:World)(K:ag)(mg:bq)(base:Heap)(k:Nat)(x:Str)(ps:aB)(sp:bV):Prop where
 ex:∃(f:Addr) (fd:FuncData),mg x=some (.ref f)/\PySem.W.keepIn K (.ref f)=true/\Binds K fd ps []/\dm P w K mg base fg k f fd ps (fG K sp)
section
variable {X:Cx}{x:Str}{p pos:Pos}{e:Expr}{es:bb}{t:bS}{k:Nat}{ps:aB}{sp:bV}
theorem XO(F:zU X.prog X.w X.K X.mg X.base k x ps sp)(m:aJ k X.A)(d:eV X (e::es) t)(j:Gl X x:=by rfl)(a:(x==("__debug__":Str))=false:=by decide)
 (i:starEach (e::es) X.env=(false,eval e X.env)::starEach es X.env:=by rfl) (c:(backTo pos (starEach es X.env)).any (·.1)=false:=by rfl):ai X (.Call (.Name x p) (e::es) [] pos) (jY sp t):=by
 obtain⟨f,v,l,b,g,F⟩:=F.ex;refine PE.imp (Ww F m j l b g .nil qa d a i c) λσ0 H u h=>?_
 obtain⟨s,M,Q,hs,o,n,b⟩:=h;exact⟨s,M,_,hs,o,n,λrs M1 vs H1 q e1 r r1=>⟨rs,M1,Q,by rw[oE];exact r1,r,q,b.ext e1⟩⟩
theorem WS(F:zU X.prog X.w X.K X.mg X.base k x ps sp)(i:aJ k X.A)(d:Gl X x:=by rfl)(a:(x==("__debug__":Str))=false:=by decide):ai X (.Call (.Name x p) [] [] pos) (jY sp j0):=by
 obtain⟨f,n,g,b,c,F⟩:=F.ex;refine PE.imp (U6 F i d g b c .nil qa a) λσ0 H m h=>?_
 obtain⟨o,M,Q,hs,l,j,b⟩:=h;exact⟨[],M,Q,aa.nil,l,j,b⟩
noncomputable def i6 (N:aB)(rs:LR):bw:=rs.map some++List.replicate (N.length-rs.length) none
theorem TH{K:ag}{rs:LR}{vs:LV}(r:aa K H rs vs):aU K H (i6 N rs) (L2.start N vs):=by
 unfold i6 L2.start;refine⟨by simp[r.length],λi z e=>?_⟩
 have hi:i<rs.length:=by
  by_cases hi:i<rs.length
  . exact hi
  . rw[List.getElem?_append_right (by simpa using hi),List.getElem?_replicate]at e
    split at e<;>cases e
 rw[qM (by simpa using hi),fJ]at e
 cases q:rs[i]? with
 |none=>rw[q]at e;cases e
 |some y=>
  rw[q]at e;cases e;obtain⟨v,e1,r1⟩:=r.get q;exact⟨v,by rw[qM (by rw[ba,<-r.length];exact hi),fJ,e1];rfl,r1⟩
def nums(n:Nat):LR:=(List.range n).map λ(i:Nat)=>RV.int (i:Int)
theorem yk(n):(nums n).length=n:=by simp[nums]
end
def eJ(b H a:Hp):Prop:=a=H∨∃d o u,H d=some (.aZ o u)/\jz u=true/\(∀c e,b d≠some (.aZ c e))/\a=upd H d u
theorem eJ.inv{X:Cx}{s:Shared}(t:eJ X.H₀ H H')(I:Inv X pins σ H s):Inv X pins σ H' s:=by
 rcases t with rfl|⟨p,ob,u,h,n,k,rfl⟩
 . exact I
 have d:∀b,H b=none->b≠p:=λb q w=>by subst w;rw[h]at q;cases q
 refine⟨I.ok,I.os,I.bare,⟨I.base.keep,I.base.slot,λb o q w x=>?_,I.base.there,λb e q=>?_,λb o u q=>?_,λb m q=>?_⟩,I.loc,I.cell,?_,λx c q=>?_,λq l=>?_,λb v q=>?_,I.len⟩
 . have:=I.base.free b o q w x
   rw[aE (d b this)];exact this
 . have e1:=I.base.bj b e q
   rw[aE (jx e1 h (by intro z;cases z))];exact e1
 . have e1:=I.base.aK b o u q
   rw[aE (by rintro rfl;exact k _ _ q)];exact e1
 . obtain⟨a,e1⟩:=I.base.et b m q
   exact⟨a,by rw[aE (jx e1 h (by intro z;cases z))];exact e1⟩
 . rw[aE (d _ I.free)];exact I.free
 . have:=I.bM x c q
   rw[aE (d _ this)];exact this
 . obtain⟨i,f,j⟩:=I.pin q l
   exact⟨i,by rw[aE (d _ f)];exact f,j⟩
 . have st:∀c v,aD X.prog X.w H s.heap c v->aD X.prog X.w (upd H p u) s.heap c v:=λc v z=>z.ej (λ_ _ _ q=>q) (λc q=>by rw[aE (jx q h (by intro z;cases z))];exact q) λc r q=>by rw[aE (jx q h (by intro z;cases z))];exact q
   by_cases g:b=p
   . subst g
     rw[c0]at q;cases q;exact st _ _ (I.av b _ h).2
   . rw[aE g]at q
     exact st _ _ (I.av b v q)
theorem vn{s:Shared}{p:Addr}(I:Inv X pins σ H s)(h:H p=some u)(du:jz u=true):∃o,s.heap.get? p=some o/\Inv X pins σ (upd H p (.aZ o u)) s/\∀o' u',X.H₀ p≠some (.aZ o' u'):=by
 have hz:=I.av p u h;obtain⟨ob,e⟩:∃o,s.heap.get? p=some o:=by
  cases u<;>first|(cases du;done)|skip
  . obtain⟨_,_,_,_,o,_,_,e,_⟩:=hz;exact⟨o,e⟩
  . obtain⟨_,_,_,_,o,_,_,e,_⟩:=hz;exact⟨o,e⟩
 have nf:∀o' u',H p≠some (.aZ o' u'):=λo' u' z=>by rw[h]at z;cases z;cases du
 have np:∀b,H b=none->b≠p:=λb q w=>by subst w;rw[h]at q;cases q
 have nt:∀c xs,H c=some (.tup xs)->c≠p:=λc xs q w=>by subst w;rw[h]at q;cases q;cases du
 have no:∀c y,H c=some (.own y)->c≠p:=λc y q w=>by subst w;rw[h]at q;cases q;cases du
 refine⟨ob,e,⟨I.ok,I.os,I.bare,⟨I.base.keep,I.base.slot,λb o q w x=>?_,I.base.there,λb xs' q=>?_,λb o u q=>?_,λb ps q=>?_⟩,I.loc,I.cell,?_,λx c q=>?_,λq hq=>?_,λb v q=>?_,I.len⟩,λo' u' z=>nf o' u' (I.base.aK _ _ _ z)⟩
 . have:=I.base.free b o q w x
   rw[aE (np b this)];exact this
 . have e1:=I.base.bj b xs' q
   rw[aE (nt _ _ e1)];exact e1
 . have e1:=I.base.aK b o u q
   rw[aE (by rintro rfl;exact nf _ _ e1)];exact e1
 . obtain⟨more,e1⟩:=I.base.et b ps q
   exact⟨more,by rw[aE (by rintro rfl;rw[h]at e1;cases e1;cases du)];exact e1⟩
 . rw[aE (np _ I.free)];exact I.free
 . have:=I.bM x c q
   rw[aE (np _ this)];exact this
 . obtain⟨a1,a2,a3⟩:=I.pin q hq
   exact⟨a1,by rw[aE (np _ a2)];exact a2,a3⟩
 . have st:∀c v,aD X.prog X.w H s.heap c v->aD X.prog X.w (upd H p (.aZ ob u)) s.heap c v:=λc v z=>z.ej (λ_ _ _ q=>q) (λc q=>by rw[aE (no _ _ q)];exact q) λc ys q=>by rw[aE (nt _ _ q)];exact q
   by_cases hb:b=p
   . subst hb
     rw[c0]at q;cases q;exact⟨e,st _ _ hz⟩
   . rw[aE hb]at q
     exact st _ _ (I.av b v q)
structure gX(H0 Hs:Hp)(K:ag)(J:It)(xs:LR)(ok:RM->Prop)(un:RM->RM)(H1:Hp):Prop where
 turn:∀i H M,Ext H1 H->View K H M->ok M->∀x,xs[i]? =some x->J.go i H/\∀v H',J.Dr i H v H'->Ext H H'/\(∀M,View K H M->View K H' M)/\Rep K H' x v
 stop:∀i H M,Ext H1 H->View K H M->ok M->xs.length<=i->J.stop i H
 cb:∀H M,Ext H1 H->View K H M->ok M->∃H',eJ H0 H H'/\bp H H'/\Ext Hs H'/\View K H' (un M)
abbrev gj:=bw->RM->(LR->(RM->Prop)->(RM->RM)->RM->Prop)->Prop
abbrev cZ:RM->Prop:=λ_=>True
noncomputable def upI (H0:Hp)(K:ag)(ti:gj):TI:=λσ0 H R=>∃σ M Q,aU K H σ σ0/\View K H M/\ti σ M Q/\∀xs ok un M' J H',Q xs ok un M'->Ext H H'->View K H' M'->gX H0 H K J xs ok un H'->R J H'
def hG(X:Cx)(tg a:Expr)(b:gj):Prop:=PI X tg a (upI X.H₀ X.K b)
section
variable {X:Cx}{tg:Expr}
noncomputable def Hy (te:au):gj:=λσ M Q=>te σ M λv M1=>match v with
 | .tup xs=>Q xs cZ id M1
 | .ls xs=>Q xs cZ id M1
 | .ref a=>match M1 a with
  |some (.lst xs)=>Q xs (λM=>M a=some (.lst xs)) id M1
  |_=>False
 |_=>False
theorem mU{K:ag}{H1:Hp}{b:RM->Prop}(es:Ext Hs H1):∀H M,Ext H1 H->View K H M->b M->∃a,eJ H0 H a/\bp H a/\Ext Hs a/\View K a (id M):=λH M e v _=>⟨H,.inl rfl,(Ext.refl H).w,es.trans e,v⟩
theorem Zm{K:ag}{H1:Hp}{a:Addr}{rs:LR}{vs:LV}(h:Fz K H1 a vs)(r:aa K H1 rs vs)(es:Ext Hs H1):gX H0 Hs K (wQ K a) rs cZ id H1 where
 turn:=λi H M e _ _ x hx=>by
  obtain⟨v,e1,r1⟩:=r.get hx;refine⟨⟨vs,v,(h.ext e).sq,e1⟩,λv' b y=>?_⟩
  obtain⟨rfl,y⟩:=y;have:=y vs (h.ext e).sq;rw[e1]at this;cases this;exact⟨.refl _,λ_ w=>w,Rep.ext e x v r1⟩
 stop:=λi H M e _ _ hi=>⟨vs,(h.ext e).sq,by rw[<-r.length];exact hi⟩
 cb:=mU es
theorem Zj{K:ag}{H1:Hp}{a:Addr}{rs:LR}{vs:LV}(h:bL K H1 a vs)(r:aa K H1 rs vs)(es:Ext Hs H1):gX H0 Hs K (Ds K a) rs cZ id H1 where
 turn:=λi H M e _ _ x hx=>by
  obtain⟨v,e1,r1⟩:=r.get hx;refine⟨⟨vs,v,bL.ext e h,e1⟩,λv' b y=>?_⟩
  obtain⟨rfl,y⟩:=y;have:=y vs (bL.ext e h);rw[e1]at this;cases this;exact⟨.refl _,λ_ w=>w,Rep.ext e x v r1⟩
 stop:=λi H M e _ _ hi=>⟨vs,bL.ext e h,by rw[<-r.length];exact hi⟩
 cb:=mU es
theorem Zk{K:ag}{H1:Hp}(n)(es:Ext Hs H1):gX H0 Hs K (qV 0 n) (nums n) cZ id H1 where
 turn:=λi H M e _ _ x hx=>by
  have hi:i<n:=by have:=(jG.mp hx).1;rw[yk]at this;exact this
  have a:x= .int (i:Int):=by simp[nums,hi]at hx;exact hx.symm
  subst a;refine⟨hi,λv' b y=>?_⟩
  obtain⟨rfl,rfl⟩:=y;exact⟨.refl _,λ_ w=>w,by simp only[Rep];simp⟩
 stop:=λi H M e _ _ hi=>by rw[yk]at hi;exact hi
 cb:=mU es
theorem Zl{K:ag}{H1:Hp}{a:Addr}{rs:LR}(es:Ext Hs H1):gX H0 Hs K (wQ K a) rs (λM=>M a=some (.lst rs)) id H1 where
 turn:=λi H M e d c x hx=>by
  obtain⟨f,b,vs,rfl,r⟩:=d a _ c;obtain⟨v,e1,r1⟩:=r.get hx;refine⟨⟨vs,v,cx.of b,e1⟩,λv' g y=>?_⟩
  obtain⟨rfl,y⟩:=y;have:=y vs (cx.of b);rw[e1]at this;cases this;exact⟨.refl _,λ_ w=>w,r1⟩
 stop:=λi H M e d c hi=>by
  obtain⟨f,b,vs,rfl,r⟩:=d a _ c;exact⟨vs,cx.of b,by rw[<-r.length];exact hi⟩
 cb:=mU es
theorem RJ{l:Expr}(w:ai X l te):hG X tg l (Hy te):=by
 intro i s n H R I h;obtain⟨E,M,Q,hs,A,z,t⟩:=h;refine az (w i s n H (λx H1=>(∃a vs rs k M1,x= .ref a/\cx X.K H1 a vs/\gX X.H₀ H X.K (wQ X.K a) rs k id H1/\Q rs k id M1/\Ext H H1/\View X.K H1 M1)∨∃a vs rs M1,x= .ref a/\bL X.K H1 a vs/\aa X.K H1 rs vs/\Q rs cZ id M1/\Ext H H1/\View X.K H1 M1) I ⟨E,M,_,hs,A,z,λrv M1 v H1 q e1 f r1=>?_⟩) λu d ⟨v,H1,I1,r1,D⟩=>?_
 . cases rv with
   |ls j=>simp only[Rep]at r1;obtain⟨a,vs,rfl,c,g⟩:=r1;exact .inl ⟨a,vs,j,cZ,M1,rfl,c.sq,Zm c g e1,q,e1,f⟩
   |tup j=>simp only[Rep]at r1;obtain⟨a,vs,rfl,c,g⟩:=r1;exact .inr ⟨a,vs,j,M1,rfl,bL.of c,g,q,e1,f⟩
   |ref a=>
    simp only[Rep]at r1;subst r1;dsimp only at q;split at q
    . rename_i j y
      obtain⟨F,u,vs,rfl,r⟩:=f a _ y;exact .inl ⟨a,vs,j,_,M1,rfl,cx.of u,Zl e1,q,e1,f⟩
    . exact q.elim
   |_=>exact(show False from q).elim
 . rcases D with⟨a,vs,rs,k,M1,rfl,c,g,q,e1,f⟩|⟨a,vs,rs,M1,rfl,c,g,q,e1,f⟩
   . cases r1
     obtain⟨ab,rv,p,C⟩:=I1.list c;refine wpAny_pyIter_list p.isList ?_;refine⟨d.heap.objs.size,[d.heap.objs.size],_,_,H1,rfl,I1.kept (t':=d.toks) λb o e=>bz _ e,T6 a _,⟨_,dv _ rfl,rfl,rfl⟩,λb m=>?_,t rs k id M1 _ H1 q e1 f g⟩
     have e:b=d.heap.objs.size:=by simpa using m
     subst e;exact I1.fZ (aN _) (I1.av.fresh (aN _))
   . cases r1
     obtain⟨ab,rv,p,C⟩:=I1.tuple c;refine wpAny_pyIter_tuple (show d.heap.IsTuple a ab.toArray from p) ?_
     refine⟨d.heap.objs.size,[d.heap.objs.size],_,_,H1,rfl,I1.kept (t':=d.toks) λb o e=>bz _ e,Te a _,⟨_,dv _ rfl,rfl,rfl⟩,λb m=>?_,t rs cZ id M1 _ H1 q e1 f (Zj c g e1)⟩
     have e:b=d.heap.objs.size:=by simpa using m
     subst e;exact I1.fZ (aN _) (I1.av.fresh (aN _))
noncomputable def vE (Q:LR->(RM->Prop)->(RM->RM)->RM->Prop):LR->RM->Prop:=λrs M=>match rs with
 | [.int n]=>-(2 ^ 62)<=n/\n<2 ^ 62/\Q (nums n.toNat) cZ id M
 |_=>False
def Hz(te:au):gj:=λσ M Q=>te σ M λv M1=>vE Q [v] M1
theorem PI.imp{t t':TI}(h:PI X tg iter t)(i:∀σ H R,t' σ H R->t σ H R):PI X tg iter t':=λpins s σ H R I w=>h pins s σ H R I (i σ H R w)
theorem Zo{a:Expr}{p pos:Pos}(g:X.mg "range" =none)(e:ai X a te)(b:Gl X "range":=by rfl)(d:starEach [a] X.env= [(false,eval a X.env)]:=by rfl)(c:starEach (a::[]) X.env=(false,eval a X.env)::starEach [] X.env:=by rfl):
 hG X tg (.Call (.Name "range" p) [a] [] pos) (Hz te):=PI.imp (Uk b g (sI e zx c) d) λσ0 H R h=>by
 obtain⟨o,M,Q,hs,j,i,f⟩:=h;refine⟨o,M,vE Q,hs,j,i,λrs M1 vs H1 q e1 m r1=>?_⟩
 unfold vE at q;split at q
 . rename_i n
   obtain⟨k,l,q⟩:=q;obtain⟨v,rfl,r2⟩:=r1.one;simp only[Rep]at r2;subst r2;exact⟨n,rfl,k,l,f _ cZ id M1 _ H1 q e1 m (Zk _ e1)⟩
 . exact q.elim
def NM(ti:gj)(g:ji)(tb:c9):c9:=λD σ M=>ti σ M λxs ok un M1=>jw g tb D ok un xs σ M1
def Nw(H0:Hp)(D:Ends):Ends where
 nx:=λσ H=>∃H',eJ H0 H H'/\D.nx σ H'
 rt:=λv H=>∃H',eJ H0 H H'/\D.rt v H'
 bk:=D.bk
 ct:=D.ct
theorem E9{body:List Stmt}{g:ji}{tb:c9}(hp:PassesOwn (model X.prog X.w) X.A X.env X.xe)(hc:X.calm=true)(hi:hG X tg iter ti)(hg:oI X tg g)(hb:j5 X body tb)
 (hs:∀x,foldedSetIterable iter X.env x=pure x:=by intro _;rfl):eI X (.For tg iter body [] pos) (NM ti g tb):=by
 intro pins s σ0 H D0 I h;refine az (YG hp hc hi hg hb hs pins s σ0 H (Nw X.H₀ D0) I ?_) λf s' h'=>?_
 rotate_left
 . cases f with
   |next=>obtain⟨σ1,H1,I1,H2,t,q⟩:=h';exact⟨σ1,H2,t.inv I1,q⟩
   |brk=>exact h'
   |cont=>exact h'
   |ret v=>obtain⟨x1,σ1,H1,I1,r1,H2,t,q⟩:=h';exact⟨x1,σ1,H2,t.inv I1,r1,q⟩
 obtain⟨σ,M,D,hs,hv,ht,hd⟩:=h;refine⟨σ,M,_,hs,hv,ht,λxs ok un M1 J H1 q e1 v1 hJ=>?_⟩
 have outN:∀{σ4:bw} {M4:RM} {σ04:L2.St} {H4:Hp},(ok M4/\D.nx σ4 (un M4))->Ext H1 H4->View X.K H4 M4->aU X.K H4 σ4 σ04->(Nw X.H₀ D0).nx σ04 H4:=λq4 e4 v4 r4=>by
  obtain⟨H5,t5,e5,x5,v5⟩:=hJ.cb _ _ e4 v4 q4.1;exact⟨H5,t5,hd.nx _ _ _ H5 q4.2 x5 v5 (r4.aX e5)⟩
 refine⟨λi m σ0 H=>m=xs.length-i/\i<=xs.length/\∃σ M,aU X.K H σ σ0/\View X.K H M/\jw g tb D ok un (xs.drop i) σ M/\Ext H1 H,⟨_,rfl,jN _,σ,M1,hs.ext e1,v1,by simpa using q,.refl _⟩,?_⟩
 rintro i m σ0 H ⟨rfl,hi,σ,M,hs,hv,hf,e⟩
 by_cases hlt:i<xs.length
 . have ed:xs.drop i=xs[i]::xs.drop (i+1):=by simp
   rw[ed]at hf;obtain⟨av,hf⟩:=hf;obtain⟨hgo,hy⟩:=hJ.turn i H M e hv av xs[i] (by simp)
   refine .inr ⟨hgo,λσ0 H=>∃σ M,aU X.K H σ σ0/\View X.K H M/\jw g tb D ok un (xs.drop (i+1)) σ M/\Ext H1 H,λσ' H' h=>⟨_,by omega,rfl,hlt,h⟩,λx H' y=>?_⟩
   obtain⟨e2,w2,r2⟩:=hy x H' y;refine⟨xs[i],σ,M,_,r2,hs.ext e2,w2 M hv,hf,λσ' M' σ0' H'' q e3 v3 r3=>?_⟩
   have e13:=(e.trans e2).trans e3;refine⟨σ',M',_,r3,v3,q,⟨λσ4 M4 σ04 H4 q4 e4 v4 r4=>⟨σ4,M4,r4,v4,q4,e13.trans e4⟩,λrv M4 v H4 q4 e4 v4 r4=>?_,λσ4 M4 σ04 H4 q4 e4 v4 r4=>outN q4 (e13.trans e4) v4 r4,λσ4 M4 σ04 H4 q4 e4 v4 r4=>⟨σ4,M4,r4,v4,q4,e13.trans e4⟩⟩⟩
   obtain⟨H5,t5,e5,x5,v5⟩:=hJ.cb _ _ (e13.trans e4) v4 q4.1;exact⟨H5,t5,hd.rt _ _ _ H5 q4.2 x5 v5 (Rep.aX e5 _ _ r4)⟩
 . have ei:i=xs.length:=by omega
   subst ei;rw[List.drop_length]at hf;exact .inl ⟨hJ.stop _ H M e hv hf.1 (aN _),outN hf e hv hs⟩
end
theorem TZ{env:Env}:∀a,(∀y∈a.names,y.2= .free->∃c,env.cells.lookup y.1=some c)->∃f,closureFor a env=pure f/\(∀y c,f.lookup y=some c->env.cells.lookup y=some c)/\∀y∈a.names,y.2= .free->∃c,f.lookup y.1=some c:=by
 intro a h;have t:∀(l:List (Str×NameKind)) (cs:List (Str×Addr)),(∀y∈l,y.2= .free->∃c,env.cells.lookup y.1=some c)->(∀y c,cs.lookup y=some c->env.cells.lookup y=some c)->
  ∃f,(forIn l cs λ(x:Str×NameKind) (r:List (Str×Addr))=>(match x with|(name,kind)=>if(kind==NameKind.free)=true then do let c<-cellOf env name;pure (ForInStep.yield ((name,c)::r))else pure (ForInStep.yield r):Sem (ForInStep (List (Str×Addr)))))=(pure f:Sem _)/\
   (∀y c,f.lookup y=some c->env.cells.lookup y=some c)/\(∀y c,cs.lookup y=some c->∃A,f.lookup y=some A)/\∀y∈l,y.2= .free->∃c,f.lookup y.1=some c:=by
  intro l
  induction l with
  |nil=>intro cs _ o;exact⟨cs,by simp,o,λy c e=>⟨c,e⟩,λy b=>by cases b⟩
  |cons x l ih=>
   intro cs u o;obtain⟨n,k⟩:=x
   by_cases v:k= .free
   . subst v
     obtain⟨c,ec⟩:=u (n,.free) iR rfl;have e0:cellOf env n=pure c:=by unfold cellOf;rw[ec]
     obtain⟨f,e1,g,i,j⟩:=ih ((n,c)::cs) (λy b=>u y (gv _ b)) (λy d e=>by
      rw[nE]at e;split at e
      . rename_i z;cases e;rw[gh z];exact ec
      . exact o y d e)
     refine⟨f,?_,g,λy d e=>?_,λy b s=>?_⟩
     . rw[tj]
       simp only[beq_self_eq_true,if_true,e0,pure_bind];exact e1
     . by_cases b:y=n
       . subst b;exact i y c (by simp)
       . exact i y d (by rw[nE,oB.mpr b];exact e)
     . rcases fw.mp b with rfl|b
       . exact i n c (by simp)
       . exact j y b s
   . obtain⟨f,e1,g,i,j⟩:=ih cs (λy b=>u y (gv _ b)) o
     have C:(k==NameKind.free)=false:=by simpa using v
     refine⟨f,?_,g,i,λy b s=>?_⟩
     . rw[tj]
       simp only[C,jI,if_false,pure_bind];exact e1
     . rcases fw.mp b with rfl|b
       . exact aS s v
       . exact j y b s
 obtain⟨f,e1,g,_,j⟩:=t a.names [] h (λy c e=>by simp at e)
 refine⟨f,?_,g,j⟩;unfold closureFor;have w:=congrArg (λm=>m >>= λr=>(pure r:Sem (List (Str×Addr)))) e1
 simp only[pure_bind]at w;rw[<-w]
noncomputable def gg (env:Env)(p:Str×NameKind):Str×NameKind:=if(p.2==NameKind.free&&env.scope.kind== .function&&env.kindOf p.1==some .cell)then(p.1,NameKind.cell)else(p.1,p.2)
theorem Vv(env)(p:Str×NameKind):(gg env p).1=p.1:=by unfold gg;split<;>rfl
theorem A3(env)(p:Str×NameKind):(gg env p).2=p.2∨((gg env p).2= .cell/\p.2= .free):=by
 unfold gg;split
 . rename_i h
   rw[aY,aY]at h;exact .inr ⟨rfl,gh h.1.1⟩
 . exact .inl rfl
theorem xB{env:Env}{x:Str}:∀{a:List (Str×NameKind)},(a.map (gg env)).lookup x=(a.find? λp=>x==p.1).map λp=>(gg env p).2
 | []=>rfl
 |p::r=>by
  rw[bU,jF];obtain⟨n,k⟩:=p;have e:gg env (n,k)=(n,(gg env (n,k)).2):=Prod.ext (Vv env (n,k)) rfl;rw[e,nE];cases hx:x==n with
  |true=>rfl
  |false=>exact xB
theorem xC{x:Str}:∀{a:List (Str×NameKind)},a.lookup x=(a.find? λp=>x==p.1).map λp=>p.2
 | []=>rfl
 |(n,k)::r=>by
  rw[nE,jF];cases hx:x==n with
  |true=>rfl
  |false=>exact xC
theorem Jq{env:Env}{a:List (Str×NameKind)}{x:Str}{k:NameKind}(c:∀y∈a,y.2≠.cell)(d:k= .cell∨k= .free)
 (h:(a.map (gg env)).lookup x=some k):a.lookup x=some .free:=by
 rw[xB]at h;rw[xC];cases e:a.find? λp=>x==p.1 with
 |none=>rw[e]at h;cases h
 |some p=>
  rw[e]at h;have b:(gg env p).2=k:=dz h;have f:=Dm e;show some p.2=some .free;rcases A3 env p with z|z
  . rcases d with rfl|rfl
    . exact aS (z.symm.trans b) (c p f)
    . rw[<-b,z]
  . rw[z.2]
theorem Jp{env:Env}{a:List (Str×NameKind)}{x:Str}(h:a.lookup x=some .free):(a.map (gg env)).lookup x=some .cell∨(a.map (gg env)).lookup x=some .free:=by
 rw[xC]at h;rw[xB];cases e:a.find? λp=>x==p.1 with
 |none=>rw[e]at h;cases h
 |some p=>
  rw[e]at h;have b:p.2= .free:=dz h;show some (gg env p).2=some .cell∨some (gg env p).2=some .free;rcases A3 env p with z|z
  . right;rw[z,b]
  . left;rw[z.1]
noncomputable def cW (X:Cx)(scope:Scope)(cl:List (Str×Addr))(C:Addr)(a:aB)(s:Shared)(H:Hp)(b:List Addr):Cx:=
 { X with N:=a,s₀:=s,H₀:=H,env:=compEnvC scope cl C X.env,outer:=X.stack,ex:=b,fn:=λ_=>false,pn:=[],xe:=λ_ _=>False }
theorem Zu{s:Shared}{scope:Scope}{cl:List (Str×Addr)}(I:Inv X pins σ H s)(d:∀b∈i,ni X pins H b)(g:∀b∈i,b<s.heap.objs.size)
 (k:scope.kind= .function) (j:s.heap.objs.size<=C) (f:∀y c,cl.lookup y=some c->X.env.cells.lookup y=some c) (m:∀y∈scope.names,y.2= .free->∃c,cl.lookup y.1=some c) (h:∀y∈scope.names,y.2≠.cell):
 (cW X scope cl C Nc s H i).Ok where
 mod:=I.ok.mod
 kind:=k
 glob:=I.ok.glob
 blt:=I.ok.blt
 above:=j
 inj:=λx y c e1 l=>I.ok.inj x y c (f x c e1) (f y c l)
 has:=λx hx=>by
  have e:scope.names.lookup x=some .free:=by
   rcases hx with hx|hx
   . exact Jq h (.inl rfl) hx
   . exact Jq h (.inr rfl) hx
  exact m (x,.free) (PySem.mem_of_lookup e) rfl
 qY:=λx c z=>by cases z
 hd:=I.ok.hd
 frames:=I.ok.frames
 wx:=.inl rfl
 tW:=λb a=>⟨λz=>aS (fq (g b a) j) (by rw[show b=C from z];exact ke _),λx c e=>(d b a).2.2.2.2.1 x c (f x c e)⟩
 bs:=λb o e=>I.bs b o e
 jj:=bQ I.ok.jj I.sz
 iw:=λb o e a=>by
  rcases(d b a).2.2.2.1 with z|z
  . exact I.ok.iw b o e z
  . exact aS (fq (bA e) (bQ I.ok.jj z)) (ke _)
 ib:=λb a z=>by
  rcases fw.mp (I.fI b z)with e|e
  . exact(d b a).2.1 e
  . exact(d b a).2.2.1 e
 dM:=I.stack
 nN:=I.fH
section
variable {prog:Program}{w:World}{A:Around}{R:Result->Shared->Prop}{s:Shared}
abbrev Nv:aQ:=λ_ _=>False
noncomputable abbrev Bd (a:bb) (env:Env):Sem Bool:=forIn a true λc r=>if r=true then do let b<-isTrue c env (eval c env);pure (ForInStep.yield b)else pure (ForInStep.yield r)
theorem Uu{env:Env}(I:Nat->Shared->Prop)
 (u:∀n s,I n s->wpAny (model prog w) A (pyNext it) (λr c=>(r=none/\R (.ok .next) c)∨∃v,r=some v/\wpAny (model prog w) A (letOwnedTupleGo target it v) (λ_ d=>wpAny (model prog w) A (assign target env v) (λ_ g=>
  wpAny (model prog w) A (Bd ifs env) (λok e=>
   if ok=true then wpAny (model prog w) A (eval elt env) (λx i=>
    wpAny (model prog w) A (call (.builtin "list.append") [acc,x]) (λ_ j=>∃m,m<n/\I m j) Nv i) Nv e
   else ∃m,m<n/\I m e) Nv g) Nv d) Nv c) Nv s)
 (n) (h:I n s):
 codeAny (model prog w) A (.compLoop (.ListComp elt [⟨target,iter,ifs,0⟩] scope pos) 0 it acc env) R s:=by
 refine codeAny_loop rfl I (λn s y=>?_) n h
 show wpAny _ A ((compTurn (.ListComp elt [⟨target,iter,ifs,0⟩] scope pos) 0 it acc env).onRaise (λx=>do noteFrame x env;theTreesLotGoes x)) _ _ s
 refine wpAny_noted ?_;rw[compTurn_list];refine aj (wpAny_standAt (aj (gw (u n s y) (λr c a=>?_) λ_ _ b=>b.elim)))
 rcases a with⟨rfl,a⟩|⟨v,rfl,a⟩
 . exact aI a
 . refine aj (gw a (λ_ d k=>?_) λ_ _ b=>b.elim)
   refine aj (gw k (λ_ g l=>aj (gw l (λok e f=>?_) λ_ _ b=>b.elim)) λ_ _ b=>b.elim)
   cases ok with
   |false=>exact aI ⟨rfl,f⟩
   |true=>
    exact aj (aj (gw f (λx i o=>aj (gw o (λ_ j t=>aI (aI ⟨rfl,t⟩)) λ_ _ b=>b.elim)) λ_ _ b=>b.elim))
end
def qy(X:Cx)(b:bb)(t:dJ):Prop:=
 ∀(a:aH) (s:Shared) (σ:L2.St) (H:Hp) (Q:Bool->Hp->Prop),Inv X a σ H s->Dl X.K t σ H Q->wpAny (model X.prog X.w) X.A (Bd b X.env) (TP X a σ Q) X.xe s
def Rk:dJ:=λ_ M Q=>Q true M
theorem Qd:qy X [] Rk:=by
 intro a s e H f I h;obtain⟨g,M,Q,hs,d,c,b⟩:=h;exact aI ⟨H,I,b true M H c (.refl H) d⟩
theorem Qc{t:dJ}(h:d7 X c t):qy X [c] t:=by
 intro a s b H d I e;have:=h a s b H d I e;unfold Bd;rw[tj];simp only[if_true,bind_assoc,pure_bind];refine aj (az this λb f q=>?_)
 simp only[List.forIn_nil];exact aI q
def j3(md:Bool)(a:LR)(M:RM)(Q:ao):Prop:=match md with
 |true=>∀p,M p=none->Q (.ref p) (put M p (.lst a))
 |false=>Q (.ls a) M
noncomputable def gb (bd:RV->Option (LR))(md:Bool)(b:RM->Prop)(un:RM->RM)(e:dJ)(d:au)(a:List (Option RV)):LR->LR->RM->ao->Prop
 | [],acc,M,Q=>b M/\j3 md acc (un M) Q
 |x::xs,acc,M,Q=>b M/\match bd x with
  |some bs=>e (bs.map some++a) M λc M1=>(c=true->d (bs.map some++a) M1 λv M2=>gb bd md b un e d a xs (acc++ [v]) M2 Q)/\(c=false->gb bd md b un e d a xs acc M1 Q)
  |none=>False
noncomputable def rZ (bd:RV->Option (LR))(md:Bool)(ti:gj)(cap:List Nat)(tt:dJ)(te:au):au:=λσ M Q=>ti σ M λxs ok un M1=>xs.length<sizeLine/\gb bd md ok un tt te (cap.map λi=>(σ[i]?).join) xs [] M1 Q
section
variable {X:Cx}
theorem Uv{elt iter tg:Expr}{nm:aB}(caps:List (Nat×Str)){osc:Scope}{oN:aB}
 (hc:X.calm=true) (hi:hG X tg iter ti)
 (hif:∀cl C s H fp,qy (cW X scope cl C (nm++caps.map Prod.snd) s H fp) ifs tt)
 (hel:∀cl C s H fp,ai (cW X scope cl C (nm++caps.map Prod.snd) s H fp) elt te)
 (hX:X.env.scope=osc) (hN:X.N=oN)
 (fu:∀p∈caps,oN[p.1]? =some p.2/\scope.names.lookup p.2=some .free/\(osc.names.lookup p.2=some .cell∨osc.names.lookup p.2=some .free))
 (eD:∀y∈scope.names,y.2= .free->(osc.names.lookup y.1=some .cell∨osc.names.lookup y.1=some .free))
 (bD:∀y∈scope.names,y.2≠.cell) (bH:scope.kind= .function) (cj:∀y∈scope.names,y.2= .local->scope.names.lookup y.1=some .local)
 (hb:∀r bs,bd r=some bs->bs.length=nm.length)
 (hpg:∀cl C s2 H2 fp (pins':aH) (s6:Shared) (vs0 cv:List (Option V)) (H6:Hp) (rv:RV) (xv:V) (u:Value) (bs:LR) (Q1:Unit->Shared->Prop),vs0.length=nm.length->Inv (cW X scope cl C (nm++caps.map Prod.snd) s2 H2 fp) pins' (vs0++cv) H6 s6->RelV xv u->Rep X.K H6 rv xv->bd rv=some bs->
  (∀vs s7,aa X.K H6 bs vs->Inv (cW X scope cl C (nm++caps.map Prod.snd) s2 H2 fp) pins' (vs.map some++cv) H6 s7->Q1 () s7)->wpAny (model X.prog X.w) X.A (assign tg (compEnvC scope cl C X.env) u) Q1 Nv s6)
 (hs:∀v,foldedSetIterable iter X.env v=pure v) {s:Shared} (I:Inv X pins σ0 H s) (hw:up X.K (rZ bd md ti (caps.map Prod.fst) tt te) σ0 H Q0)
 (fin:∀(D C:Addr) (s5:Shared) (m5:bq) (H5:Hp),s5.heap.Ns C m5->(∀h',Heap.SameBut C s5.heap h'->Inv X pins σ0 H5 { s5 with heap:=h' })->Q0 (.ref D) H5->H5 C=none->C≠X.env.locals->X.s₀.heap.objs.size<=C->(∀y c,X.env.cells.lookup y=some c->c≠C)->(∀p∈X.pn++pins,p.1≠C)->compPost (model X.prog X.w) X.A X.xe use PP (.ref D) C (.ok .next) s5):
 wpAny (model X.prog X.w) X.A (comprehension (.ListComp elt [⟨tg,iter,ifs,0⟩] scope pos) scope X.env pos' (newList []) false (eval iter X.env) use) PP X.xe s:=by
 subst hX;subst hN;obtain⟨σ,M,Q,hst,hv,ht,hk⟩:=hw;obtain⟨cl,hclos,hcl1,hcl2⟩:=TZ scope λy hy hf=>I.ok.has y.1 (eD y hy hf)
 refine wpAny_comprehension_free (use:=use) (cl:=cl) rfl hs hclos bH cj ?_;refine gw (hi pins s σ0 H (λJ H1=>∃xs ok un M1,Ext H H1/\View X.K H1 M1/\gX X.H₀ H X.K J xs ok un H1/\xs.length<sizeLine/\gb bd md ok un tt te ((caps.map Prod.fst).map λi=>(σ[i]?).join) xs [] M1 Q) I ⟨σ,M,_,hst,hv,ht,λxs ok un M' J H' q e w hJ=>⟨xs,ok,un,M',e,w,hJ,q.1,q.2⟩⟩)
  (λv s1 h1=>gw h1 (λitv s2 h2=>?_) λ_ _ e=>e) λ_ _ e=>e
 obtain⟨it,fp,tn,J,H2,rfl,I2,T,st2,f2,xs,ok,un,M1,e2,w2,hJ,hz,hq⟩:=h2;have mH:∀b∈fp,b<s2.heap.objs.size:=λb hb=>by obtain⟨o,e,_⟩:=T.obj _ _ st2 b hb;exact bA e
 refine j8 (wpAny_newFunctionEnv bD (by intro y hy;simp at hy) (λh₁ hns₁ hsb₁=>?_) bH)
 dsimp only at hns₁ hsb₁ ⊢;generalize hH2:s2.heap.push { cls:=.type "list",dict:=none,data:=.seq ([]:ak).toArray }=hp2 at hns₁ hsb₁ ⊢;have hCs:hp2.objs.size=s2.heap.objs.size+1:=by rw[<-hH2,Heap.size_push]
 have hDC:s2.heap.objs.size≠hp2.objs.size:=by rw[hCs];exact cE (Nat.lt_succ_self _)
 have hCle:s2.heap.objs.size<=hp2.objs.size:=by rw[hCs];exact iU _
 have old:∀b o,s2.heap.get? b=some o->h₁.get? b=some o:=λb o e=>hsb₁.extBut b o (cE (by rw[hCs];exact zO (bA e))) (bz _ (hH2 ▸ bz _ e))
 have hacc:h₁.get? s2.heap.objs.size=some { cls:=.type "list",data:=.seq ([]:ak).toArray }:=hsb₁.extBut _ _ hDC (bz _ (hH2 ▸ dv _ rfl));generalize hD:s2.heap.objs.size=D at*;generalize hCg:hp2.objs.size=C at*;have hDfp:∀b∈fp,b≠D:=λb hb=>cE (mH b hb)
 have okB:(cW X scope cl C (nm++caps.map Prod.snd) s2 H2 fp).Ok:=Zu I2 f2 (by rw[hD];exact mH) bH (by rw[hD];exact hCle) hcl1 hcl2 bD
 have fr:∀b,D<=b->H2 b=none:=λb hb=>I2.av.fresh (by rw[hD];exact hb)
 have capsV:∃cv:List (Option V),cv.length=caps.length/\(∀(j:Nat) v,cv[j]? =some (some v)->∃p,caps[j]? =some p/\σ0[p.1]? =some (some v))/\
  ∀(j:Nat) r,((caps.map Prod.fst).map λi=>(σ[i]?).join)[j]? =some (some r)->∃v,cv[j]? =some (some v)/\Rep X.K H2 r v:=by
  refine⟨caps.map λp=>(σ0[p.1]?).join,by simp,λj v e=>?_,λj r e=>?_⟩
  . rw[fJ]at e
    cases q:caps[j]? with
    |none=>rw[q]at e;cases e
    |some p=>
     rw[q]at e;have e':(σ0[p.1]?).join=some v:=dz e;refine⟨p,rfl,?_⟩;cases z:σ0[p.1]? with
     |none=>rw[z]at e';cases e'
     |some o=>rw[z]at e';have:o=some v:=e';rw[this]
  . rw[fJ,fJ]at e
    cases q:caps[j]? with
    |none=>rw[q]at e;cases e
    |some p=>
     rw[q]at e;have e':(σ[p.1]?).join=some r:=dz e;have e'':σ[p.1]? =some (some r):=by
      cases z:σ[p.1]? with
      |none=>rw[z]at e';cases e'
      |some o=>rw[z]at e';have:o=some r:=e';rw[this]
     obtain⟨v,h1,h2⟩:=hst.2 p.1 r e'';refine⟨v,?_,Rep.ext e2 r v h2⟩;rw[fJ,q];show some ((σ0[p.1]?).join)=_;rw[h1];rfl
 obtain⟨cv,cvl,cv1,cv2⟩:=capsV;have I3:Inv (cW X scope cl C (nm++caps.map Prod.snd) s2 H2 fp) [(D,{ cls:=.type "list",data:=.seq ([]:ak).toArray })] (List.replicate nm.length none++cv) H2 { s2 with heap:=h₁,toks:=s2.toks+([]:List (Str×Value)).length }:=by
  refine⟨okB,rfl,I2.bare,Un.kept old,⟨_,hns₁,λi y v a b c=>?_⟩,λy c e=>?_,fr C hCle,λy c e=>I2.bM y c (hcl1 y c e),λp hp=>?_,I2.av.kept old,?_⟩
  . by_cases hi0:i<nm.length
    . rw[qM (by rw[zK];exact hi0),List.getElem?_replicate]at b
      split at b<;>cases b
    . obtain⟨j,rfl⟩:=Nat.exists_eq_add_of_le (Nat.le_of_not_lt hi0)
      rw[List.getElem?_append_right (by rw[zK];omega),zK,zS]at b
      have a:(caps.map Prod.snd)[j]? =some y:=by
       have a':(nm++caps.map Prod.snd)[nm.length+j]? =some y:=a;rw[List.getElem?_append_right (by omega),zS]at a';exact a'
      obtain⟨p,q1,q2⟩:=cv1 j v b;have hy:p.2=y:=by
       have a':(caps.map Prod.snd)[j]? =some y:=a;rw[fJ,q1]at a';exact dz a'
      subst hy;obtain⟨z1,z2,z3⟩:=fu p (jH q1);obtain⟨m,hn,hl⟩:=I2.loc;have zJ:qX X.env.scope p.2:=by rcases z3 with z|z;exact .inr (.inl z);exact .inr (.inr z)
      obtain⟨u,ru,lk⟩:=hl p.1 p.2 v z1 q2 zJ;refine⟨u,ru,.inr ⟨Jp z2,?_⟩⟩;obtain⟨c,ec⟩:=hcl2 (p.2,.free) (PySem.mem_of_lookup z2) rfl;have ec':=hcl1 p.2 c ec;rcases lk with⟨k,_⟩|⟨_,c',e',ic⟩
      . have k':X.env.scope.names.lookup p.2=some .local:=k
        rcases z3 with z|z<;>(rw[z]at k';cases k')
      . rw[ec']at e';cases e'
        obtain⟨o,ho,hd⟩:=ic;exact⟨c,ec,o,old c o ho,hd⟩
  . obtain⟨v,o,ho,hd⟩:=I2.cell y c (hcl1 y c e)
    exact⟨v,o,old c o ho,hd⟩
  . have hp':p=(D,{ cls:=.type "list",data:=.seq ([]:ak).toArray }):=by simpa[cW]using hp
    subst hp';refine⟨hacc,fr D (aN _),hDC,λz=>?_,λv=>by simp⟩
    have:=I2.fH D z;rcases fw.mp (I2.fI D z)with e|e
    . exact aS I2.lt (by rw[<-e,hD];exact ke _)
    . exact I2.t9 (by rw[hD];exact aN _) e
  . show(List.replicate nm.length none++cv).length=(nm++caps.map Prod.snd).length
    simp[cvl]
 have W:∀s3:Shared,s3= { s2 with heap:=h₁,toks:=s2.toks+([]:List (Str×Value)).length }->codeAny (model X.prog X.w) X.A (.compLoop (.ListComp elt [⟨tg,iter,ifs,0⟩] scope pos) 0 (.ref it) (.ref D) (compEnvC scope cl C X.env))
  (compPost (model X.prog X.w) X.A X.xe use PP (.ref D) C) s3:=by
  rintro s3 rfl;refine Uu (λn s'=>∃(i:Nat) (v0:List (Option V)) (H':Hp) (M':RM) (accR:LR) (accV:LV) (ab:ak) (k:Nat),n=xs.length-i/\v0.length=nm.length/\i<=xs.length/\accR.length<=i/\
   Inv (cW X scope cl C (nm++caps.map Prod.snd) s2 H2 fp) [(D,{ cls:=.type "list",data:=.seq ab.toArray k })] (v0++cv) H' s'/\View X.K H' M'/\Ext H2 H'/\aa X.K H' accR accV/\Vals accV ab/\tn i s'.heap/\(∀b∈fp,H' b=none)/\
   gb bd md ok un tt te ((caps.map Prod.fst).map λi=>(σ[i]?).join) (xs.drop i) accR M' Q) ?_ xs.length ⟨0,List.replicate nm.length none,H2,M1,[],[],[],0,rfl,by simp,jN _,aN _,I3,w2,.refl _,aa.nil,.nil,T.keep _ _ _ st2 λb _ o e=>old b o e,λb hb=>(f2 b hb).1,by simpa using hq⟩
  rintro n s' ⟨i,v0,H',M',accR,accV,ab,k,rfl,hv0,hi,hal,I4,w4,e4,ra,rl,st4,f4,hq4⟩;have fpB:∀(pins':aH) (H'':Hp),(∀b∈fp,H'' b=none)->(∀p∈pins',∀b∈fp,p.1≠b)->∀b∈fp,ni (cW X scope cl C (nm++caps.map Prod.snd) s2 H2 fp) pins' H'' b:=λpins' H'' h1 h2 b hb=>
   ⟨h1 b hb,(okB.tW b hb).1,okB.ib b hb,.inl hb,(okB.tW b hb).2,λp hp=>h2 p (by simpa[cW]using hp) b hb⟩
  have pD:∀(o:Obj),∀p∈[(D,o)],∀b∈fp,p.1≠b:=λo p hp b hb=>by
   have:p=(D,o):=by simpa using hp
   subst this;exact(hDfp b hb).symm
  by_cases hlt:i<xs.length
  . have ed:xs.drop i=xs[i]::xs.drop (i+1):=by simp
    rw[ed]at hq4;obtain⟨av,hq4⟩:=hq4;obtain⟨hgo,hy⟩:=hJ.turn i H' M' e4 w4 av xs[i] (by simp)
    refine az (T.item (cW X scope cl C (nm++caps.map Prod.snd) s2 H2 fp) rfl rfl rfl hc i _ s' _ H' Nv I4 (fpB _ _ f4 (pD _)) st4 hgo) λr s5 ⟨u,hr,h5⟩=>.inr ⟨u,hr,?_⟩
    refine az h5 λ_ s6 zz=>?_;obtain⟨xv,H6,I6,r6,y6,st6,f6⟩:=zz
    obtain⟨e6,w6,rr6⟩:=hy xv H6 y6;have I6':=I6.pinned (fpB _ _ f6 (pD _)) (T.obj _ _ st6);obtain⟨bs,ebs,hq4⟩:∃bs,bd xs[i]=some bs/\tt (bs.map some++(caps.map Prod.fst).map λi=>(σ[i]?).join) M' λc M1=>(c=true->te (bs.map some++(caps.map Prod.fst).map λi=>(σ[i]?).join) M1 λv M2=>gb bd md ok un tt te ((caps.map Prod.fst).map λi=>(σ[i]?).join) (xs.drop (i+1)) (accR++ [v]) M2 Q)/\(c=false->gb bd md ok un tt te ((caps.map Prod.fst).map λi=>(σ[i]?).join) (xs.drop (i+1)) accR M1 Q):=by
     split at hq4
     . rename_i bs e;exact⟨bs,e,hq4⟩
     . exact hq4.elim
    refine hpg cl C s2 H2 fp _ s6 v0 cv H6 xs[i] xv u bs _ hv0 I6' r6 rr6 ebs λvs6 s7 rp6 I7=>?_
    have lv6:vs6.length=nm.length:=by rw[<-rp6.length];exact hb _ _ ebs
    have base:∀{Hx:Hp},Ext H6 Hx->aU X.K Hx (bs.map some++(caps.map Prod.fst).map λi=>(σ[i]?).join) (vs6.map some++cv):=λ{Hx} ex=>by
     have lb:=rp6.length;refine⟨by simp[cvl,lb],λj r e=>?_⟩
     by_cases hj:j<bs.length
     . rw[qM (by simpa using hj),fJ]at e
       cases q:bs[j]? with
       |none=>rw[q]at e;cases e
       |some r'=>
        rw[q]at e;have:r'=r:=dz (dz e);subst this;obtain⟨v,q1,q2⟩:=rp6.get q;exact⟨v,by rw[qM (by rw[ba];omega),fJ,q1];rfl,Rep.ext ex _ _ q2⟩
     . obtain⟨k,rfl⟩:=Nat.exists_eq_add_of_le (Nat.le_of_not_lt hj)
       rw[List.getElem?_append_right (by simp),ba,zS]at e
       obtain⟨v,q1,q2⟩:=cv2 k r e;exact⟨v,by rw[List.getElem?_append_right (by rw[ba];omega),ba,<-lb,zS];exact q1,Rep.ext (e4.trans (e6.trans ex)) r v q2⟩
    have next:∀(M8:RM) (H8:Hp) (s8:Shared) (accR':LR) (accV':LV) (its':ak) (k':Nat),accR'.length<=i+1->
     Inv (cW X scope cl C (nm++caps.map Prod.snd) s2 H2 fp) ([(D,{ cls:=.type "list",data:=.seq its'.toArray k' })]++nT fp s6.heap) (vs6.map some++cv) H8 s8->View X.K H8 M8->Ext H6 H8->aa X.K H8 accR' accV'->Vals accV' its'->
     gb bd md ok un tt te ((caps.map Prod.fst).map λi=>(σ[i]?).join) (xs.drop (i+1)) accR' M8 Q->∃m,m<xs.length-i/\∃(i:Nat) (v0:List (Option V)) (H':Hp) (M':RM) (accR:LR) (accV:LV) (ab:ak) (k:Nat),m=xs.length-i/\v0.length=nm.length/\i<=xs.length/\accR.length<=i/\
     Inv (cW X scope cl C (nm++caps.map Prod.snd) s2 H2 fp) [(D,{ cls:=.type "list",data:=.seq ab.toArray k })] (v0++cv) H' s8/\View X.K H' M'/\Ext H2 H'/\aa X.K H' accR accV/\Vals accV ab/\tn i s8.heap/\(∀b∈fp,H' b=none)/\
     gb bd md ok un tt te ((caps.map Prod.fst).map λi=>(σ[i]?).join) (xs.drop i) accR M' Q:=by
     intro M8 H8 s8 accR' accV' its' k' hl' I8 w8 e8 ra' rl' hq8;have keep8:∀b∈fp,∀o,s6.heap.get? b=some o->s8.heap.get? b=some o/\H8 b=none:=λb hb o e=>by
      have:=I8.pin (b,o) (iP _ (iP _ (AH hb e)));exact⟨this.1,this.2.1⟩
     refine⟨xs.length-(i+1),by omega,i+1,vs6.map some,H8,M8,accR',accV',its',k',rfl,by rw[ba];exact lv6,hlt,hl',I8.c8,w8,e4.trans (e6.trans e8),ra',rl',T.keep _ _ _ st6 λb hb o e=>(keep8 b hb o e).1,λb hb=>?_,hq8⟩
     obtain⟨o,e,_⟩:=T.obj _ _ st6 b hb;exact(keep8 b hb o e).2
    refine az (hif cl C s2 H2 fp _ s7 _ H6 (λoc H8=>∃M8,View X.K H8 M8/\Ext H6 H8/\(oc=true->te (bs.map some++(caps.map Prod.fst).map λi=>(σ[i]?).join) M8 λv M2=>gb bd md ok un tt te ((caps.map Prod.fst).map λi=>(σ[i]?).join) (xs.drop (i+1)) (accR++ [v]) M2 Q)/\
     (oc=false->gb bd md ok un tt te ((caps.map Prod.fst).map λi=>(σ[i]?).join) (xs.drop (i+1)) accR M8 Q)) I7 ⟨_,M',_,base (.refl _),w6 M' w4,hq4,λb M8 H8 q e w=>⟨M8,w,e,q.1,q.2⟩⟩) λoc s8 ⟨H8,I8,M8,w8,e8,qt,qf⟩=>?_
    cases oc with
    |false=>
     exact next M8 H8 s8 accR accV ab k (by omega) I8 w8 e8 (aa.ext (e6.trans e8) _ _ ra) rl (qf rfl)
    |true=>
     refine az (hel cl C s2 H2 fp _ s8 _ H8 (λv H9=>∃rv M9,View X.K H9 M9/\Ext H8 H9/\Rep X.K H9 rv v/\gb bd md ok un tt te ((caps.map Prod.fst).map λi=>(σ[i]?).join) (xs.drop (i+1)) (accR++ [rv]) M9 Q) I8 ⟨_,M8,_,base e8,w8,qt rfl,λrv M9 v H9 q e w r=>⟨rv,M9,w,e,r,q⟩⟩) λy s9 zz=>?_;obtain⟨yv,H9,I9,r9,rv,M9,w9,e9,rr9,hq9⟩:=zz
     have pD9:=I9.pin (D,{ cls:=.type "list",data:=.seq ab.toArray k }) (iP _ (zL _ iR));have hlen:ab.length<=i:=by rw[<-rl.length,<-ra.length];exact hal
     refine call_meets F.slot_list_append ⟨_,pD9.1,rfl⟩ F.entry_list_append (F.args_list_append_2 _ _) (PySem.list_append D ab.toArray k y (by rw[dW];omega)) ⟨pD9.1,?_⟩
     have q:=PySem.IsL.update pD9.1 (λx_1=>x_1.push y)
     have hpush:ab.toArray.push y=(ab++ [y]).toArray:=by simp
     rw[hpush]at q;obtain⟨k',q⟩:∃k',(s9.heap.update D (Obj.mapSeq λx_1=>x_1.push y)).get? D=some { cls:=.type "list",data:=.seq (ab++ [y]).toArray k' }:=⟨_,q⟩
     have I10:Inv (cW X scope cl C (nm++caps.map Prod.snd) s2 H2 fp) (nT fp s6.heap) (vs6.map some++cv) H9 { s9 with heap:=s9.heap.update D (Obj.mapSeq λx_1=>x_1.push y),toks:=s9.toks }:=by
      refine Inv.turned (it:=D) (I9.eE λp hp=>I9.pin p (iP _ (iP _ hp))) (λb o hb e=>(Heap.get?_update_other _ _ (cN hb)).trans e) pD9.2.1 pD9.2.2.1 (.inr (by show s2.heap.objs.size<=D;rw[hD];exact aN _)) (λz c e=>?_) λp hp=>?_
      . obtain⟨v,o,ho,hd⟩:=I2.cell z c (hcl1 z c e)
        exact cE (by have:=bA ho;rw[hD]at this;exact this)
      . have hp':p∈nT fp s6.heap:=by simpa[cW]using hp
        exact hDfp p.1 (J2 hp').1
     have I11:Inv (cW X scope cl C (nm++caps.map Prod.snd) s2 H2 fp) ([(D,{ cls:=.type "list",data:=.seq (ab++ [y]).toArray k' })]++nT fp s6.heap) (vs6.map some++cv) H9 { s9 with heap:=s9.heap.update D (Obj.mapSeq λx_1=>x_1.push y),toks:=s9.toks }:=by
      refine I10.eE λp hp=>?_
      rcases eS.mp hp with hp|hp
      . have:p=(D,{ cls:=.type "list",data:=.seq (ab++ [y]).toArray k' }):=by simpa using hp
        subst this;exact⟨q,pD9.2.1,pD9.2.2.1,pD9.2.2.2.1,λv=>by simp⟩
      . exact I10.pin p (iP _ hp)
     exact next M9 H9 _ (accR++ [rv]) (accV++ [yv]) (ab++ [y]) k' (by rw[fe,List.length_singleton];omega) I11 w9 (e8.trans e9) ((aa.ext (e6.trans (e8.trans e9)) _ _ ra).append (aa.cons rr9 aa.nil)) (rl.append (.cons r9 .nil)) hq9
  . have ei:i=xs.length:=by omega
    subst ei;refine az (T.done (cW X scope cl C (nm++caps.map Prod.snd) s2 H2 fp) rfl rfl rfl hc _ _ s' _ H' Nv I4 (fpB _ _ f4 (pD _)) st4 (hJ.stop _ H' M' e4 w4 (by rw[List.drop_length]at hq4;exact hq4.1) (aN _))) λr s5 ⟨hr,I5⟩=>.inl ⟨hr,?_⟩
    rw[List.drop_length]at hq4;obtain⟨hok4,hq4⟩:=hq4;obtain⟨m5,hn5,_⟩:=I5.loc;have pD5:=I5.pin (D,{ cls:=.type "list",data:=.seq ab.toArray k }) (iP _ iR);have hC5:H' C=none:=I5.free;have lC:X.env.locals<C:=fq I2.lt (by rw[hD];exact hCle)
    obtain⟨HD,oHD,wHD,qHD⟩:∃HD:HO,(∀h':Heap,h'.get? D=some { cls:=.type "list",data:=.seq ab.toArray k }->accV.length<=sizeLine->aD X.prog X.w (upd H' D HD) h' D HD)/\(∀o u,HD= .aZ o u->jz u=false)/\∃H5,eJ X.H₀ (upd H' D HD) H5/\Q0 (.ref D) H5/\H5 C=none:=by
     have keyD:∀(HD:HO),∃H5,eJ X.H₀ (upd H' D HD) H5/\H5 C=none/\∃H4,bp H' H4/\Ext H H4/\View X.K H4 (un M')/\H4 D=none/\H5=upd H4 D HD:=λHD=>by
      obtain⟨H4,t4,e4',x4',v4⟩:=hJ.cb H' M' e4 w4 hok4;rcases t4 with h4|⟨d,ob,u,h1,du,h0,rfl⟩
      . rw[h4]at v4 x4'
        exact⟨_,.inl rfl,by rw[aE (cN hDC)];exact hC5,H',(Ext.refl _).w,x4',v4,pD5.2.1,rfl⟩
      . have nd:d≠D:=λz=>by rw[z,pD5.2.1]at h1;cases h1
        have nc:d≠C:=λz=>by rw[z,hC5]at h1;cases h1
        have h1':upd H' D HD d=some (.aZ ob u):=by rw[aE nd];exact h1
        have eq:upd (upd H' D HD) d u=upd (upd H' d u) D HD:=by
         funext b;unfold upd
         by_cases b1:b=d
         . subst b1;rw[ah rfl,ae nd,ah rfl]
         . rw[ae b1]
           by_cases b2:b=D
           . rw[ah b2,ah b2]
           . rw[ae b2,ae b2,ae b1]
        exact⟨_,.inr ⟨d,ob,u,h1',du,h0,rfl⟩,by rw[aE nc.symm,aE (cN hDC)];exact hC5,_,e4',x4',v4,by rw[aE nd.symm];exact pD5.2.1,eq⟩
     cases md with
     |false=>
      obtain⟨H5,t5,c5,H4,x4,y4,v4,n4,rfl⟩:=keyD (.aZ { cls:=.type "list",data:=.seq ab.toArray k } (.lst accV));exact⟨.aZ { cls:=.type "list",data:=.seq ab.toArray k } (.lst accV),λh' e z=>⟨e,z,ab,k,rl,e⟩,λo u z=>by cases z;rfl,_,t5,hk _ _ _ _ hq4 (y4.trans (Ext.new n4)) (v4.new n4) (js n4 (aa.aX x4 _ _ ra)),c5⟩
     |true=>
      obtain⟨H5,t5,c5,H4,x4,y4,v4,n4,rfl⟩:=keyD (.lst accV);exact⟨.lst accV,λh' e z=>⟨z,ab,k,rl,e⟩,λo u z=>(by cases z),_,t5,hk _ _ _ _ (hq4 D (v4.free n4)) (y4.trans (Ext.new n4)) (v4.cV n4 ⟨accV,rfl,aa.aX (x4.trans (Ext.new n4).w) _ _ ra⟩) (by simp only[Rep]),c5⟩
    obtain⟨H5,t5,q5,c5⟩:=qHD;refine fin D C s5 m5 H5 hn5 (λh' sb=>t5.inv ?_) q5 c5 (Nat.ne_of_gt lC) (bQ I2.ok.above (kh lC)) (λy c e=>?_) λp hp=>?_
    rotate_left
    . obtain⟨v,o,ho,_⟩:=I2.cell y c e
      exact cE (fq (bA ho) (by rw[hD];exact hCle))
    . exact cE (fq (bA (I2.pin p hp).1) (by rw[hD];exact hCle))
    have hDh:h'.get? D=some { cls:=.type "list",data:=.seq ab.toArray k }:=sb.extBut _ _ hDC pD5.1;have hz':accV.length<=sizeLine:=by rw[<-ra.length];omega
    have hok5:cJ X.prog X.w (upd H' D HD) h':=λb u q=>by
     by_cases hb:b=D
     . subst hb;rw[c0]at q;cases q
       exact oHD h' hDh hz'
     . rw[aE hb]at q
       refine(I5.av b u q).ej (λc v hcb e=>sb.extBut c v ?_ e) (λc e=>?_) λc ys e=>?_
       . rcases hcb with rfl|e'
         . exact d9 q hC5
         . exact d9 e' hC5
       . rw[aE (d9 e pD5.2.1)];exact e
       . rw[aE (d9 e pD5.2.1)];exact e
    have un5:Un (ik X.stack) fp H2 (upd H' D HD) s2.heap h':=by
     have B:Un (ik X.stack) fp H2 H' s2.heap s5.heap:=I5.base;have nC:∀b o,s2.heap.get? b=some o->b≠C:=λb o e=>cE (fq (bA e) (by rw[hD];exact hCle))
     have nD:∀b o,s2.heap.get? b=some o->b≠D:=λb o e=>cE (by have:=bA e;rw[hD]at this;exact this)
     refine⟨λb o a1 a2 a3 a4=>sb.extBut b o (nC b o a1) (B.keep b o a1 a2 a3 a4),λb o a1 a2 a3 a4=>?_,λb o a1 a2 a4=>?_,λb o a1 a4=>?_,λb ys a=>?_,λb o u a=>?_,λb ps a=>?_⟩
     . obtain⟨sl,e⟩:=B.slot b o a1 a2 a3 a4
       exact⟨sl,sb.extBut b _ (nC b o a1) e⟩
     . rw[aE (nD b o a1)];exact B.free b o a1 a2 a4
     . obtain⟨o',e⟩:=B.there b o a1 a4
       exact⟨o',sb.extBut b o' (nC b o a1) e⟩
     . have e:=B.bj b ys a;rw[aE (d9 e pD5.2.1)];exact e
     . have e:=B.aK b o u a;rw[aE (d9 e pD5.2.1)];exact e
     . obtain⟨more,e⟩:=B.et b ps a;exact⟨more,by rw[aE (d9 e pD5.2.1)];exact e⟩
    have I6:Inv X pins σ0 (upd H' D HD) { s5 with heap:=h' }:=I2.tN (ch:=fp) I5.os un5 hok5 I5.bare λb hb=>⟨(f2 b hb).2.2.2.1,(f2 b hb).2.1,(f2 b hb).2.2.2.2.1,(f2 b hb).2.2.2.2.2⟩
    exact I6
 exact codeAny_compStart_list (W _ rfl) (T.self X.A 0 _ _ _ (T.keep _ _ _ st2 λb _ o e=>old b o e) (W _ rfl))
noncomputable def nY:bb->Option (aB)
 | []=>some []
 | .Name x _::r=>(nY r).map (x:: ·)
 |_::_=>none
noncomputable def Q2 (n:Nat):RV->Option (LR)
 | .tup xs=>if xs.length=n then some xs else none
 |_=>none
def Q3(r:RV):Option (LR):=some [r]
theorem K7{es:bb}{xs:aB}:∀(es:bb) (xs:aB) (j:Nat),nY es=some xs->X.N.Nodup->(∀i x,xs[i]? =some x->X.N[j+i]? =some x)->(∀x∈xs,X.env.scope.names.lookup x=some .local)->oH X es (nj (List.range' j xs.length))/\(assignEach es X.env).length=xs.length/\(assignEach es X.env).findIdx? (·.1)=none
 | [],xs,j,h,_,_,_=>by cases h;exact⟨LF,rfl,rfl⟩
 |e::r,xs,j,h,jQ,hN,hl=>by
  cases e<;>first|(cases h;done)|skip
  rename_i x p;cases e:nY r with
  |none=>simp only[nY,e]at h;cases h
  |some ys=>
   simp only[nY,e]at h;cases h;obtain⟨a,b,c⟩:=K7 (es:=es) (xs:=xs) r ys (j+1) e jQ (λi y d=>by have:=hN (i+1) y (by simpa using d);rw[<-this];congr 1;omega) λy d=>hl y (gv _ d)
   have hx:=hl x iR;have f:(assignEach (.Name x p::r) X.env)=(false,assign (.Name x p) X.env)::assignEach r X.env:=rfl;refine⟨?_,by rw[f,cQ,b];rfl,?_⟩
   . rw[cQ,List.range'_succ]
     exact K1 (yC (i:=j) jQ (by simpa using hN 0 x rfl) (.inl hx) (.inr hx)) a
   . rw[f,List.findIdx?_cons,c];rfl
theorem L4:∀(vs:LV) (pre vs0 cv:List (Option V)),vs0.length=vs.length->Q (pre++(vs.map some++cv)) H->nj (List.range' pre.length vs.length) vs (pre++(vs0++cv)) H Q
 | [],pre,vs0,cv,h,q=>by
  have:vs0= []:=List.eq_nil_of_length_eq_zero h;subst this;exact⟨rfl,q⟩
 |v::vs,pre,vs0,cv,h,q=>by
  cases vs0 with
  |nil=>cases h
  |cons o r=>
   rw[cQ,List.range'_succ];refine⟨v,vs,rfl,?_⟩;show nj _ vs ((pre++(o::r++cv)).set pre.length (some v)) H Q;have e:(pre++(o::r++cv)).set pre.length (some v)=(pre++ [some v])++(r++cv):=by simp
   rw[e];have:=L4 (H:=H) (Q:=Q) vs (pre++ [some v]) r cv (by simpa using h) (by simpa using q)
   simpa using this
def vY(tup:Bool)(tg:Expr)(nm:aB):Prop:=match tup,tg with
 |false,.Name x _=>nm= [x]
 |true,.Tuple es _ _=>nY es=some nm
 |_,_=>False
def fv(tup:Bool)(n:Nat):RV->Option (LR):=match tup with
 |true=>Q2 n
 |false=>Q3
theorem KO{elt iter tg:Expr}{nm:aB}{tup md:Bool}(caps:List (Nat×Str)){osc:Scope}{oN:aB}(htg:vY tup tg nm)
 (hc:X.calm=true) (hi:hG X tg iter ti)
 (hif:∀cl C s H fp,qy (cW X scope cl C (nm++caps.map Prod.snd) s H fp) ifs tt)
 (hel:∀cl C s H fp,ai (cW X scope cl C (nm++caps.map Prod.snd) s H fp) elt te)
 (hX:X.env.scope=osc) (hN:X.N=oN)
 (fu:∀p∈caps,oN[p.1]? =some p.2/\scope.names.lookup p.2=some .free/\(osc.names.lookup p.2=some .cell∨osc.names.lookup p.2=some .free))
 (eD:∀y∈scope.names,y.2= .free->(osc.names.lookup y.1=some .cell∨osc.names.lookup y.1=some .free))
 (bD:∀y∈scope.names,y.2≠.cell) (bH:scope.kind= .function) (cj:∀y∈scope.names,y.2= .local->scope.names.lookup y.1=some .local) (hx:∀x∈nm,scope.names.lookup x=some .local) (jQ:(nm++caps.map Prod.snd).Nodup)
 (hs:∀v,foldedSetIterable iter X.env v=pure v) {s:Shared} (I:Inv X pins σ0 H s) (hw:up X.K (rZ (fv tup nm.length) md ti (caps.map Prod.fst) tt te) σ0 H Q0)
 (fin:∀(D C:Addr) (s5:Shared) (m5:bq) (H5:Hp),s5.heap.Ns C m5->(∀h',Heap.SameBut C s5.heap h'->Inv X pins σ0 H5 { s5 with heap:=h' })->Q0 (.ref D) H5->H5 C=none->C≠X.env.locals->X.s₀.heap.objs.size<=C->(∀y c,X.env.cells.lookup y=some c->c≠C)->(∀p∈X.pn++pins,p.1≠C)->compPost (model X.prog X.w) X.A X.xe use PP (.ref D) C (.ok .next) s5):
 wpAny (model X.prog X.w) X.A (comprehension (.ListComp elt [⟨tg,iter,ifs,0⟩] scope pos) scope X.env pos' (newList []) false (eval iter X.env) use) PP X.xe s:=by
 refine Uv (bd:=fv tup nm.length) (md:=md) (nm:=nm) caps hc hi hif hel hX hN fu eD bD bH cj (λr bs e=>?_) (λcl C s2 H2 fp pins' s6 vs0 cv H6 rv xv u bs Q1 hl I6 r6 rr6 eb hQ=>?_) hs I hw fin
 . cases tup with
   |false=>
    cases tg<;>first|(exact False.elim htg)|skip
    have htg:nm=_:=htg;subst htg;cases e;rfl
   |true=>
    cases r<;>first|(cases(show none=some bs from e))|skip
    rename_i xs;have e':(if xs.length=nm.length then some xs else none)=some bs:=e
    split at e'
    . rename_i hh;cases e';exact hh
    . cases e'
 . have hls:∀x∈nm,(cW X scope cl C (nm++caps.map Prod.snd) s2 H2 fp).env.scope.names.lookup x=some .local:=λx h=>lookup_relabel_local (hx x h)
   cases tup with
   |false=>
    cases tg<;>first|(exact False.elim htg)|skip
    rename_i x px;have htg:nm=_:=htg;subst htg;cases eb;obtain⟨v0,rfl⟩:=List.length_eq_one_iff.mp hl;have hx0:=hls x (by simp)
    refine az (yC (X:=cW X scope cl C (x::caps.map Prod.snd) s2 H2 fp) (i:=0) jQ rfl (.inl hx0) (.inr hx0) _ s6 _ H6 xv u (λσ' H'=>σ'=(some xv::cv)/\H'=H6) I6 r6 ⟨rfl,rfl⟩) λ_ s7 h7=>?_
    obtain⟨σ7,H7,I7,q7,q7'⟩:=h7;subst q7 q7';exact hQ [xv] s7 (aa.cons rr6 aa.nil) I7
   |true=>
    cases tg<;>first|(exact False.elim htg)|skip
    rename_i es tk tp;have htg:nY es=some nm:=htg;cases rv<;>first|(cases(show none=some bs from eb))|skip
    rename_i xs;have e':(if xs.length=nm.length then some xs else none)=some bs:=eb
    split at e'
    . rename_i hh;cases e'
      simp only[Rep]at rr6;obtain⟨pa,pvs,rfl,sq6,rp6⟩:=rr6;have hlen:pvs.length=nm.length:=by rw[<-rp6.length];exact hh
      obtain⟨g1,g2,g3⟩:=K7 (X:=cW X scope cl C (nm++caps.map Prod.snd) s2 H2 fp) (es:=es) (xs:=nm) es nm 0 htg jQ (λi x e=>by
       show(nm++caps.map Prod.snd)[0+i]? =some x;rw[jf,qM (jG.mp e).1];exact e) hls
      have pg:PG (cW X scope cl C (nm++caps.map Prod.snd) s2 H2 fp) (.Tuple es tk tp) (GN X.K nm.length (nj (List.range' 0 nm.length))):=Mb (n:=nm.length) hc g1 g2 g3;refine az (pg _ s6 _ H6 _ u (λσ' H'=>σ'=(pvs.map some++cv)/\H'=H6) I6 r6 ⟨pa,pvs,rfl,bL.of sq6,hlen,?_⟩) λ_ s7 h7=>?_
      . have:=L4 (H:=H6) (Q:=λσ' H'=>σ'=(pvs.map some++cv)/\H'=H6) pvs [] vs0 cv (by rw[hlen];exact hl) ⟨rfl,rfl⟩
        rw[hlen]at this;exact this
      . obtain⟨σ7,H7,I7,q7,q7'⟩:=h7
        subst q7 q7';exact hQ pvs s7 rp6 I7
    . cases e'
end
noncomputable def fT:RV->Option Key
 | .int i=>some (.inl i)
 | .str x=>some (.inr x)
 |_=>none
noncomputable def eY(kvs:List (Key×α))(k:Key):Option α:=(kvs.find? λp=>decide (p.1=k)).map (·.2)
theorem rM{K:ag}{a:RV}{x:V}(e:fT a=some k)(r:Rep K H a x):x=kV k:=by
 cases a with
 |int i=>cases e;simp only[Rep]at r;exact r
 |str y=>cases e;simp only[Rep]at r;exact r
 |_=>cases e
theorem xK{K:ag}:∀{kvs:bT} {ws:List (Key×V)},aF K H kvs ws->(∀r,eY kvs k=some r->∃v,fQ ws k=some v/\Rep K H r v)/\(eY kvs k=none->fQ ws k=none)
 | [],ws,h=>by
  have h:ws= []:=h;subst h;exact⟨λr e=>(by cases e),λ_=>rfl⟩
 |(j,x)::t,ws,h=>by
  obtain⟨v,u,rfl,c,d⟩:=h;have b:=xK (k:=k) d;unfold eY;rw[jF]
  by_cases a:j=k
  . rw[fK (show(j,x).1=k from a)]
    refine⟨λr e=>⟨v,vb (p:=(j,v)) a,?_⟩,λe=>(by cases e)⟩
    cases e;exact c
  . rw[gH (show ¬(j,x).1=k from a)]
    refine⟨λr e=>?_,λe=>?_⟩
    . rw[pP (p:=(j,v)) a];exact b.1 r e
    . rw[pP (p:=(j,v)) a];exact b.2 e
structure KTab(P:Program)(w:World)(K:ag)(mg:bq)(x:Str)(kvs:bT):Prop where
 ex:∃(a:Addr) (vs:List (Key×Value)) (ws:List (Key×V)),mg x=some (.ref a)/\(a==sysModules)=false/\(∀h:Heap,K.In h->h.DictOf (c6 P w) a vs)/\KV ws vs/\∀H,aF K H kvs ws
noncomputable def vQ (w:World):List DictEntry->List (Str×Value)->Prop
 | [],[]=>True
 |e::es,(x,v)::r=>(∃t,e.key= .str x t)/\e.hash=hashStr w x/\e.val=v/\vQ w es r
 |_,_=>False
theorem JD{P:Program}:∀{es:List DictEntry} {vs:List (Str×Value)},vQ w es vs->
 (∀e∈es,∃k,(c6 P w).is k e.key=true/\e.hash=(c6 P w).hash k)/\Pairs (c6 P w) es (vs.map λp=>((Sum.inr p.1:Key),p.2))
 | [],[],_=>⟨λ_ h=>(by cases h),Pairs.nil⟩
 |e::es,(x,v)::r,h=>by
  obtain⟨⟨t,h1⟩,h2,h3,h4⟩:=h;obtain⟨ih1,ih2⟩:=JD (P:=P) (w:=w) h4;have hi:(c6 P w).is (.inr x) e.key=true:=by rw[h1];exact Jz P w x t
  refine⟨λe' he=>?_,?_⟩
  . rcases fw.mp he with rfl|he
    . exact⟨.inr x,hi,h2⟩
    . exact ih1 e' he
  . subst h3
    exact Pairs.cons hi rfl ih2
theorem J3:∀{l:aB},l.Nodup->(l.map (Sum.inr:Str->Key)).Nodup
 | [],_=>nH
 |a::r,h=>by
  obtain⟨c,d⟩:=iT.mp h;rw[bU];refine iT.mpr ⟨λm=>?_,J3 d⟩
  obtain⟨b,f,e⟩:=aP.mp m;cases e;exact c f
theorem Ls{P:Program}{K:ag}{x:Str}{a:Addr}{sl:Array (cK)}{vs:List (Str×Value)}
 (i:mg x=some (.ref a)) (l:K.lookup a=some ⟨.type "dict",none,.dict es ep,sl⟩) (f:(a==sysModules)=false) (m:vQ w es.toList vs) (j:(vs.map Prod.fst).Nodup)
 (b:Obj.ExactDict ⟨.type "dict",none,.dict es ep,sl⟩) (h:KV ws (vs.map λp=>((Sum.inr p.1:Key),p.2))) (k:∀H,aF K H kvs ws):KTab P w K mg x kvs:=by
 obtain⟨c,d⟩:=JD (P:=P) m;refine⟨a,_,ws,i,f,λh X=>⟨_,es,ep,X _ _ l,b,rfl,λe g=>c e (by simpa using g),d,?_⟩,h,k⟩
 have:(vs.map λp=>((Sum.inr p.1:Key),p.2)).map (·.1)=(vs.map Prod.fst).map Sum.inr:=by simp[bR,Function.comp_def]
 rw[this];exact J3 j
section
variable {X:Cx}
noncomputable def zh (kvs:bT)(te:au):au:=λσ M Q=>te σ M λk M1=>match fT k with
 |some key=>(match eY kvs key with|some v=>Q v M1|none=>False)
 |none=>False
theorem Qq{x:Str}{e:Expr}{p pos:Pos}(T:KTab X.prog X.w X.K X.mg x kvs)(j:ai X e te)(hs:yZ e:=by intro _ _;rfl)(l:Gl X x:=by rfl)(i:(x==("__debug__":Str))=false:=by decide):
 ai X (.Subscript (.Name x p) e pos) (zh kvs te):=by
 obtain⟨a,vs,N,n,F,g,m,u⟩:=T.ex;intro b s f H E I h;obtain⟨D,M,Q,c,A,z,t⟩:=h;refine Le PySem.F.slot_dict_getitem.lookup hs (nR I l n (az (j b s f H (λv H1=>∃r M1,Rep X.K H1 r v/\Ext H H1/\View X.K H1 M1/\(match fT r with
  |some key=>(match eY kvs key with|some v=>Q v M1|none=>False)
  |none=>False)) I ⟨D,M,_,c,A,z,λr M1 v H1 q e w r1=>⟨r,M1,r1,e,w,q⟩⟩) λiv J ⟨y,H2,I2,ry,r,M2,rr,e2,w2,q2⟩=>?_) i)
 have dd:=g _ I2.de;refine⟨dd.typeIs,?_⟩;cases ek:fT r with
 |none=>rw[ek]at q2;exact q2.elim
 |some key=>
  rw[ek]at q2;simp only at q2;cases el:eY kvs key with
  |none=>rw[el]at q2;exact q2.elim
  |some rv=>
   rw[el]at q2;simp only at q2;obtain⟨v,e1,r1⟩:=(xK (k:=key) (u H2)).1 rv el;have:=rM ek rr;subst this;obtain⟨L,C,d⟩:=bK.some_of (v:=v) (o:=valueAt vs key) (by rw[<-e1];exact m.val key)
   exact wpAny_getItem_of (jt ry) dd.mapOf C ⟨v,H2,I2.tok _,d,t rv M2 v H2 q2 e2 w2 r1⟩
theorem Th{K:ag}{vs:List (Key×Value)}(b:KV ws vs)(a:aF K H kvs ws):(valueAt vs key).isSome=(eY kvs key).isSome:=by
 rw[<-(b.val key).bh];cases el:eY kvs key with
 |none=>rw[(xK (k:=key) a).2 el];rfl
 |some rv=>obtain⟨v,e1,_⟩:=(xK (k:=key) a).1 rv el;rw[e1];rfl
noncomputable def drop (M:RM)(p:Addr):RM:=λb=>if b=p then none else M b
def xp(l:List (Str×Int)):bT:=l.map λp=>((Sum.inr p.1:Key),RV.int p.2)
def Dq(l:List (Str×Int)):List (Key×V):=l.map λp=>((Sum.inr p.1:Key),V.int p.2)
theorem Mo{K:ag}:∀l:List (Str×Int),aF K H (xp l) (Dq l)
 | []=>rfl
 |p::r=>⟨V.int p.2,Dq r,rfl,by simp only[Rep],Mo r⟩
end
theorem ZD{P:Program}{K:ag}{x qual:Str}{st:Stmt}{sp:bV}{t:c9}(F:tH K x qual st f fd)(S:rO N ps (fP st))
 (len:∀rs M Q,sp rs M Q->rs.length=ps.length)
 (term:∀(cdv:Value),fd.code=cdv->∀(A:Around) (outer:List Env) (s:Shared) (H:Hp) (E:XK),aJ k (A.deeper (envOfC qual (fP st) s.heap.objs.size f cdv))->j5 (oh fg P w K mg base N qual (fP st) f cdv A outer s H E).rB (pW st) t)
 (body:∀rs M Q,sp rs M Q->t { nx:=λ_ M'=>Q .aq M',rt:=Q } (i6 N rs) M):dm P w K mg base fg (k+1) f fd ps (fG K sp):=by
 refine F.ok S (λvs H Q0 E h=>?_) λcdv hcd A outer s H vs Q0 E hr h=>?_
 . obtain⟨rs,M,Q,rr,hv,hq,hk⟩:=h
   rw[<-rr.length];exact len rs M Q hq
 . obtain⟨rs,M,Q,rr,hv,hq,hk⟩:=h
   refine⟨_,term cdv hcd A outer s H E hr,i6 N rs,M,{ nx:=λ_ M'=>Q .aq M',rt:=Q },TH rr,hv,body rs M Q hq,⟨λσ M' σ0 H' q e w r=>hk .aq M' .aq H' q e w (by simp only[Rep]),hk,λ_ _ _ _ z=>z.elim,λ_ _ _ _ z=>z.elim⟩⟩
theorem YW:bootBuiltins "len" =some (.builtin "len"):=by decide+kernel
theorem Sa:bootBuiltins "isinstance" =some (.builtin "isinstance"):=by decide+kernel
theorem YU:bootBuiltins "ord" =some (.builtin "ord"):=by decide+kernel
theorem YY:bootBuiltins "all" =some (.builtin "all"):=by decide+kernel
theorem KQ:bootBuiltins "tuple" =some (.type "tuple"):=by decide+kernel
theorem LP:bootBuiltins "list" =some (.type "list"):=by decide+kernel
theorem My:bootBuiltins "int" =some (.type "int"):=by decide+kernel
theorem Xf:bootBuiltins "bool" =some (.type "bool"):=by decide+kernel
theorem YT:bootBuiltins "str" =some (.type "str"):=by decide+kernel
section
variable {X:Cx}{pos:Pos}
theorem Wc(b:X.mg "int" =none)(a:Gl X "int":=by rfl):ai X (.Name "int" pos) (rC (.ty "int")):=vH b My (v:=.ty "int") rfl (λH=>by simp only[Rep]) a
theorem Vu(b:X.mg "bool" =none)(a:Gl X "bool":=by rfl):ai X (.Name "bool" pos) (rC (.ty "bool")):=vH b Xf (v:=.ty "bool") rfl (λH=>by simp only[Rep]) a
theorem Wb(b:X.mg "str" =none)(a:Gl X "str":=by rfl):ai X (.Name "str" pos) (rC (.ty "str")):=vH b YT (v:=.ty "str") rfl (λH=>by simp only[Rep]) a
theorem TN(b:X.mg "tuple" =none)(a:Gl X "tuple":=by rfl):ai X (.Name "tuple" pos) (rC (.ty "tuple")):=vH b KQ (v:=.ty "tuple") rfl (λH=>by simp only[Rep]) a
theorem Vt(b:X.mg "list" =none)(a:Gl X "list":=by rfl):ai X (.Name "list" pos) (rC (.ty "list")):=vH b LP (v:=.ty "list") rfl (λH=>by simp only[Rep]) a
def CQ(mg:bq)(x:Str)(i:Int):Prop:=∃t,mg x=some (.int i t)
theorem rgi{x:Str}{i:Int}(h:CQ X.mg x i)(b:Gl X x:=by rfl)(a:(x==("__debug__":Str))=false:=by decide):ai X (.Name x pos) (rC (.int i)):=by
 obtain⟨t,c⟩:=h;exact Nn c (v:=.int i) ⟨t,rfl⟩ (λH=>by simp only[Rep]) b a
def wo(K:ag)(a:Addr)(b:aB):Prop:=∃(o:Obj) (ab:Array Value) (n:Nat),K.lookup a=some o/\o.cls= .type "tuple"/\o.data= .seq ab n/\ab.size<=sizeLine/\Vals (b.map V.str) ab.toList
def sV(K:ag)(mg:bq)(x:Str)(b:aB):Prop:=∃a,mg x=some (.ref a)/\wo K a b
def Om(K:ag)(a:aB):au:=λ_ M Q=>∀p,wo K p a->Q (.ref p) M
theorem OA{x:Str}(h:sV X.K X.mg x ss)(c:Gl X x:=by rfl)(b:(x==("__debug__":Str))=false:=by decide):ai X (.Name x pos) (Om X.K ss):=by
 obtain⟨a,e,f⟩:=h;refine PE.imp (Nn (r:=.ref a) e (v:=.ref a) rfl (λH=>by simp only[Rep]) c b) λσ0 H k h=>?_
 obtain⟨j,M,Q,hs,i,g,d⟩:=h;exact⟨j,M,Q,hs,i,g a f,d⟩
end
theorem Wk{K:ag}{x:Str}{a:Addr}{b:aB}{ab:Array Value}{n:Nat}{sl:Array (cK)}(c:mg x=some (.ref a))(l:K.lookup a=some ⟨.type "tuple",d,.seq ab n,sl⟩)(hz:ab.size<=sizeLine)
 (e:Vals (b.map V.str) ab.toList):sV K mg x b:=⟨a,c,_,ab,n,l,rfl,rfl,hz,e⟩
structure MG(N:aB)(sc:Scope):Prop where
 nd:N.Nodup
 loc:∀x∈N,sc.names.lookup x=some .local∨sc.names.lookup x=some .cell
 iY:∀x∈N,(x==("__debug__":Str))=false/\(x==("__classdict__":Str))=false
section
variable {X:Cx}{x:Str}{pos pos':Pos}
structure OO(X:Cx):Prop where
 zJ:∀x∈X.N,qX X.env.scope x
 iY:∀x∈X.N,(x==("__debug__":Str))=false/\(x==("__classdict__":Str))=false
theorem Pa{scope:Scope}{s:Shared}(h:scope.names.lookup x=some .globalImplicit):Gl (cW X scope cl C Nc s H fp) x:=by
 show(scope.names.map (gg X.env)).lookup x=_;rw[xB];rw[xC]at h;cases e:scope.names.find? λp=>x==p.1 with
 |none=>rw[e]at h;cases h
 |some p=>
  rw[e]at h;have a:p.2= .globalImplicit:=dz h;show some (gg X.env p).2=_;rcases A3 X.env p with z|z
  . rw[z,a]
  . rw[a]at z;cases z.2
end
noncomputable def BQ (w:World):List DictEntry->List (Str×Int)->Prop
 | [],[]=>True
 |e::es,(x,i)::r=>(∃t,e.key= .str x t)/\e.hash=hashStr w x/\(∃t,e.val= .int i t)/\BQ w es r
 |_,_=>False
theorem MN:∀{es:List DictEntry} {l:List (Str×Int)},BQ w es l->∃vs:List (Str×Value),vQ w es vs/\vs.map Prod.fst=l.map Prod.fst/\KV (Dq l) (vs.map λp=>((Sum.inr p.1:Key),p.2))
 | [],[],_=>⟨[],trivial,rfl,.nil⟩
 |e::es,(x,i)::r,h=>by
  obtain⟨d,f,⟨t,g⟩,j⟩:=h;obtain⟨vs,a,b,c⟩:=MN j;exact⟨(x,.int i t)::vs,⟨d,f,g,a⟩,by simp[b],.cons ⟨rfl,t,rfl⟩ c⟩
theorem UU{P:Program}{K:ag}{x:Str}{a:Addr}{l:List (Str×Int)}
 (f:mg x=some (.ref a)) (lk:K.lookup a=some ⟨.type "dict",none,.dict es ep,#[]⟩) (e:(a==sysModules)=false) (h:BQ w es.toList l) (g:(l.map Prod.fst).Nodup):KTab P w K mg x (xp l):=by
 obtain⟨vs,b,c,d⟩:=MN h;exact Ls f lk e b (by rw[c];exact g) ⟨rfl,rfl,rfl⟩ d λH=>Mo l
theorem LS{e:Value->Bool}{p:RV->Bool}:∀{xs:LR} {us:ak},ay h xs us->(∀x∈xs,∀u,Den h x u->e u=p x)->us.any e=xs.any p
 | [],us,d,_=>by simp only[ay]at d;subst d;rfl
 |x::xs,us,d,k=>by
  simp only[ay]at d;obtain⟨u,r,rfl,d1,a⟩:=d;rw[kf,kf,k x iR u d1,LS a λy b=>k y (gv _ b)]
theorem LN:∀{xs:LR} {us:ak},ay h xs us->∀u∈us,∃x∈xs,Den h x u
 | [],us,d,u,a=>by simp only[ay]at d;subst d;cases a
 |x::xs,us,d,u,a=>by
  simp only[ay]at d;obtain⟨w,r,rfl,d1,b⟩:=d;rcases fw.mp a with rfl|a
  . exact⟨x,iR,d1⟩
  . obtain⟨y,e,c⟩:=LN b u a
    exact⟨y,gv _ e,c⟩
open Classical in
noncomputable def nM (h:Heap)(a:RV)(w:Value):Bool:=if q:∃r,aA 15 r=true/\Den h r w then bc (choose q) a else false
theorem Na{a x:RV}(o:aA 15 x=true)(d:Den h x u):nM h a u=bc x a:=by
 have q:∃r,aA 15 r=true/\Den h r u:=⟨x,o,d⟩;unfold nM;rw[dif_pos q];have e:=Bh 15 _ x u (Classical.choose_spec q).1 o (Classical.choose_spec q).2 d;rw[e]
def inR(x:RV)(xs:LR):Bool:=xs.any λy=>bc y x
noncomputable def zl (neg:Bool):cu:=λx y M Q=>match y with
 | .tup xs=>aA 15 x=true/\xs.all (aA 15)=true/\Q (.bl (if neg then !inR x xs else inR x xs)) M
 | .ls xs=>aA 15 x=true/\xs.all (aA 15)=true/\Q (.bl (if neg then !inR x xs else inR x xs)) M
 |_=>False
section
variable {X:Cx}
theorem va{s:Shared}{A:Around}{xs:LR}{ab:ak}{a:RV}{v:Value}(g:A.units+15<cLine)(os:xs.all (aA 15)=true)(i:aA 15 a=true)(d:ay s.heap xs ab)(e:Den s.heap a v):
 (∀w,w∈ab.toArray->SeqAt.EqAt A s w v (nM s.heap a w))/\ab.toArray.any (nM s.heap a)=inR a xs:=by
 have b:∀x∈xs,aA 15 x=true:=by simpa[dw]using os
 refine⟨λw h=>?_,?_⟩
 . obtain⟨x,hx,c⟩:=LN d w (by simpa using h)
   rw[Na (b x hx) c];exact A0 15 x a A s w v (b x hx) i c e g
 . rw[show ab.toArray.any (nM s.heap a)=ab.any (nM s.heap a) by simp]
   exact LS d λx hx u f=>Na (b x hx) f
theorem yP{xs:LR}(os:xs.all (aA 15)=true):aA 16 (.tup xs)=true/\aA 16 (.ls xs)=true:=⟨os,os⟩
theorem Py(r:X.A.units+64<cLine):cS X (compareOp .In) (zl false):=by
 intro l s t H x y v u o I m n h;obtain⟨a,b,M,Q,ra,rb,k,c,j⟩:=h;cases b with
 |tup xs=>
  obtain⟨e,f,c⟩:=c;have d:=iE I 16 (.tup xs) y u (yP f).1 rb n;simp only[Den]at d;obtain⟨p,ab,rfl,i,g⟩:=d;have z:=va (A:=X.A.in1) (by rw[in1_units];omega) f e g (iE I 15 a x v e ra m)
  refine SeqAt.in_tupleAt _ i z.1 ⟨.bl (inR a xs),H,I,by rw[z.2];rfl,j _ M _ H c (.refl H) k (by simp only[Rep];rfl)⟩
 |ls xs=>
  obtain⟨e,f,c⟩:=c;have d:=iE I 16 (.ls xs) y u (yP f).2 rb n;simp only[Den]at d;obtain⟨p,ab,rfl,i,g⟩:=d;have z:=va (A:=X.A.in1) (by rw[in1_units];omega) f e g (iE I 15 a x v e ra m)
  refine SeqAt.in_listAt _ i z.1 ⟨.bl (inR a xs),H,I,by rw[z.2];rfl,j _ M _ H c (.refl H) k (by simp only[Rep];rfl)⟩
 |_=>exact(show False from c).elim
theorem Yt(r:X.A.units+64<cLine):cS X (compareOp .NotIn) (zl true):=by
 intro l s t H x y v u o I m n h;obtain⟨a,b,M,Q,ra,rb,k,c,j⟩:=h;cases b with
 |tup xs=>
  obtain⟨e,f,c⟩:=c;have d:=iE I 16 (.tup xs) y u (yP f).1 rb n;simp only[Den]at d;obtain⟨p,ab,rfl,i,g⟩:=d;have z:=va (A:=X.A.in1) (by rw[in1_units];omega) f e g (iE I 15 a x v e ra m)
  refine SeqAt.notIn_tupleAt _ i z.1 ⟨.bl (!inR a xs),H,I,by rw[z.2];rfl,j _ M _ H c (.refl H) k (by simp only[Rep];rfl)⟩
 |ls xs=>
  obtain⟨e,f,c⟩:=c;have d:=iE I 16 (.ls xs) y u (yP f).2 rb n;simp only[Den]at d;obtain⟨p,ab,rfl,i,g⟩:=d;have z:=va (A:=X.A.in1) (by rw[in1_units];omega) f e g (iE I 15 a x v e ra m)
  refine SeqAt.notIn_listAt _ i z.1 ⟨.bl (!inR a xs),H,I,by rw[z.2];rfl,j _ M _ H c (.refl H) k (by simp only[Rep];rfl)⟩
 |_=>exact(show False from c).elim
def Hm:LR->RM->ao->Prop:=λrs M Q=>match rs with
 | [.str x]=>x.length=1/\Q (.int (x.cps.getD 0 0:Nat)) M
 |_=>False
theorem Rg:cM X (.builtin "ord") (eF X.K Hm):=by
 intro b s j H k us d I i h;obtain⟨rs,M,Q,c,g,a,e⟩:=h
 match rs,a with
 | [.str x],a=>
  obtain⟨f,a⟩:=a;simp only[aa,Rep]at c;obtain⟨v,r,rfl,rfl,rfl⟩:=c;exact V4 b s j H _ us d I i ⟨x,rfl,f,e _ M _ H a (.refl H) g (by simp only[Rep])⟩
noncomputable def zk (K:ag)(neg:Bool):cu:=λx y M Q=>match y with
 | .ref p=>∃a,wo K p a/\aA 15 x=true/\Q (.bl (if neg then !inR x (a.map RV.str)else inR x (a.map RV.str))) M
 |_=>False
theorem Kn:∀{b:aB} {ab:ak},Vals (b.map V.str) ab->ay h (b.map RV.str) ab
 | [],_,r=>by rw[qN]at r;cases r;simp only[qN,ay]
 |s::b,_,r=>by
  rw[bU]at r;cases r with
  |cons a t=>rw[bU];simp only[ay,Den];exact⟨_,_,rfl,a,Kn t⟩
theorem MW{s:Shared}(h:X.A.units+64<cLine)(I:Inv X pins σ H s){a:RV}{x:V}{v:Value}{p:Addr}(d:wo X.K p ss)(c:aA 15 a=true)(ra:Rep X.K H a x)(g:RelV x v):
 ∃ab:ak,IsTup s.heap p ab.toArray/\(∀w,w∈ab.toArray->SeqAt.EqAt X.A.in1 s w v (nM s.heap a w))/\ab.toArray.any (nM s.heap a)=inR a (ss.map RV.str):=by
 obtain⟨ab,b,e,_⟩:=I.tuple (a:=p) (xs:=ss.map V.str) (.inr d);have f:(ss.map RV.str).all (aA 15)=true:=by simp[dw,aA]
 have z:=va (A:=X.A.in1) (by rw[in1_units];omega) f c (Kn b) (iE I 15 a x v c ra g)
 exact⟨ab,e,z.1,z.2⟩
theorem RC(i:X.A.units+64<cLine):cS X (compareOp .In) (zk X.K false):=by
 intro d s w H x y v u t I l m h;obtain⟨a,b,M,Q,ra,rb,j,c,e⟩:=h;cases b with
 |ref p=>
  obtain⟨n,f,k,c⟩:=c;simp only[Rep]at rb;subst rb;cases(show u=Value.ref p from m)
  obtain⟨ab,g,o,r⟩:=MW i I f k ra l;exact SeqAt.in_tupleAt _ g o ⟨.bl (inR a (n.map RV.str)),H,I,by rw[r];rfl,e _ M _ H c (.refl H) j (by simp only[Rep];rfl)⟩
 |_=>exact(show False from c).elim
theorem WD(i:X.A.units+64<cLine):cS X (compareOp .NotIn) (zk X.K true):=by
 intro d s w H x y v u t I l m h;obtain⟨a,b,M,Q,ra,rb,j,c,e⟩:=h;cases b with
 |ref p=>
  obtain⟨n,f,k,c⟩:=c;simp only[Rep]at rb;subst rb;cases(show u=Value.ref p from m)
  obtain⟨ab,g,o,r⟩:=MW i I f k ra l;exact SeqAt.notIn_tupleAt _ g o ⟨.bl (!inR a (n.map RV.str)),H,I,by rw[r];rfl,e _ M _ H c (.refl H) j (by simp only[Rep];rfl)⟩
 |_=>exact(show False from c).elim
noncomputable def sP (neg:Bool)(ss:aB)(ty:au):au:=λσ M Q=>ty σ M λx M1=>aA 15 x=true/\Q (.bl (if neg then !inR x (ss.map RV.str)else inR x (ss.map RV.str))) M1
def GC:LR->RM->ao->Prop:=λrs M Q=>∃a:List Bool,rs= [.ls (a.map RV.bl)]/\Q (.bl (a.all id)) M
theorem Ba{K:ag}:∀{bs:List Bool} {vs:LV},aa K H (bs.map RV.bl) vs->vs=bs.map V.bl
 | [],vs,h=>by simpa only[qN,aa]using h
 |b::bs,vs,h=>by
  simp only[bU,aa,Rep]at h;obtain⟨v,r,rfl,rfl,a⟩:=h;rw[Ba a];rfl
theorem Bc:∀{bs:List Bool} {us:ak},Vals (bs.map V.bl) us->us=bs.map Value.bool
 | [],us,h=>by cases h;rfl
 |b::bs,us,h=>by
  obtain⟨u,r,rfl,a,c⟩:=Vals.cons_inv h;cases a;rw[Bc c];rfl
theorem range_all(bs:List Bool):(List.range bs.length).all (λi=>bs.getD i true)=bs.all id:=by
 induction bs with
 |nil=>rfl
 |cons b bs ih=>
  rw[cQ,List.range_succ_eq_map,fb,tq,fb];have:((λi=>(b::bs).getD i true) ∘ Nat.succ)=λi=>bs.getD i true:=by funext i;rfl
  rw[this,ih];rfl
theorem V6(O:X.calm=true):cM X (.builtin "all") (eF X.K GC):=by
 intro d s t H xs us Q0 I Y h;obtain⟨rs,M,Q,Z,W,⟨f,rfl,U⟩,R⟩:=h;obtain⟨v,rfl,r1⟩:=Z.one;simp only[Rep]at r1;obtain⟨a,vs,rfl,J,L⟩:=r1;have:=Ba L;subst this;obtain⟨u,rfl,ru⟩:=Y.one;cases ru;obtain⟨ab,rv,p,hz⟩:=I.list J.sq;have:=Bc rv;subst this;have m:a<s.heap.objs.size:=by obtain⟨o,n,e,_⟩:=p;exact bA e
 refine call_all_walk (wpAny_pyIter_list p.isList ?_);have hd:X.A.in1.handled=none:=I.ok.hd O;refine⟨s.heap.objs.size,_,_,_,_,_,λi=>f.getD i true,rfl,Walks.list hd s.heap.objs.size a (cE m) (f.map Value.bool).toArray,⟨⟨_,dv _ rfl,rfl,rfl⟩,p.isList.push _⟩,?_,?_⟩
 . intro i v s' y E' N j
   have c:(f.map Value.bool)[i]? =some v:=by simpa using N
   rw[fJ]at c;cases e:f[i]? with
   |none=>rw[e]at c;cases c
   |some b=>
    rw[e]at c;have k:f.getD i true=b:=by rw[List.getD_eq_getElem?_getD,e];rfl
    cases c;have g:y (f.getD i true) s':=j;rw[k]at g;exact jJ g
 . intro h' r l
   have w:Inv X d t H { s with heap:=s.heap.push { cls:=.type "list_iterator",data:=.fields #[.ref a,.int 0 0] } }:=I.kept (t':=s.toks) λb o e=>bz _ e
   obtain⟨A,C,f2,D,E,F⟩:=I.fZ (aN _) (I.av.fresh (aN _));have x:Inv X d t H { s with heap:=h',toks:=r }:=by
    have z:=w.turned (h':=h') (t':=r) (it:=s.heap.objs.size) (λb o k e=>l b o (by simpa using k) e) A C D E F
    exact z
   refine⟨.bl (f.all id),H,x,?_,R _ M _ H U (.refl H) W (by simp only[Rep])⟩
   show _=_;rw[<-range_all];simp
def wV(x:Str):It:=⟨λi _=>i<x.cps.size,λi H v a=>a=H/\∃c,x.cps[i]? =some c/\v= .str ⟨#[c]⟩,λi _=>x.cps.size<=i⟩
noncomputable def mY (x:Str):LR:=x.cps.toList.map λc=>.str ⟨#[c]⟩
theorem Kz{P:Program}{K:ag}{tg:Expr}(it)(n:String)(x:Str)(t)
 (hn:["enumerate","zip","dict_itemiterator","dict_reverseitemiterator","odict_iterator","itertools.zip_longest","itertools.pairwise"].contains n=false)
 (W:∀A:Around,A.handled=none->Walks P w A it [it] [it] x.cps.size (SignAt x) (λi h=>h.IsStrIter it n x t i))
 (l:∀(A:Around) (i:Nat) (s:Shared) (Q:cK->Shared->Prop) (E:aQ),A.handled=none->s.heap.IsStrIter it n x t i->x.cps.size<=i->(∀j,(∀b o,b≠it->s.heap.get? b=some o->j.get? b=some o)->Q none { s with heap:=j })->wpAny (model P w) A (pyNext (.ref it)) Q E s)
 (g:∀A i s Q E,s.heap.IsStrIter it n x t i->Q (.ref it) s->wpAny (model P w) A (pyIter (.ref it)) Q E s):
 Turn P w K tg (wV x) [it] it (λi h=>h.IsStrIter it n x t i) where
 mem:=by simp
 obj:=λi h st b f=>by
  have e:b=it:=by simpa using f
  subst e;obtain⟨o,e,c,d⟩:=st;exact⟨o,e,λv z=>by rw[d]at z;cases z⟩
 keep:=λi h j st k=>by
  obtain⟨o,e,r⟩:=st;exact⟨o,k it (by simp) o e,r⟩
 item:=by
  intro X M Y L N i a s σ H E I v st U;subst M Y L;obtain⟨y,C,f2,D,F,J⟩:=v it (by simp)
  refine(W X.A (I.ok.hd N)).item i s _ _ U st λv j Z hv m kk=>?_
  obtain⟨c,u,R,rfl⟩:=hv;have I1:Inv X a σ H { s with heap:=j,toks:=Z }:=I.turned (λb o f e=>kk b o (by simpa using f) e) y C D F J
  obtain⟨o,e,O,hd⟩:=id m;exact⟨_,rfl,vR (s:={ s with heap:=j,toks:=Z }) (n:=n) e O hd hn ⟨.str ⟨#[c]⟩,H,I1,⟨u,rfl⟩,⟨rfl,c,R,rfl⟩,m,λb f=>(v b f).1⟩⟩
 done:=by
  intro X M Y L N i a s σ H E I v st U;subst M Y L;obtain⟨y,C,f2,D,F,J⟩:=v it (by simp)
  exact l X.A i s _ _ (I.ok.hd N) st U λh' eb=>⟨rfl,I.turned (t':=s.toks) (λb o f e=>eb b o f e) y C D F J⟩
 self:=g
theorem MP{K:ag}{H1:Hp}(x)(es:Ext Hs H1):gX H0 Hs K (wV x) (mY x) cZ id H1 where
 turn:=λi H M e _ _ r b=>by
  have hi:i<x.cps.size:=by have:=(jG.mp b).1;simpa[mY]using this
  refine⟨hi,λv' f y=>?_⟩
  obtain⟨rfl,c,a,rfl⟩:=y;refine⟨.refl _,λ_ w=>w,?_⟩
  have:r= .str ⟨#[c]⟩:=by
   have d:x.cps.toList[i]? =some c:=by simpa using a
   simp only[mY,fJ,d,Option.map_some,j7]at b;exact b.symm
  subst this;simp only[Rep]
 stop:=λi H M e _ _ hi=>by
  have:(mY x).length=x.cps.size:=by simp[mY]
  rw[this]at hi;exact hi
 cb:=mU es
def Hw(te:au):gj:=λσ M Q=>te σ M λv M1=>match v with| .str x=>Q (mY x) cZ id M1|_=>False
theorem RI{tg:Expr}{l:Expr}(r:ai X l te):hG X tg l (Hw te):=by
 intro a s j H R I h;obtain⟨y,M,Q,hs,w,u,m⟩:=h;refine az (r a s j H (λv H1=>∃x M1,v= .str x/\Q (mY x) cZ id M1/\Ext H H1/\View X.K H1 M1) I ⟨y,M,_,hs,w,u,λrv M1 v H1 q e1 g r1=>?_⟩) λv c ⟨z,H1,I1,r1,q1⟩=>?_
 . cases rv with
   |str x=>simp only[Rep]at r1;exact⟨x,M1,r1,q,e1,g⟩
   |_=>exact(show False from q).elim
 . obtain⟨x,M1,rfl,q,e1,g⟩:=q1
   obtain⟨t,rfl⟩:=r1;have k:∀b∈[c.heap.objs.size],ni X a H1 b:=λb n=>by
    have e:b=c.heap.objs.size:=by simpa using n
    subst e;exact I1.fZ (aN _) (I1.av.fresh (aN _))
   cases ha:x.cps.all (. < 128)
   . refine wpAny_pyIter_wide ha ?_
     exact⟨c.heap.objs.size,[c.heap.objs.size],_,wV x,H1,rfl,I1.kept (t':=c.toks) λb o e=>bz _ e,Kz _ "str_iterator" x t (by decide) (λA d=>Walks.strWide d _ x t) (λA i s Q E d st hi f=>wpAny_pyNext_wide_end d st (by simp;exact hi) f) (λA i s Q E st f=>wpAny_pyIter_striter_wide st f),⟨_,dv _ rfl,rfl,rfl⟩,k,m _ cZ id M1 _ H1 q e1 g (MP x e1)⟩
   . refine wpAny_pyIter_ascii ha ?_
     exact⟨c.heap.objs.size,[c.heap.objs.size],_,wV x,H1,rfl,I1.kept (t':=c.toks) λb o e=>bz _ e,Kz _ "str_ascii_iterator" x t (by decide) (λA d=>Walks.strAscii d _ x t) (λA i s Q E d st hi f=>wpAny_pyNext_ascii_end d st (by simp;exact hi) f) (λA i s Q E st f=>wpAny_pyIter_striter_ascii st f),⟨_,dv _ rfl,rfl,rfl⟩,k,m _ cZ id M1 _ H1 q e1 g (MP x e1)⟩
noncomputable def zo (to:au)(t:bS):au:=λσ M Q=>to σ M λx M1=>match x with
 | .ref p=>(∃ys,M1 p=some (.lst ys))/\t σ M1 λrs M2=>∃ys y,rs= [y]/\M2 p=some (.lst ys)/\ys.length<sizeLine/\Q .aq (put M2 p (.lst (ys++ [y])))
 |_=>False
theorem WT{o e:Expr}{r:au}{t:bS}{c a:Pos}(E:ai X o r)(A:eV X [e] t)
 (d:attributeBase o "append" X.env (eval o X.env)=eval o X.env:=by rfl)
 (g:((backTo a (starEach [e] X.env)).all (λx=>!x.1)&&(backToKw a (keywordEach [] X.env)).all (λx=>x.1.isSome)&&decide ([e].length+([]:List Keyword).length+(if([]:List Keyword).isEmpty then 0 else 1)<30))=true:=by rfl)
 (f:(c.endLine==a.line)=true:=by rfl) (hs:starEach [e] X.env=(false,eval e X.env)::starEach [] X.env:=by rfl) (b:(backTo a (starEach [] X.env)).any (·.1)=false:=by rfl):
 ai X (.Call (.Attribute o "append" c) [e] [] a) (zo r t):=PE.imp (qyq PySem.F.plainAttrs_list PySem.F.slot_list_append PySem.F.type_list_append Up E A d g f hs b) λσ0 H Z h=>by
 obtain⟨w,M,Q,hs,L,J,C⟩:=h;refine⟨w,M,_,hs,L,J,λrx M1 x H1 q e1 s r1=>?_⟩
 cases rx with
 |ref p=>
  obtain⟨⟨ys,D⟩,q⟩:=q;simp only[Rep]at r1;subst r1;obtain⟨F,e0,r0⟩:=s p _ D;obtain⟨W,rfl,U⟩:=r0;refine⟨.inl ⟨rfl,_,cx.of e0⟩,w,M1,_,hs.ext e1,s,q,λrs M2 vs m l z u r2=>?_⟩
  obtain⟨Y,y,rfl,i,N,l⟩:=l;obtain⟨v,rfl,O⟩:=r2.one;obtain⟨I,n,R⟩:=u p _ i;obtain⟨k,rfl,j⟩:=R;have ex:Ext m (upd m p (.lst (k++ [v]))):=Ext.write n rfl;refine⟨p,k,v,rfl,rfl,n,by rw[<-j.length];exact N,C _ _ _ _ l ((e1.trans z).trans ex) (u.write i ⟨_,rfl,?_⟩) (by simp only[Rep])⟩
  exact(aa.ext ex _ _ j).append (aa.cons (Rep.ext ex _ _ O) aa.nil)
 |_=>exact(show False from q).elim
def B1:LR->RM->ao->Prop:=λrs M Q=>match rs with
 | [.tup xs]=>Q (.ls xs) M
 | [.ls xs]=>Q (.ls xs) M
 |_=>False
theorem qze:cM X (.type "list") (eF X.K B1):=by
 intro a s n H i us k I w h;obtain⟨rs,M,Q,m,u,b,t⟩:=h;have f:∀p vs j,i= [.ref p]->(cx X.K H p vs∨bL X.K H p vs)->aa X.K H j vs->Q (.ls j) M->wpAny (model X.prog X.w) X.A (call (.type "list") us) (EP X a n k) X.xe s:=by
  intro p vs j e c d b;subst e;refine az (SH a s n H _ us (λv r=>∃H1 p i,v= .ref p/\H1 p=none/\r=upd H1 p (.lst i)/\∀o,k (.ref p) (upd H1 p (.aZ o (.lst i)))) I w ⟨p,vs,rfl,c,λl g=>⟨H,l,vs,rfl,g,rfl,λo=>?_⟩⟩) λ_ _ e=>frozen e
  exact t _ M _ _ b (Ext.new g) (u.new g) (js g d)
 unfold B1 at b;split at b
 . obtain⟨v,rfl,r1⟩:=m.one
   simp only[Rep]at r1;obtain⟨q,vs,rfl,c,d⟩:=r1;exact f q vs _ rfl (.inr c) d b
 . obtain⟨v,rfl,r1⟩:=m.one
   simp only[Rep]at r1;obtain⟨q,vs,rfl,c,d⟩:=r1;exact f q vs _ rfl (.inl c.sq) d b
 . exact b.elim
noncomputable def Mx (fs:List (Addr×bV))(tx:au)(t:bS):au:=λσ M Q=>tx σ M λv M1=>match v with
 | .ref f=>∃sp,(f,sp)∈fs/\t σ M1 λrs M2=>sp rs M2 Q
 |_=>False
theorem XN{x:Str}{p pos:Pos}{e:Expr}{t:bS}{tx:au}(fs:List (Addr×bV))
 (w:∀q∈fs,∃d l k,aJ k X.A/\PySem.W.keepIn X.K (.ref q.1)=true/\Binds X.K d l []/\dm X.prog X.w X.K X.mg X.base fg k q.1 d l (fG X.K q.2)) (hx:ai X (.Name x p) tx) (z:eV X (e::es) t)
 (C:starEach (e::es) X.env=(false,eval e X.env)::starEach es X.env:=by rfl) (j:(backTo pos (starEach es X.env)).any (·.1)=false:=by rfl):ai X (.Call (.Name x p) (e::es) [] pos) (Mx fs tx t):=by
 intro a s b H o I h;obtain⟨n,M,Q,hs,L,J,D⟩:=h;refine wpAny_Call_Name_kw (az (hx a s b H (λv H1=>∃f sp M1,v= .ref f/\(f,sp)∈fs/\Ext H H1/\View X.K H1 M1/\t n M1 λrs M2=>sp rs M2 Q) I ⟨n,M,_,hs,L,J,λrv M1 v H1 q e1 m r1=>?_⟩) λv O ⟨y,H1,I1,r1,q1⟩=>?_)
 . cases rv with
   |ref f=>simp only[Rep]at r1;obtain⟨sp,i,q⟩:=q;exact⟨f,sp,M1,r1,i,e1,m,q⟩
   |_=>exact(show False from q).elim
 . obtain⟨f,sp,M1,rfl,i,e1,m,q⟩:=q1
   cases r1;obtain⟨d,l,k,E,g,A,F⟩:=w _ i;refine zM (h₀:=X.base) I1.ok.mod.iq g (az (z pos a O b H1 (λvs c=>fG X.K sp (vs++ []) c o (λ_ _ _=>False)) I1 ⟨n,M1,_,hs.ext e1,m,q,λrs M2 vs c N u R r2=>?_⟩) λus U ⟨vs,c,I2,r,q⟩=>⟨I2.de,?_⟩) C j
   . exact⟨rs,M2,Q,by rw[oE];exact r2,R,N,D.ext (e1.trans u)⟩
   . exact vA F E A .nil qa I2 r q
end
theorem Um{P:Program}{vs:List (Key×Value)}(h:Pairs (c6 P w) es vs):Pairs (optKind P w) es (vs.map λp=>(some p.1,p.2)):=by
 induction h with
 |nil=>exact .nil
 |cons a b _ ih=>exact .cons (kv:=(some _,_)) a b ih
theorem JR:∀{l:List Key},l.Nodup->(l.map some).Nodup
 | [],_=>nH
 |a::r,h=>by
  obtain⟨c,d⟩:=iT.mp h;rw[bU];refine iT.mpr ⟨λm=>?_,JR d⟩
  obtain⟨b,f,e⟩:=aP.mp m;cases e;exact c f
theorem VZ{P:Program}{h:Heap}{a:Addr}{vs:List (Key×Value)}(d:h.DictOf (c6 P w) a vs):h.DictOf (optKind P w) a (vs.map λp=>(some p.1,p.2)):=by
 obtain⟨o,c,b,f,g,i,j,l,m⟩:=d;refine⟨o,c,b,f,g,i,λe n=>?_,Um l,?_⟩
 . obtain⟨k,r,s⟩:=j e n
   exact⟨some k,r,s⟩
 . rw[bR]
   have:((λx:Option Key×Value=>x.1) ∘ λp:Key×Value=>(some p.1,p.2))=some ∘ λp=>p.1:=rfl
   rw[this,<-bR];exact JR m
theorem WH{vs:List (Key×Value)}:valueAt (vs.map λp=>(some p.1,p.2)) (none:Option Key)=none:=by
 unfold valueAt;rw[wC.mpr]
 . rfl
 . intro x hx
   obtain⟨p,_,rfl⟩:=aP.mp hx;simp
section
variable {X:Cx}
noncomputable def BH (neg:Bool)(kvs:bT)(Q:ao):ao:=λk M1=>match fT k with
 |some key=>Q (.bl (if neg then !(eY kvs key).isSome else(eY kvs key).isSome)) M1
 |none=>False
def ym(kvs:bT)(Q:ao):ao:=λk M1=>match k with
 | .aq=>Q (.bl true) M1
 |k=>BH true kvs Q k M1
def A4(kvs:bT)(te:au):au:=λσ M Q=>te σ M (ym kvs Q)
theorem Sd{x:Str}{e:Expr}{p:Pos}(T:KTab X.prog X.w X.K X.mg x kvs)(C:ai X e te)(D:Gl X x)(A:(x==("__debug__":Str))=false):
 PC X .NotIn e (.Name x p) (up X.K (A4 kvs te)):=by
 obtain⟨a,vs,Y,F,l,z,E,J⟩:=T.ex;intro d s i H U I h;obtain⟨R,M,Q,g,N,L,n⟩:=h;refine az (C d s i H (λv H1=>∃r M1,Rep X.K H1 r v/\Ext H H1/\View X.K H1 M1/\ym kvs Q r M1) I ⟨R,M,_,g,N,L,λr M1 v H1 q e w r1=>⟨r,M1,r1,e,w,q⟩⟩) λiv W O=>?_;obtain⟨y,c,f,t,r,M2,o,j,u,b⟩:=O
 refine nR f D F ?_ A;have dd:=z _ f.de
 by_cases m:r= .aq
 . subst m
   have b:Q (.bl true) M2:=b;have:y=V.aq:=by simpa only[Rep]using o
   subst this;have:iv=Value.none:=t;subst this;refine wpAny_notIn_of (knd:=optKind X.prog X.w) (k:=none) rfl l (VZ dd).mapOf ?_;rw[WH];exact⟨.bl true,c,f.tok _,rfl,n _ M2 _ c b j u (by simp only[Rep])⟩
 . have b:BH true kvs Q r M2:=by
    cases r<;>first|exact b|exact aS rfl m
   unfold BH at b;cases ek:fT r with
   |none=>rw[ek]at b;exact b.elim
   |some key=>
    rw[ek]at b;simp only at b;have:=rM ek o;subst this;refine wpAny_notIn_of (jt t) l dd.mapOf ?_;rw[Th E (J c)];exact⟨.bl (!(eY kvs key).isSome),c,f.tok _,rfl,n _ M2 _ c b j u (by simp only[Rep];rfl)⟩
theorem TQ{x:Str}{e:Expr}{p pos:Pos}(T:KTab X.prog X.w X.K X.mg x kvs)(c:ai X e te)(d:Gl X x:=by rfl)(b:(x==("__debug__":Str))=false:=by decide)(a:behindInMarks .NotIn (Expr.Name x p)=false:=by with_unfolding_all rfl):
 d7 X (.Compare e [.NotIn] [.Name x p] pos) (m8 (A4 kvs te)):=PT.imp (BJ (Sd T c d b) a) λσ0 H k h=>by
 obtain⟨j,M,Q,hs,i,g,f⟩:=h;exact⟨j,M,_,hs,i,g,pT f⟩
end
theorem xA{K:ag}:∀{a:List (Str×RV)} {gs:List (Str×V)} {v:RV},aF K H a gs->a.lookup f=some v->∃u,gs.lookup f=some u/\Rep K H v u
 | [],gs,v,h,e=>by cases e
 |(g,x)::r,gs,v,h,e=>by
  obtain⟨u,t,rfl,b,c⟩:=h;rw[nE]at e;cases hb:f==g with
  |true=>rw[hb]at e;cases e;exact⟨u,by rw[nE,hb],b⟩
  |false=>
   rw[hb]at e;obtain⟨w,e1,r1⟩:=xA c e;exact⟨w,by rw[nE,hb];exact e1,r1⟩
theorem AN{K:ag}:∀{a:List (Str×RV)} {gs:List (Str×V)},aF K H a gs->a.lookup f=none->gs.lookup f=none
 | [],gs,h,e=>by have b:gs= []:=h;subst b;rfl
 |(g,x)::r,gs,h,e=>by
  obtain⟨u,t,rfl,d,c⟩:=h;rw[nE]at e ⊢;cases hb:f==g with
  |true=>rw[hb]at e;cases e
  |false=>rw[hb]at e;exact AN c e
noncomputable def jZ (f:Str)(v:RV):List (Str×RV)->List (Str×RV)
 | []=>[(f,v)]
 |(g,x)::r=>if g=f then(g,v)::r else(g,x)::jZ f v r
theorem AM{K:ag}{v:RV}(a:Rep K H v u):∀{b:List (Str×RV)} {gs:List (Str×V)},aF K H b gs->aF K H (jZ f v b) (fm f u gs)
 | [],gs,h=>by have d:gs= []:=h;subst d;exact⟨u,[],rfl,a,rfl⟩
 |(g,x)::r,gs,h=>by
  obtain⟨w,t,rfl,i,c⟩:=h;unfold jZ fm
  by_cases e:g=f
  . rw[ah e,ah e];exact⟨u,t,rfl,a,c⟩
  . rw[ae e,ae e];exact⟨w,_,rfl,i,AM a c⟩
theorem iC{K:ag}:∀{a:List (κ×RV)} {gs:List (κ×V)},aF K H a gs->a.length=gs.length
 | [],gs,h=>by have b:gs= []:=h;subst b;rfl
 |(g,x)::r,gs,h=>by
  obtain⟨w,t,rfl,d,c⟩:=h;rw[cQ,cQ,iC c]
section
variable {X:Cx}{o e value:Expr}{f:Str}{pos pos':Pos}{ta tv:au}{C:Addr}
noncomputable def Rv (C:Addr)(f:Str)(ta:au):au:=λσ M Q=>ta σ M λx M1=>match x with
 | .ref a=>∃fs v,M1 a=some (.ins C fs)/\fs.lookup f=some v/\Q v M1
 |_=>False
theorem Qv(hc:cI X.K C)(hn:aW X.K C f)(he:ai X e ta)(hb:attributeBase e f X.env (eval e X.env)=eval e X.env:=by rfl):ai X (.Attribute e f pos) (Rv C f ta):=PE.imp (Yg he hb) λσ0 H Q0 h=>by
 obtain⟨σ,M,Q,hs,hv,ht,hk⟩:=h;refine⟨σ,M,_,hs,hv,ht,λrx M1 x H1 q e1 v1 r1=>?_⟩
 cases rx with
 |ref a=>
  obtain⟨fs,v,hm,hl,q⟩:=q;simp only[Rep]at r1;subst r1;obtain⟨ho,eo,dx,gs,rfl,hg⟩:=v1 a _ hm;obtain⟨u,hu,ru⟩:=xA hg hl;exact⟨a,C,dx,gs,u,rfl,eo,hc,hn,hu,hk _ M1 _ H1 q e1 v1 ru⟩
 |_=>exact(show False from q).elim
noncomputable def ZH (C:Addr)(f:Str)(ta tv:au):c9:=λD c M=>tv c M λy M1=>ta c M1 λx M2=>match x with
 | .ref a=>∃b,M2 a=some (.ins C b)/\b.length<1000/\D.nx c (put M2 a (.ins C (jZ f y b)))
 |_=>False
theorem QF(hc:cI X.K C)(hn:aW X.K C f)(ha:ai X o ta)(hv:ai X value tv)(hs:swapsWith value (some (.Attribute o f pos')) pos.line X.env=pure false:=by rfl):eI X (.Assign [.Attribute o f pos'] value pos) (ZH C f ta tv):=PS.imp (YH ha hv hs) λD0 σ0 H h=>by
 obtain⟨σ,M,D,hs,hv,ht,hd⟩:=h;refine⟨σ,M,_,hs,hv,ht,λry M1 y H1 q e1 v1 r1=>⟨σ,M1,_,hs.ext e1,v1,q,λrx M2 x H2 q2 e2 v2 r2=>?_⟩⟩
 cases rx with
 |ref a=>
  obtain⟨fs,hm,hl,q2⟩:=q2;simp only[Rep]at r2;subst r2;obtain⟨ho,eo,dx,gs,rfl,hg⟩:=v2 a _ hm;have ex:Ext H2 (upd H2 a (.ins C dx (fm f y gs))):=Ext.write eo rfl;refine⟨a,C,dx,gs,rfl,eo,hc,hn,by rw[<-iC hg];exact hl,hd.nx σ _ _ _ q2 ((e1.trans e2).trans ex) (v2.write hm ⟨dx,_,rfl,?_⟩) (hs.ext ((e1.trans e2).trans ex))⟩
  exact AM (Rep.ext (e2.trans ex) _ _ r1) (hg.ext ex)
 |_=>exact(show False from q2).elim
end
section
variable {K:ag}{H:Hp}{k:Key}{v:RV}{u:V}
theorem KJ:∀{a:List (κ×RV)} {ws:List (κ×V)} {ys:List (κ×RV)} {zs:List (κ×V)},aF K H a ws->aF K H ys zs->aF K H (a++ys) (ws++zs)
 | [],ws,ys,zs,h,t=>by have b:ws= []:=h;subst b;exact t
 |(j,x)::r,ws,ys,zs,h,t=>by
  obtain⟨w,e,rfl,c,d⟩:=h;exact⟨w,_,rfl,c,KJ d t⟩
end
section
variable {X:Cx}{o i value:Expr}{pos pos':Pos}{td ty tv:au}
def NP:au:=λ_ M Q=>∀p,M p=none->Q (.ref p) (put M p (.dk []))
theorem ZE:ai X (.Dict [] [] pos) NP:=PE.imp U2 λσ0 H e h=>by
 obtain⟨f,M,Q,hs,b,d,c⟩:=h;intro p a;exact c _ _ _ _ (d p (b.free a)) (Ext.new a) (b.cV a ⟨[],rfl,rfl⟩) (by simp only[Rep])
def atKey(M:RM)(x y:RV)(P:Addr->bT->Key->Prop):Prop:=match x with
 | .ref a=>(match M a with|some (.dk kvs)=>(match fT y with|some k=>P a kvs k|none=>False)|_=>False)
 |_=>False
end
section
variable {X:Cx}{x m:Str}{p pos apos:Pos}{o e:Expr}{es:bb}{t:bS}{ta:au}{k:Nat}{ps:aB}{sp:bV}{C g:Addr}{fd:FuncData}
noncomputable def vF (C:Addr)(m:Str)(sp:bV)(ta:au)(t:bS):au:=λσ M Q=>ta σ M λx M1=>match x with
 | .ref a=>∃fs,M1 a=some (.ins C fs)/\fs.lookup m=none/\t σ M1 λrs M2=>sp (.ref a::rs) M2 Q
 |_=>False
theorem Uq(h:up X.K (vF C m sp ta t) σ0 H Q0):BS C m (fG X.K sp) [] (λ_ _ _=>False) (up X.K ta) (Dk X.K t) σ0 H Q0:=by
 obtain⟨σ,M,Q,hs,hv,ht,hk⟩:=h;refine⟨σ,M,_,hs,hv,ht,λrx M1 x H1 q e1 v1 r1=>?_⟩
 cases rx with
 |ref a=>
  obtain⟨fs,hm,hl,q⟩:=q;simp only[Rep]at r1;subst r1;obtain⟨ho,eo,dx,gs,rfl,hg⟩:=v1 a _ hm;refine⟨a,dx,gs,rfl,eo,AN hg hl,σ,M1,_,hs.ext e1,v1,q,λrs M2 vs H2 q2 e2 v2 r2=>?_⟩
  exact⟨.ref a::rs,M2,Q,by rw[oE];exact aa.cons (by simp only[Rep]) r2,v2,q2,hk.ext (e1.trans e2)⟩
 |_=>exact(show False from q).elim
theorem ZA(l:ai X o ta)(c:cI X.K C)(n:Meth X.K C m g)(F:dm X.prog X.w X.K X.mg X.base fg k g fd ps (fG X.K sp))(r:aJ k X.A)(j:Binds X.K fd ps [])(i:eV X (e::es) t)
 (b:starEach (e::es) X.env=(false,eval e X.env)::starEach es X.env:=by rfl) (a:(backTo pos (starEach es X.env)).any (·.1)=false:=by rfl)
 (s:eval (.Call (.Attribute o m apos) (e::es) [] pos) X.env=(do
  let d<-eval o X.env
  standAt apos.atName
  let(f,first) <-holding [d] (getMethod d m pl)
  callWith pos f first (backTo pos (starEach (e::es) X.env)) (backToKw pos (keywordEach [] X.env))):=by rfl):
 ai X (.Call (.Attribute o m apos) (e::es) [] pos) (vF C m sp ta t):=PE.imp (W9 l c n F r j .nil qa i b a s) λσ0 H u h=>Uq h
noncomputable def sF (C:Addr)(sp:bV)(t:bS):au:=λσ M Q=>t σ M λrs M1=>∀a,M1 a=none->sp (.ref a::rs) (put M1 a (.ins C [])) (λv M2=>v= .aq/\Q (.ref a) M2)
theorem ZC{h0:Nat}(f:Mk X.K C g)(F:dm X.prog X.w X.K X.mg X.base fg k g fd ps (fG X.K sp))(L:aJ (k+1) X.A)(J:X.mg x=some (.ref C))(A:Binds X.K fd ps [])(z:eV X (e::es) t)(E:Gl X x:=by rfl)(j:(x==("__debug__":Str))=false:=by decide)
 (D:starEach (e::es) X.env=(false,eval e X.env)::starEach es X.env:=by rfl) (l:(backTo pos (starEach es X.env)).any (·.1)=false:=by rfl):ai X (.Call (.Name x p) (e::es) [] pos) (sF C sp t):=PE.imp (Wt f F L E J A .nil qa z j D l) λσ0 H Y h=>by
 obtain⟨W,M,Q,hs,O,N,I⟩:=h;refine⟨W,M,_,hs,O,N,λrs M1 vs H1 q e1 u r1 a b r s R=>?_⟩
 have i:Ext H1 (upd H1 b (.own a)):=Ext.new s;have d:(upd H1 b (.own a)) a=none:=by rw[aE (cN R)];exact r
 have c:Ext H1 (upd (upd H1 b (.own a)) a (.ins C b [])):=i.trans (Ext.new d);refine⟨.ref a::rs,put M1 a (.ins C []),_,by rw[oE];exact aa.cons (by simp only[Rep]) (aa.ext c _ _ r1),(u.new s).cV d ⟨b,[],rfl,rfl⟩,q a (u.free r),λrv M2 v w n y U r2=>?_⟩
 obtain⟨rfl,n⟩:=n;simp only[Rep]at r2;exact⟨r2,I _ M2 _ w n ((e1.trans c).trans y) U (by simp only[Rep])⟩
end
section
variable {X:Cx}{o e f:Expr}{apos cpos:Pos}{td ty tx:au}
def qya:LR->RM->ao->Prop:=λrs M Q=>∃a b,rs= [.ref a]/\M a=some (.dk b)/\Q (.int b.length) M
theorem qzg:cM X (.builtin "len") (eF X.K qya):=by
 intro b s u H x us d I n h;obtain⟨rs,M,Q,r,c,⟨a,m,rfl,k,l⟩,j⟩:=h;obtain⟨v,rfl,r1⟩:=r.one;simp only[Rep]at r1;subst r1;obtain⟨w,g,t,rfl,i⟩:=c a _ k;exact Uz b s u H _ us d I n ⟨a,t,rfl,g,j _ M _ H l (.refl H) c (by simp only[Rep];rw[iC i])⟩
end
section
variable {X:Cx}{m:Str}{p pos apos:Pos}{o a b tg:Expr}{ta t1 t2:au}{k:Nat}{ps:aB}{sp:bV}{C g:Addr}{fd:FuncData}
theorem XE(he:ai X o ta)(c:cI X.K C)(hm:Meth X.K C m g)(F:dm X.prog X.w X.K X.mg X.base fg k g fd ps (fG X.K sp))(hr:aJ k X.A)(hb:Binds X.K fd ps [])
 (ht:eval (.Call (.Attribute o m apos) [] [] pos) X.env=(do
  let ov<-eval o X.env
  standAt apos.atName
  let(f,first) <-holding [ov] (getMethod ov m pl)
  callWith pos f first (backTo pos (starEach [] X.env)) (backToKw pos (keywordEach [] X.env))):=by rfl):
 ai X (.Call (.Attribute o m apos) [] [] pos) (vF C m sp ta j0):=PE.imp (UY he c hm F hr hb .nil qa ht) λσ0 H Q0 h=>by
 obtain⟨σ,M,Q,hs,hv,ht,hk⟩:=h;refine⟨σ,M,_,hs,hv,ht,λrx M1 x H1 q e1 v1 r1=>?_⟩
 cases rx with
 |ref a=>
  obtain⟨fs,hm,hl,q⟩:=q;simp only[Rep]at r1;subst r1;obtain⟨ho,eo,dx,gs,rfl,hg⟩:=v1 a _ hm;exact⟨a,dx,gs,rfl,eo,AN hg hl,[.ref a],M1,Q,aa.cons (by simp only[Rep]) aa.nil,v1,q,hk.ext e1⟩
 |_=>exact(show False from q).elim
def jS(lo:Int)(n:Nat):LR:=(List.range n).map λ(i:Nat)=>RV.int (lo+(i:Int))
theorem AG(lo)(n):(jS lo n).length=n:=by simp[jS]
theorem Xl{K:ag}{H1:Hp}(lo)(n)(es:Ext Hs H1):gX H0 Hs K (qV lo n) (jS lo n) cZ id H1 where
 turn:=λi H M e _ _ x hx=>by
  have hi:i<n:=by have:=(jG.mp hx).1;rw[AG]at this;exact this
  have c:x= .int (lo+(i:Int)):=by simp[jS,hi]at hx;exact hx.symm
  subst c;refine⟨hi,λv' d y=>?_⟩
  obtain⟨rfl,rfl⟩:=y;exact⟨.refl _,λ_ w=>w,by simp only[Rep]⟩
 stop:=λi H M e _ _ hi=>by rw[AG]at hi;exact hi
 cb:=mU es
noncomputable def yJ (Q:LR->(RM->Prop)->(RM->RM)->RM->Prop):LR->RM->Prop:=λrs M=>match rs with
 | [.int i,.int j]=>(-(2 ^ 62)<=i/\i<2 ^ 62/\-(2 ^ 62)<=j/\j<2 ^ 62)/\Q (jS i (j-i).toNat) cZ id M
 |_=>False
def NK(t1 t2:au):gj:=λσ M Q=>nX t1 (nX t2 j0) σ M (yJ Q)
theorem Xp(u:X.mg "range" =none)(n:ai X a t1)(s:ai X b t2)(e:Gl X "range":=by rfl)(l:starEach [a,b] X.env= [(false,eval a X.env),(false,eval b X.env)]:=by rfl)(f:starEach [b] X.env= [(false,eval b X.env)]:=by rfl)
 (c:starEach [a,b] X.env=(false,eval a X.env)::starEach [b] X.env:=by rfl) (d:starEach [b] X.env=(false,eval b X.env)::starEach [] X.env:=by rfl):hG X tg (.Call (.Name "range" p) [a,b] [] pos) (NK t1 t2):=
 PI.imp (Uj e u (sI n (sI s zx d) c) l f) λσ0 H R h=>by
 obtain⟨A,M,Q,hs,x,w,t⟩:=h;refine⟨A,M,yJ Q,hs,x,w,λrs M1 vs H1 q e1 z r1=>?_⟩
 unfold yJ at q;split at q
 . rename_i i j
   obtain⟨y,q⟩:=q;simp only[aa,Rep]at r1;obtain⟨v,r,rfl,rfl,E,D,rfl,rfl,rfl⟩:=r1;exact⟨i,j,rfl,y,t _ cZ id M1 _ H1 q e1 z (Xl _ _ e1)⟩
 . exact q.elim
end
section
variable {prog:Program}{w:World}{A:Around}{E:aQ}{s:Shared}
theorem Ld:∀{vs:ak} {ns:List Int},vs.length=ns.length->(∀(j:Nat) v,vs[j]? =some v->∃t,v= .int (ns.getD j 0) t)->IntsAre vs ns
 | [],[],_,_=>.nil
 |v::vs,n::ns,hl,h=>by
  obtain⟨t,e⟩:=h 0 v rfl;have e:v= .int n t:=e;subst e;exact .cons _ _ (Ld (by simpa using hl) λj u a=>h (j+1) u (by simpa using a))
theorem SF{ns:List Int}(hh:A.handled=none)(hd:s.heap.DictOf (c6 prog w) d kvs)(lo:(d==sysModules)=false)(D:kvs.map (·.1)=ns.map Sum.inl)(i:ns.length<64)
 (h:∀(B:Addr) (h':Heap) (tk e:Nat) (vs':ak) (c:List Int),(∀b o,s.heap.get? b=some o->h'.get? b=some o)->s.heap.get? B=none->h'.get? B=some { cls:=.type "list",data:=.seq vs'.toArray e }->IntsAre vs' c->c.Perm ns->c.Pairwise (. <= ·)->Q (.ref B) { s with heap:=h',toks:=tk }):
 wpAny (model prog w) A (call (.builtin "sorted") [.ref d]) Q E s:=by
 have r:kvs.length=ns.length:=by have:=congrArg List.length D;simpa using this
 obtain⟨o,O,ep,R,U,W,X,Y,Z⟩:=id hd;have y:s.heap.DictAt (c6 prog w) d kvs ep:=⟨o,O,R,U,W,X,Y,Z⟩;refine Calls.call_function_entry kind_sorted plain_sorted entry_sorted (args_sorted1 (.ref d)) ?_;unfold Builtin.«sorted»;refine aj (m:=checkCount "sorted" 1 1 _) (aI ?_);refine aj (PySem.W.kdu_collect (A:=A.in1) (PySem.W.kdl_dict (knd:=c6 prog w) (kvs:=kvs) (ep:=ep) lo) hh y (by rw[r];exact bQ (kh i) (by decide)) λg tk a F f=>?_)
 have C:a.toList.length=ns.length:=by rw[Array.length_toList,f.1,r]
 have hI:IntsAre a.toList ns:=Ld C λj v e=>by
  obtain⟨k,x,hx,z⟩:=f.2 j v (by rw[<-Array.getElem?_toList];exact e)
  have n:(kvs.map (·.1))[j]? =some k:=by rw[fJ,hx];rfl
  rw[D,fJ]at n;cases q:ns[j]? with
  |none=>rw[q]at n;cases n
  |some m=>
   rw[q]at n;have N:(Sum.inl m:Key)=k:=dz n;subst N;obtain⟨t,rfl⟩:=Value.isInt_shape (show Value.isInt m v=true from z)
   refine⟨t,?_⟩;rw[List.getD_eq_getElem?_getD,q];rfl
 refine aj (wpAny_newList ?_ (by rw[C];exact bQ (kh i) (by decide)))
 have l:(g.push { cls:=.type "list",data:=.seq a.toList.toArray }).get? g.objs.size=some (seqObj "list" a.toList.toArray 0):=dv _ rfl;refine aj (jM (jE PyProof.Rows.slot_list_sort ⟨_,l,rfl⟩ PyProof.Rows.entry_list_sort (list_sort_tree (s:={ s with heap:=g.push { cls:=.type "list",data:=.seq a.toList.toArray },toks:=tk }) l hI (by rw[C];exact i) λout c J L M=>⟨_,rfl,?_⟩) (args_list_sort _)))
 obtain⟨e,he⟩:=sortedHeap_at (out:=out) l;refine aI ⟨_,rfl,h g.objs.size _ tk e out.toList c (λb o' q=>?_) ?_ (by rw[Array.toArray_toList];exact he) J L M⟩
 . have H:=F b o' q
   have I:b<g.objs.size:=bA H;rw[sortedHeap_old (cE I) (by rw[size_push'];exact zO I)]
   exact bz _ H
 . cases q:s.heap.get? g.objs.size with
   |none=>rfl
   |some u=>exact aS (bA (F _ u q)) (ke _)
end
theorem Uo{P:Program}{a:Addr}(x:aD P w H h a o):∃u,h.get? a=some u:=by
 cases o with
 |lst xs=>obtain⟨_,_,_,_,e⟩:=x;exact⟨_,e⟩
 |tup xs=>obtain⟨_,_,_,o,e,_⟩:=x;exact⟨o,e⟩
 |dK kvs=>obtain⟨_,_,_,_,o,_,_,e,_⟩:=x;exact⟨_,e⟩
 |dT kvs=>obtain⟨_,_,_,_,o,_,_,e,_⟩:=x;exact⟨_,e⟩
 |set S n=>obtain⟨o,_,_,_,e,_⟩:=x;exact⟨_,e⟩
 |ins C dx fs=>obtain⟨_,_,_,e,_⟩:=x;exact⟨_,e⟩
 |own y=>obtain⟨_,e⟩:=x;exact⟨_,e⟩
 |xd fs=>obtain⟨_,⟨_,_,_,e,_⟩,_⟩:=x;exact⟨_,e⟩
 |qE lo hi=>obtain⟨_,_,_,e⟩:=x;exact⟨_,e⟩
 |aZ ob u=>obtain⟨e,_⟩:=x;exact⟨_,e⟩
 |oz ps=>exact⟨_,(show h.get? a=some _ from x)⟩
 |met f y=>exact⟨_,(show h.get? a=some _ from x)⟩
 |ext φ=>obtain⟨_,⟨_,e⟩,_⟩:=x;exact⟨_,e⟩
section
variable {X:Cx}{pins:aH}{σ:L2.St}{H:Hp}{s:Shared}{h':Heap}{a:Addr}{o:HO}
theorem none_of(I:Inv X pins σ H s)(b:s.heap.get? a=none):H a=none:=by
 cases q:H a with
 |none=>rfl
 |some u=>
  obtain⟨v,e⟩:=Uo (I.av a u q);rw[b]at e;cases e
theorem N5(I:Inv X pins σ H s)(k:∀b u,s.heap.get? b=some u->h'.get? b=some u)(h:s.heap.get? a=none)(f:aD X.prog X.w (upd H a o) h' a o):Inv X pins σ (upd H a o) { s with heap:=h',toks:=t' }:=by
 have d:=none_of I h;have j:∀b u,s.heap.get? b=some u->b≠a:=λb u e z=>by rw[z,h]at e;cases e
 refine I.un ⟨λb u q _ _ _=>k b u q,λb u q _ _ _=>⟨u.slots,k b u q⟩,λb u q n _=>by rw[aE (j b u q)];exact n,λb u q _=>⟨u,k b u q⟩,λb i q=>by rw[aE (d9 q d)];exact q,λb u i q=>by rw[aE (d9 q d)];exact q,λb l q=>⟨#[],by rw[aE (d9 q d),q];simp⟩⟩ λb u e=>?_
 by_cases g:b=a
 . subst g;rw[c0]at e;cases e;exact f
 . rw[aE g]at e
   exact(I.av b u e).ej (λc v _ q=>k c v q) (λc q=>by rw[aE (d9 q d)];exact q) λc i q=>by rw[aE (d9 q d)];exact q
end
theorem bC:∀{vs:ak} {ns:List Int},IntsAre vs ns->Vals (ns.map V.int) vs
 |_,_,.nil=>.nil
 |_,_,.cons _ t r=>.cons ⟨t,rfl⟩ (bC r)
theorem AL{K:ag}:∀(ns:List Int),aa K H (ns.map RV.int) (ns.map V.int)
 | []=>aa.nil
 |n::r=>aa.cons (by simp only[Rep]) (AL r)
theorem JW{K:ag}:∀{a:List (κ×RV)} {ws:List (κ×V)},aF K H a ws->a.map (·.1)=ws.map (·.1)
 | [],ws,h=>by have b:ws= []:=h;subst b;rfl
 |(j,x)::r,ws,h=>by
  obtain⟨w,t,rfl,d,c⟩:=h;rw[bU,bU,JW c]
theorem Lr:∀{a:List (κ×V)} {vs:List (κ×Value)},KV a vs->a.map (·.1)=vs.map (·.1)
 |_,_,.nil=>rfl
 |_,_,.cons r t=>by rw[bU,bU,r.1,Lr t]
section
variable {X:Cx}
noncomputable def Ms:LR->RM->ao->Prop:=λrs M Q=>∃a c ns,rs= [.ref a]/\M a=some (.dk c)/\c.map (·.1)=ns.map Sum.inl/\ns.length<64/\∀b:List Int,b.Perm ns->b.Pairwise (. <= ·)->Q (.ls (b.map RV.int)) M
theorem V0(hc:X.calm=true):cM X (.builtin "sorted") (eF X.K Ms):=by
 intro pins s σ H xs us Q0 I rl h;obtain⟨rs,M,Q,rr,hv,hq,hk⟩:=h;obtain⟨a,kvs,ns,rfl,hm,hkk,h64,hq⟩:=hq;simp only[aa,Rep]at rr;obtain⟨v,r,rfl,rfl,rfl⟩:=rr;obtain⟨u,rfl,ru⟩:=vals1 rl;cases ru;obtain⟨ho,eo,ws,rfl,hg⟩:=hv a _ hm;obtain⟨hz,hS,vs,r,m⟩:ws.length<=sizeLine/\(a==sysModules)=false/\∃vs,KV ws vs/\s.heap.DictOf (c6 X.prog X.w) a vs:=I.av a _ eo;refine SF (I.ok.hd hc) m hS (by rw[<-Lr r,<-JW hg];exact hkk) h64 λB h' tk e vs' ns' kp hB hget hI hp ho=>?_
 have hn:=none_of I hB;have hl:ns'.length<=sizeLine:=by rw[hp.length_eq];exact bQ (kh h64) (by decide)
 refine frozen ⟨.ref B,upd H B (.lst (ns'.map V.int)),N5 I kp hB ⟨by rw[ba];exact hl,vs',e,bC hI,hget⟩,rfl,H,B,_,rfl,hn,rfl,λo=>?_⟩
 exact hk _ M _ _ (hq ns' hp ho) (Ext.new hn) (hv.new hn) (js hn (AL ns'))
def Nl:LR->RM->ao->Prop:=λrs M Q=>match rs with
 | [.int i,.int j]=>Q (.int (if j > i then j else i)) M
 |_=>False
theorem Rh(e:X.calm=true):cM X (.builtin "max") (eF X.K Nl):=by
 intro a s l H o us d I k h;obtain⟨rs,M,Q,c,g,b,f⟩:=h
 match rs,b with
 | [.int i,.int j],b=>
  simp only[aa,Rep]at c;obtain⟨v,r,rfl,rfl,n,m,rfl,rfl,rfl⟩:=c;exact Uy e a s l H _ us d I k ⟨i,j,rfl,f _ M _ H b (.refl H) g (by simp only[Rep])⟩
end
open PySem.W
section
variable {prog:Program}{w:World}{A:Around}{E:aQ}{s:Shared}
def n8(vs:ak)(p:Array Nat):ak:=p.toList.map λi=>vs.getD i Value.none
def Cz(prog:Program)(w:World)(A:Around)(s:Shared)(a:Addr)(vs:ak){O:KeyOrd}(f:Nat->O.α):Prop:=∀g:Heap,(∀b o,b≠a->s.heap.get? b=some o->g.get? b=some o)->
 ∃κ,(∀(Q:SortKind->Shared->Prop) (E':aQ),Q κ { s with heap:=g }->wpAny (model prog w) A (keyKind' vs.toArray) Q E' { s with heap:=g })/\
  ∀i j C,i<vs.length->j<vs.length->C (gK f i j) { s with heap:=g }->kas_ask prog w A κ vs i j C { s with heap:=g }
theorem Yu{vs:ak}{O:KeyOrd}{f:Nat->O.α}(h:vs.length<2):∃p,Ar vs.length p/\SU f p vs.length/\n8 vs p=vs:=by
 match vs,h with
 | [],_=>exact⟨#[],⟨rfl,by simp⟩,λi j _ z=>aS z (tf _),rfl⟩
 | [v],_=>exact⟨#[0],⟨rfl,by simp[List.range_succ]⟩,λi j b c=>by rw[show i=j by simp at c;omega];exact KeyOrd.kle_refl _,rfl⟩
theorem TJ{a:Addr}{vs:ak}{n:Nat}{P:Fin->Shared->Prop}{O:KeyOrd}{f:Nat->O.α}(ho:s.heap.get? a=some (seqObj "list" vs.toArray n))(h64:vs.length<64)(hk:2<=vs.length->Cz prog w A s a vs f)
 (h:∀p,Ar vs.length p->SU f p vs.length->P (.done (.ret .none)) { s with heap:=sortedHeap s.heap a vs (n8 vs p).toArray }):wpAny (model prog w) A (Builtin.«list.sort» ⟨[.ref a],[]⟩) P E s:=by
 have la:a<s.heap.objs.size:=bA ho;have big:(64:Nat)<=sizeLine:=by decide
 obtain⟨e1,ho1⟩:∃e1,(s.heap.update a (Obj.mapSeq λ_=>(#[]:Array Value))).get? a=some (seqObj "list" #[] e1):=⟨_,get?_update_seq ho λ_=>#[]⟩
 rw[list_sort_plain];refine aj (listItems_at ho rfl (aj (listUpdate_at ho rfl (aj (seqEpoch_at ho1 rfl (aj (wpAny_newTuple (aj (wpAny_newList (jM ?_) (jN _))) (by show vs.length<=_;omega))))) (by rw[dW];omega) (jN _))))
 let g:=((s.heap.update a (Obj.mapSeq λ_=>(#[]:Array Value))).push (seqObj "tuple" vs.toArray 0)).push (seqObj "list" #[] 0)
 have hg:g.get? a=some (seqObj "list" #[] e1):=bz _ (bz _ ho1);have kg:∀b o,b≠a->s.heap.get? b=some o->g.get? b=some o:=λb o hb e=>bz _ (bz _ (by rw[Heap.get?_update_ne _ _ _ _ hb];exact e))
 show wpAny (model prog w) A _ P E { s with heap:=g }
 dsimp only;have fin:∀(st:SortSt) p,Ar vs.length p->SU f p vs.length->(arrOf st).map (·.2)=(n8 vs p).toArray->failedOf st=none->wpAny (model prog w) A (do
  let touched:=(<-seqEpoch a) != e1
  Builtin.List.listUpdate (.ref a) λ_=>(arrOf st).map (·.2)
  if let some e:=failedOf st then rule "list.sort.comparison-raised";throw e
  if touched then rule "list.sort.modified";raiseError "ValueError" "list modified during sort"
  ret .none) P E { s with heap:=g }:=λst p ar su e ef=>by
  have z:(n8 vs p).length=vs.length:=by unfold n8;rw[ba,Array.length_toList,ar.sz]
  rw[e,ef];refine aj (seqEpoch_at hg rfl (aj (listUpdate_at hg rfl ?_ (jN _) (by rw[dW,z];omega))))
  simp only[bne_self_eq_false,jI,if_false];exact aI (h p ar su)
 by_cases h2:vs.toArray.size<2
 . obtain⟨p,ar,su,e⟩:=Yu (f:=f) (by simpa using h2)
   rw[ah h2,ah h2];refine aj (aI ?_);rw[StateT.run_pure];refine aj (aI (fin _ p ar su ?_ rfl));rw[e];show(vs.toArray.zip vs.toArray).map (·.2)=_
   apply Array.toList_inj.mp;simp[List.map_snd_zip]
 . have l2:2<=vs.length:=by simpa using h2
   obtain⟨κ,k1,k2⟩:=hk l2 g kg;rw[ae h2,ae h2];refine aj (k1 _ _ (aj (gw (kat_run (Q:=λst' s'=>s'= { s with heap:=g }/\∃p,Ar vs.length p/\SU f p vs.length/\arrOf st'=p.map (kas_item (vs.toArray.zip vs.toArray))/\failedOf st'=none)
    (G:=λp s'=>s'= { s with heap:=g }/\Ar vs.length p/\SU f p vs.length) rfl l2 h64 (λp st' s' _ a2 a3 a4=>⟨a4.1,p,a4.2.1,a4.2.2,a2,a3⟩) (NQ k2 (WY (by omega) λp ar su=>⟨rfl,ar,su⟩))) ?_ λ_ _ x=>x)))
   rintro ⟨⟨⟩,st'⟩ s' ⟨rfl,p,ar,su,e2,e3⟩;exact fin st' p ar su (kat_snds rfl e2) e3
theorem SE{l:Addr}{vs:ak}{Q:aQ}{O:KeyOrd}{f:Nat->O.α}(hl:s.heap.IsList l vs.toArray)(h64:vs.length<64)
 (hk:2<=vs.length->∀a g,s.heap.get? a=none->(∀b o,s.heap.get? b=some o->g.get? b=some o)->Cz prog w A.in1.in1 { s with heap:=g } a vs f)
 (h:∀B h' e p,(∀b o,s.heap.get? b=some o->h'.get? b=some o)->s.heap.get? B=none->h'.get? B=some (seqObj "list" (n8 vs p).toArray e)->Ar vs.length p->SU f p vs.length->Q (.ref B) { s with heap:=h' }):
 wpAny (model prog w) A (call (.builtin "sorted") [.ref l]) Q E s:=by
 have big:(64:Nat)<=sizeLine:=by decide
 refine Calls.call_function_entry kind_sorted plain_sorted entry_sorted (args_sorted1 (.ref l)) ?_;unfold Builtin.«sorted»;refine aj (m:=checkCount "sorted" 1 1 _) (aI (aj (collect_list hl (aj (wpAny_newList ?_ (by omega))) (by omega))))
 let g0:=(s.heap.push (seqObj "list" #[] 0)).update s.heap.objs.size (Obj.mapSeq (. ++vs.toArray))
 have z0:g0.objs.size=s.heap.objs.size+1:=by show Array.size (Heap.objs (Heap.update _ _ _))=_;rw[Heap.size_update,size_push']
 have kp:∀b o,s.heap.get? b=some o->(g0.push (seqObj "list" vs.toArray 0)).get? b=some o:=λb o e=>bz _ (by
  show Heap.get? (Heap.update _ _ _) b=_;rw[Heap.get?_update_ne _ _ _ _ (cE (bA e))];exact bz _ e)
 have hB:s.heap.get? g0.objs.size=none:=Heap.get?_none_of_le (by rw[z0];exact iU _)
 have hoL:(g0.push (seqObj "list" vs.toArray 0)).get? g0.objs.size=some (seqObj "list" vs.toArray 0):=dv _ rfl;show wpAny _ _ _ _ _ { s with heap:=g0.push (seqObj "list" vs.toArray 0) }
 refine aj (jM (jE PyProof.Rows.slot_list_sort ⟨_,hoL,rfl⟩ PyProof.Rows.entry_list_sort (TJ (s:={ s with heap:=g0.push (seqObj "list" vs.toArray 0) }) (f:=f) hoL h64 (λh2=>hk h2 _ _ hB kp) λp ar su=>⟨_,rfl,?_⟩) (PyProof.Rows.args_list_sort (.ref g0.objs.size))))
 obtain⟨e,he⟩:=sortedHeap_at (out:=(n8 vs p).toArray) hoL;refine aI ⟨_,rfl,h g0.objs.size _ e p (λb o q=>?_) hB he ar su⟩
 have ne:b≠g0.objs.size:=λz=>by rw[z,hB]at q;cases q
 rw[sortedHeap_old ne (by rw[size_push'];exact zO (by rw[z0];exact zO (bA q)))]
 exact kp b o q
end
section
variable {X:Cx}{pins:aH}{σ:L2.St}{H:Hp}{s:Shared}
noncomputable def fj (M:RM):RV->RV
 | .ref a=>(match M a with|some (.lst xs)=>.ls xs|_=>.ref a)
 |x=>x
theorem L7(I:Inv X pins σ H s){n:Nat}:∀{rs:LR} {vs:LV} {us:ak},rs.all (aA n)=true->aa X.K H rs vs->Vals vs us->ay s.heap rs us
 | [],vs,us,_,r,w=>by
  have e:vs= []:=by simpa only[aa]using r
  subst e;cases w;simp only[ay]
 |x::rs,vs,us,o,r,w=>by
  rw[fb,aY]at o;simp only[aa]at r;obtain⟨v,b,rfl,r1,r2⟩:=r;obtain⟨u,a,rfl,c,d⟩:=Vals.cons_inv w;simp only[ay];exact⟨u,a,rfl,iE I n x v u o.1 r1 c,L7 I o.2 r2 d⟩
theorem yn(I:Inv X pins σ H s)(d:View X.K H M){a:RV}{x:V}{v:Value}(o:aA 16 (fj M a)=true)(ra:Rep X.K H a x)(b:RelV x v):Den s.heap (fj M a) v:=by
 cases a with
 |ref p=>
  cases q:M p with
  |none=>rw[show fj M (.ref p)= .ref p by simp only[fj,q]]at o;cases o
  |some ob=>
   cases ob with
   |lst xs=>
    have e:fj M (.ref p)= .ls xs:=by simp only[fj,q]
    rw[e]at o ⊢;simp only[Rep]at ra;subst ra;cases b;obtain⟨g,e0,vs,rfl,c⟩:=d p _ q;obtain⟨ab,rv,f,h⟩:=I.list (cx.of e0);simp only[Den];exact⟨p,ab,rfl,f.isList,L7 I (n:=15) o c rv⟩
   |_=>rw[show fj M (.ref p)= .ref p by simp only[fj,q]]at o;cases o
 |_=>exact iE I 16 _ x v o ra b
def HC:cu:=λx y M Q=>aA 16 (fj M x)=true/\aA 16 (fj M y)=true/\Q (.bl (bc (fj M x) (fj M y))) M
def Hq:cu:=λx y M Q=>aA 16 (fj M x)=true/\aA 16 (fj M y)=true/\Q (.bl (!bc (fj M x) (fj M y))) M
theorem RE(k:X.A.units+64<cLine):cS X (compareOp .Eq) HC:=by
 intro pins s σ H x y v u j I g i h;obtain⟨a,b,M,Q,ra,rb,c,⟨o1,d,f⟩,e⟩:=h;exact Vw 15 _ _ X.A s v u o1 d (yn I c o1 ra g) (yn I c d rb i) (by omega) _ _ _ _ ⟨.bl _,H,I,rfl,e _ M _ H f (.refl H) c (by simp only[Rep])⟩
theorem Rz(k:X.A.units+64<cLine):cS X (compareOp .NotEq) Hq:=by
 intro pins s σ H x y v u j I g i h;obtain⟨a,b,M,Q,ra,rb,c,⟨o1,d,f⟩,e⟩:=h;exact JP 15 _ _ X.A s v u o1 d (yn I c o1 ra g) (yn I c d rb i) (by omega) _ _ _ _ ⟨.bl _,H,I,rfl,e _ M _ H f (.refl H) c (by simp only[Rep])⟩
end
section
variable {X:Cx}
noncomputable def tY (Q:ao):LR->RM->Prop:=λrs M=>match rs with
 | [.int i,.int j]=>(-1000000<=i/\i<=1000000/\-1000000<=j/\j<=1000000)/\(j-i).toNat<=1000/\Q (.ls (jS i (j-i).toNat)) M
 |_=>False
def Mu(ta tb:au):au:=λσ M Q=>nX ta (nX tb j0) σ M (tY Q)
theorem J7(a:Int):∀(vs:ak) (k:Nat),(∀(j:Nat) v,vs[j]? =some v->∃t,v= .int (a+((k+j:Nat):Int)) t)->Vals ((List.range' k vs.length).map λ(j:Nat)=>V.int (a+(j:Int))) vs
 | [],_,_=>.nil
 |v::vs,k,h=>by
  obtain⟨t,e⟩:=h 0 v rfl;rw[cQ,List.range'_succ,bU];refine .cons ⟨t,e⟩ (J7 a vs (k+1) λj u c=>?_)
  obtain⟨d,b⟩:=h (j+1) u (by simpa using c)
  refine⟨d,?_⟩;rw[b,show k+(j+1)=k+1+j by omega]
theorem Kc{K:ag}(a:Int):∀(l:List Nat),aa K H (l.map λ(j:Nat)=>RV.int (a+(j:Int))) (l.map λ(j:Nat)=>V.int (a+(j:Int)))
 | []=>aa.nil
 |j::r=>aa.cons (by simp only[Rep]) (Kc a r)
theorem boot_list:bootBuiltins "list" =some (.type "list"):=by decide+kernel
theorem XG{a b:Expr}{p1 z c pos:Pos}(J:X.mg "list" =none)(L:X.mg "range" =none)(hc:X.calm=true)(ha:ai X a t1)(hb:ai X b t2)(E:Gl X "list")(F:Gl X "range")
 (N:starEach [a,b] X.env= [(false,eval a X.env),(false,eval b X.env)]:=by rfl) (n:starEach [b] X.env= [(false,eval b X.env)]:=by rfl)
 (C:starEach [a,b] X.env=(false,eval a X.env)::starEach [b] X.env:=by rfl) (D:starEach [b] X.env=(false,eval b X.env)::starEach [] X.env:=by rfl)
 (g:starEach [Expr.Call (.Name "range" z) [a,b] [] c] X.env=(false,eval (Expr.Call (.Name "range" z) [a,b] [] c) X.env)::starEach [] X.env:=by rfl):
 ai X (.Call (.Name "list" p1) [.Call (.Name "range" z) [a,b] [] c] [] pos) (Mu t1 t2):=by
 intro u s Y H Q0 I h;obtain⟨σ,M,Q,hs,hv,ht,hk⟩:=h;have f:eV X [a,b] (nX t1 (nX t2 j0)):=sI ha (sI hb zx D) C;refine Call_ (m4 I E J boot_list (sZ ?_ g rfl));rw[g];show wpAny _ _ (spliced ((false,eval (Expr.Call (.Name "range" z) [a,b] [] c) X.env)::backTo pos (starEach [] X.env))) _ _ s;refine Calls.spliced_cons (Call_ (m4 I F L boot_range (sZ (az (f c u s Y H (λvs H1=>∃i j M1,vs= [V.int i,V.int j]/\tY Q [.int i,.int j] M1/\Ext H H1/\View X.K H1 M1) I ⟨σ,M,_,hs,hv,ht,λrs M1 vs H1 q e1 W r1=>?_⟩) λus w U=>?_) (by rw[N,n]) (by rw[n];rfl))))
 . unfold tY at q
   split at q
   . simp only[aa,Rep]at r1
     obtain⟨v,r,rfl,rfl,v',r',rfl,rfl,rfl⟩:=r1;exact⟨_,_,M1,rfl,q,e1,W⟩
   . exact q.elim
 . obtain⟨vs,H1,Z,rv,i,j,M1,rfl,q,e1,W⟩:=U
   obtain⟨u1,us1,rfl,U,rv⟩:=Vals.cons_inv rv;obtain⟨u2,us2,rfl,q2,rv⟩:=Vals.cons_inv rv;cases rv;obtain⟨x,rfl⟩:=U;obtain⟨y,rfl⟩:=q2;obtain⟨⟨b1,b2,b3,b4⟩,hn,q⟩:=q;refine call_range_2 ?_;have A:=Z.kept (h':=w.heap.push { cls:=.type "range",data:=.fields #[.int i x,.int j y,.int 1 w.toks] }) (t':=w.toks+1) (λb o e=>bz _ e)
   refine Calls.spliced_nil ?_;have O:Builtin.Range.rangeSize i j 1=((j-i).toNat:Int):=by rw[rangeSize_one];split<;>omega
   refine call_list_range (A.ok.hd hc) (IsRange.new w.heap i j 1 x y w.toks) (small_one (by omega) (by omega) (by omega) (by omega)) O (by omega) λh' tk d c' kp l m=>?_
   have eD:=A.av.fresh (aN _);have R:Vals ((List.range (j-i).toNat).map λ(k:Nat)=>V.int (i+(k:Int))) d.toList:=by
    have:=J7 i d.toList 0 λk v e=>by
     obtain⟨t,e'⟩:=m.2 k v (by rw[<-Array.getElem?_toList];exact e)
     exact⟨t,by rw[e'];simp⟩
    rw[Array.length_toList,m.1]at this;rw[List.range_eq_range'];exact this
   refine frozen ⟨.ref _,_,A.laid kp (aN _) (o:=.lst ((List.range (j-i).toNat).map λ(k:Nat)=>V.int (i+(k:Int)))) ⟨by rw[ba,zP];exact bQ hn (by decide),d.toList,c',R,by rw[Array.toArray_toList];exact l⟩,rfl,H1,_,_,rfl,eD,rfl,λo=>?_⟩
   exact hk _ M1 _ _ q (e1.trans (Ext.new eD)) (W.new eD) (js eD (Kc i _))
end
structure tL(P:Program)(w:World)(K:ag)(mg:bq)(base:Heap)(C:Addr)(k:Nat)(m:Str)(ps:aB)(sp:bV):Prop where
 ex:∃(g:Addr) (fd:FuncData),Meth K C m g/\Binds K fd ps []/\dm P w K mg base fg k g fd ps (fG K sp)
structure zV(P:Program)(w:World)(K:ag)(mg:bq)(base:Heap)(C:Addr)(k:Nat)(ps:aB)(sp:bV):Prop where
 ex:∃(g:Addr) (fd:FuncData),Mk K C g/\Binds K fd ps []/\dm P w K mg base fg k g fd ps (fG K sp)
section
variable {X:Cx}{x m:Str}{p pos apos:Pos}{o e:Expr}{es:bb}{t:bS}{ta:au}{k:Nat}{ps:aB}{sp:bV}{C:Addr}
theorem XD(F:tL X.prog X.w X.K X.mg X.base C k m ps sp)(c:cI X.K C)(n:aJ k X.A)(j:ai X o ta)(h:eV X (e::es) t)
 (b:starEach (e::es) X.env=(false,eval e X.env)::starEach es X.env:=by rfl) (a:(backTo pos (starEach es X.env)).any (·.1)=false:=by rfl)
 (r:eval (.Call (.Attribute o m apos) (e::es) [] pos) X.env=(do
  let d<-eval o X.env
  standAt apos.atName
  let(f,first) <-holding [d] (getMethod d m pl)
  callWith pos f first (backTo pos (starEach (e::es) X.env)) (backToKw pos (keywordEach [] X.env))):=by rfl):
 ai X (.Call (.Attribute o m apos) (e::es) [] pos) (vF C m sp ta t):=by
 obtain⟨g,s,l,i,F⟩:=F.ex;exact ZA j c l F n i h b a r
theorem WQ(F:tL X.prog X.w X.K X.mg X.base C k m ps sp)(c:cI X.K C)(i:aJ k X.A)(d:ai X o ta)
 (j:eval (.Call (.Attribute o m apos) [] [] pos) X.env=(do
  let a<-eval o X.env
  standAt apos.atName
  let(f,first) <-holding [a] (getMethod a m pl)
  callWith pos f first (backTo pos (starEach [] X.env)) (backToKw pos (keywordEach [] X.env))):=by rfl):
 ai X (.Call (.Attribute o m apos) [] [] pos) (vF C m sp ta j0):=by
 obtain⟨g,l,h,b,F⟩:=F.ex;exact XE d c h F i b j
theorem XF(F:zV X.prog X.w X.K X.mg X.base C k ps sp)(l:aJ (k+1) X.A)(j:X.mg x=some (.ref C))(d:eV X (e::es) t)(i:Gl X x:=by rfl)(a:(x==("__debug__":Str))=false:=by decide)
 (h:starEach (e::es) X.env=(false,eval e X.env)::starEach es X.env:=by rfl) (b:(backTo pos (starEach es X.env)).any (·.1)=false:=by rfl):ai X (.Call (.Name x p) (e::es) [] pos) (sF C sp t):=by
 obtain⟨g,n,c,f,F⟩:=F.ex;exact ZC (h0:=0) c F l j f d i a h b
end
section
variable {X:Cx}
noncomputable def NL:LR->RM->ao->Prop:=λrs M Q=>match rs with
 | [.ref a,.ty T']=>T'= "list"/\(match M a with|some (.lst _)=>Q (.bl true) M|_=>False)
 |_=>False
theorem T2:cM X (.builtin "isinstance") (eF X.K NL):=by
 intro pins s σ H xs us Q0 I rl h;obtain⟨rs,M,Q,rr,hv,hq,hk⟩:=h;unfold NL at hq;split at hq
 . rename_i a T'
   obtain⟨rfl,hq⟩:=hq;obtain⟨v,w,rfl,r1,r2⟩:=rr.two;obtain⟨u,u',rfl,w1,w2⟩:=vals2 rl;simp only[Rep]at r1 r2;subst r1;subst r2;obtain rfl:u'=Value.type "list":=w2;cases(show u=Value.ref a from w1)
   split at hq
   . rename_i ys em
     obtain⟨ho,e,r⟩:=hv a _ em;obtain⟨vs,rfl,hr⟩:=r;obtain⟨ab,_,pt,_⟩:=I.list (cx.of e);obtain⟨o,h1,h2,_⟩:=pt.isList;exact qT PySem.W.kitx_list I.de ⟨o,h1,h2⟩ (Jv X.K) (λz=>nomatch z) λtk=>⟨.bl true,H,I.tok tk,rfl,hk _ M _ H hq (.refl H) hv (by simp only[Rep])⟩
   . exact hq.elim
 . exact hq.elim
end
abbrev TK:=List (Option Key)
noncomputable def n9:RV->Option (Option Key)
 | .aq=>some none
 | .int i=>some (some (.inl i))
 | .str x=>some (some (.inr x))
 |_=>none
noncomputable def gB:LR->Option TK
 | []=>some []
 |r::rs=>match n9 r,gB rs with
  |some k,some ks=>some (k::ks)
  |_,_=>none
def eZ:RV->Option TK
 | .tup rs=>gB rs
 |_=>none
noncomputable def jW (kvs:List (TK×Str))(k:TK):RV:=match kvs.find? λp=>decide (p.1=k)with
 |some p=>.str p.2
 |none=>.aq
noncomputable def wm:List (TK×Str)->List (TK×Addr×Value)->Prop
 | [],[]=>True
 |(k,y)::r,(k',_,v)::r'=>k=k'/\(∃t,v= .str y t)/\wm r r'
 |_,_=>False
theorem J8:∀{b:List (TK×Str)} {xs:List (TK×Addr×Value)},wm b xs->
 (∃y t,jW b k= .str y/\((PySem.atKey xs k).map (·.2)).getD .none= .str y t)∨(jW b k= .aq/\((PySem.atKey xs k).map (·.2)).getD .none= .none)
 | [],[],_=>.inr ⟨rfl,rfl⟩
 |(k1,y)::r,(k',a,v)::r',⟨e,⟨t,ev⟩,h⟩=>by
  subst e;subst ev
  by_cases q:k1=k
  . subst q
    exact .inl ⟨y,t,by simp[jW],by simp[PySem.atKey]⟩
  . have e1:jW ((k1,y)::r) k=jW r k:=by simp[jW,q]
    have c:PySem.atKey ((k1,a,Value.str y t)::r') k=PySem.atKey r' k:=by simp[PySem.atKey,q]
    rw[e1,c];exact J8 h
structure qk(P:Program)(w:World)(K:ag)(mg:bq)(x:Str)(kvs:List (TK×Str)):Prop where
 ex:∃a xs,mg x=some (.ref a)/\(a==sysModules)=false/\(∀h:Heap,K.In h->h.DictOfH (tupleKind (optKind P w)) a xs)/\wm kvs xs
theorem UT{P:Program}{K:ag}{x:Str}{a:Addr}{sl:Array (cK)}{xs:List (TK×Addr×Value)}
 (j:mg x=some (.ref a)) (l:K.lookup a=some ⟨.type "dict",none,.dict es ep,sl⟩) (h:(a==sysModules)=false) (c:Obj.ExactDict ⟨.type "dict",none,.dict es ep,sl⟩)
 (i:es.toList=xs.map (entryOfKey (tupleKind (optKind P w)))) (hi:∀y∈xs,∃o b n,K.lookup y.2.1=some o/\o.cls= .type "tuple"/\o.data= .seq b n/\ItemsAre (optKind P w) y.1 b.toList)
 (k:(xs.map (·.1)).Nodup) (m:wm kvs xs):qk P w K mg x kvs:=
 ⟨a,xs,j,h,λh X=>⟨_,es,ep,X _ _ l,c,rfl,i,λy r=>by
  obtain⟨o,b,n,d,e,f,g⟩:=hi y r;exact⟨o,b,n,X _ _ d,e,f,g⟩,k⟩,m⟩
theorem A8{P:Program}{K:ag}:∀{rs:LR} {ks:TK} {vs:LV} {ab:ak},gB rs=some ks->aa K H rs vs->Vals vs ab->ItemsAre (optKind P w) ks ab
 | [],ks,vs,ab,e,r,v=>by
  cases e;simp only[aa]at r;subst r;cases v;exact .nil
 |r::rs,ks,vs,ab,e,hr,v=>by
  obtain⟨x,f,rfl,a,d⟩:=(by simpa only[aa]using hr:∃v c,vs=v::c/\Rep K H r v/\aa K H rs c)
  cases v with
  |cons v1 v2=>
   rename_i u b;simp only[gB]at e;cases e1:n9 r with
   |none=>rw[e1]at e;cases e
   |some k=>
    cases e2:gB rs with
    |none=>rw[e1,e2]at e;cases e
    |some ks'=>
     rw[e1,e2]at e;cases e;refine .cons ?_ (A8 e2 d v2);cases r with
     |aq=>
      cases e1;have:x= .aq:=by simpa only[Rep]using a
      subst this;cases(show u=Value.none from v1)
      rfl
     |int i=>
      cases e1;have:x= .int i:=by simpa only[Rep]using a
      subst this;exact jt (P:=P) (w:=w) (k:=.inl i) v1
     |str y=>
      cases e1;have:x= .str y:=by simpa only[Rep]using a
      subst this;exact jt (P:=P) (w:=w) (k:=.inr y) v1
     |_=>cases e1
section
variable {X:Cx}
def yq(kvs:List (TK×Str))(Q:ao):ao:=λk M1=>match eZ k with
 |some ks=>Q (jW kvs ks) M1
 |none=>False
def yA(kvs:List (TK×Str))(te:au):au:=λσ M Q=>te σ M (yq kvs Q)
theorem Wf{x:Str}{e:Expr}{p c d:Pos}(F:X.A.units+1<cLine)(T:qk X.prog X.w X.K X.mg x kvs)(W:ai X e te)(m:M1 X (.Name x p) "get" c e d:=by exact⟨rfl,rfl,rfl,rfl⟩)
 (Y:Gl X x:=by rfl) (U:(x==("__debug__":Str))=false:=by decide):ai X (.Call (.Attribute (.Name x p) "get" c) [e] [] d) (yA kvs te):=by
 obtain⟨a,J,hm,D,C,Z⟩:=T.ex;intro i s A H Q0 I h;obtain⟨σ,M,Q,u,hv,ht,E⟩:=h;have d0:=C _ I.de;refine wpAny_Call_method m.base m.q9 m.line PySem.F.plainAttrs_dict PySem.F.slot_dict_get PySem.F.type_dict_get (nR I Y hm ⟨d0.typeIs,λb q=>?_,?_⟩ U)
 . cases q
   obtain⟨ob,_,_,j,l,_⟩:=d0;exact⟨ob,j,l.2.1⟩
 rw[m.trees];refine Calls.callWith_builtin rfl (Calls.evalArgs_plain (Calls.spliced_cons (az (W i s A H (λv H1=>∃r M1,Rep X.K H1 r v/\Ext H H1/\View X.K H1 M1/\yq kvs Q r M1) I ⟨σ,M,_,u,hv,ht,λr M1 v H1 q e w r1=>⟨r,M1,r1,e,w,q⟩⟩)
  λiv s2 ⟨y,H2,I2,ry,r,M2,rr,e2,w2,q2⟩=>Calls.spliced_nil ?_)))
 unfold yq at q2;cases ek:eZ r with
 |none=>rw[ek]at q2;exact q2.elim
 |some ks=>
  rw[ek]at q2;simp only at q2;cases r with
  |tup rs=>
   obtain⟨b,vs,rfl,O,N⟩:=(by simpa only[Rep]using rr:∃a vs,y= .ref a/\H2 a=some (.tup vs)/\aa X.K H2 rs vs)
   cases(show iv=Value.ref b from ry)
   obtain⟨ab,R,⟨o,j,l,n,L⟩,_⟩:=I2.tuple (bL.of O);have g:IsTupleKey (optKind X.prog X.w) s2.heap ks b:=⟨o,ab.toArray,n,j,l,L,by simpa using A8 ek N R⟩
   have dd:=C _ I2.de;rcases J8 (k:=ks) Z with⟨z,t,e1,f⟩|⟨e1,f⟩
   . refine call_meetsIn PySem.F.slot_dict_get dd.typeIs PySem.F.entry_dict_get (PySem.F.args_dict_get_2 _ _) (meetsH_dict_get (tupleKind (optKind X.prog X.w)) a b D) ⟨tupleKind_room_in1 F,ks,J,g,dd,.str z,H2,I2.tok _,by rw[f];exact⟨t,rfl⟩,?_⟩
     exact E _ M2 _ H2 q2 e2 w2 (by rw[e1];simp only[Rep])
   . refine call_meetsIn PySem.F.slot_dict_get dd.typeIs PySem.F.entry_dict_get (PySem.F.args_dict_get_2 _ _) (meetsH_dict_get (tupleKind (optKind X.prog X.w)) a b D) ⟨tupleKind_room_in1 F,ks,J,g,dd,.aq,H2,I2.tok _,by rw[f];rfl,?_⟩
     exact E _ M2 _ H2 q2 e2 w2 (by rw[e1];simp only[Rep])
  |_=>cases ek
end
section
variable {κ:Type}[DecidableEq κ]{K:ag}{H:Hp}{k:κ}{v:RV}{u:V}
noncomputable def lk(kvs:List (κ×α))(k:κ):Option α:=(kvs.find? λp=>decide (p.1=k)).map (·.2)
theorem gk{x:α}:lk ((j,x)::r) k=if j=k then some x else lk r k:=by
 unfold lk;rw[jF]
 by_cases h:j=k
 . rw[ah h,fK (show(j,x).1=k from h)];rfl
 . rw[ae h,gH (show ¬(j,x).1=k from h)]
noncomputable def pt(kvs:List (κ×α))(k:κ)(v:α):List (κ×α):=
 if(kvs.any λkv=>decide (kv.1=k))=true then kvs.map (λkv=>if kv.1=k then(kv.1,v)else kv)else kvs++ [(k,v)]
theorem jr:∀{a:List (κ×RV)} {ws:List (κ×V)},aF K H a ws->(∀r,lk a k=some r->∃v,fQ ws k=some v/\Rep K H r v)/\(lk a k=none->fQ ws k=none)
 | [],ws,h=>by
  have h:ws= []:=h;subst h;exact⟨λr e=>(by cases e),λ_=>rfl⟩
 |(j,x)::t,ws,h=>by
  obtain⟨v,u,rfl,d,f⟩:=h;have c:=jr f;rw[gk]
  by_cases b:j=k
  . rw[ah b]
    refine⟨λr e=>⟨v,vb (p:=(j,v)) b,?_⟩,λe=>(by cases e)⟩
    cases e;exact d
  . rw[ae b]
    exact⟨λr e=>by rw[pP (p:=(j,v)) b];exact c.1 r e,λe=>by rw[pP (p:=(j,v)) b];exact c.2 e⟩
theorem JX:∀{kvs:List (κ×RV)} {ws:List (κ×V)},aF K H kvs ws->(kvs.any λkv=>decide (kv.1=k))=ws.any λkv=>decide (kv.1=k)
 | [],ws,h=>by have h':ws= []:=h;subst h';rfl
 |(j,x)::r,ws,h=>by
  obtain⟨w,t,rfl,h1,h2⟩:=h;rw[kf,kf,JX h2]
theorem AO(hv:Rep K H v u):∀{kvs:List (κ×RV)} {ws:List (κ×V)},aF K H kvs ws->aF K H (kvs.map λkv=>if kv.1=k then(kv.1,v)else kv) (ws.map λkv=>if kv.1=k then(kv.1,u)else kv)
 | [],ws,h=>by have h':ws= []:=h;subst h';rfl
 |(j,x)::r,ws,h=>by
  obtain⟨w,t,rfl,h1,h2⟩:=h;rw[bU,bU]
  by_cases e:j=k
  . rw[ah (show(j,x).1=k from e),ah (show(j,w).1=k from e)];exact⟨u,_,rfl,hv,AO hv h2⟩
  . rw[ae (show ¬(j,x).1=k from e),ae (show ¬(j,w).1=k from e)];exact⟨w,_,rfl,h1,AO hv h2⟩
theorem Ll(a:Rep K H v u)(h:aF K H kvs ws):aF K H (pt kvs k v) (putK ws k u):=by
 unfold pt putK;rw[JX h];split
 . exact AO a h
 . exact KJ h ⟨u,[],rfl,a,rfl⟩
end
theorem Vc{K:ag}{x:V}(e:n9 r=some k)(h:Rep K H r x):x=oV k:=by
 cases r<;>first|(cases e;simp only[Rep]at h;exact h)|cases e
theorem K3{K:ag}:∀{rs:LR} {vs:LV} {ks:TK},gB rs=some ks->aa K H rs vs->vs=ks.map oV
 | [],vs,ks,e,h=>by cases e;exact h
 |r::rs,vs,ks,e,h=>by
  simp only[aa]at h;obtain⟨v,t,rfl,d,f⟩:=h;unfold gB at e;split at e
  . rename_i a b e1 c
    cases e;rw[Vc e1 d,K3 c f];rfl
  . cases e
theorem yl{K:ag}{x:V}(e:eZ r=some k)(h:Rep K H r x):∃b,x= .ref b/\H b=some (.tup (k.map oV)):=by
 cases r with
 |tup rs=>
  simp only[Rep]at h;obtain⟨a,vs,rfl,c,d⟩:=h;exact⟨a,rfl,by rw[c,K3 e d]⟩
 |_=>cases e
noncomputable def sT (o:RO)(y:RV):Option (Option RV):=match o with
 | .dk kvs=>(fT y).map (lk kvs)
 | .dt kvs=>(eZ y).map (lk kvs)
 | .fk kvs=>(fT y).map (lk kvs)
 | .ft kvs=>(eZ y).map (lk kvs)
 |_=>none
noncomputable def qZ (M:RM)(x y:RV):Option (Option RV):=match x with
 | .ref a=>(M a).bind (sT . y)
 |_=>none
def tX(M:RM)(x:RV):Prop:=match x with
 | .ref a=>match M a with
  |some (.dk _)=>True
  |some (.dt _)=>True
  |some (.fk _)=>True
  |some (.ft _)=>True
  |_=>False
 |_=>False
def tS(M:RM)(x y v:RV)(N:RM->Prop):Prop:=match x with
 | .ref a=>match M a with
  |some (.dk kvs)=>match fT y with
   |some k=>kvs.length<sizeLine/\N (put M a (.dk (pt kvs k v)))
   |none=>False
  |some (.dt kvs)=>match eZ y with
   |some k=>kvs.length<sizeLine/\N (put M a (.dt (pt kvs k v)))
   |none=>False
  |_=>False
 |_=>False
section
variable {X:Cx}{M:RM}{H:Hp}{x y:RV}{vx vy:V}
theorem Bi{K:ag}(hv:View K H M)(e:qZ M x y=some r)(rx:Rep K H x vx)(ry:Rep K H y vy):
 ∃a r0,vx= .ref a/\bZ H a vy r0/\(∀z,r=some z->∃v,r0=some v/\Rep K H z v)/\(r=none->r0=none):=by
 unfold qZ at e;split at e
 . rename_i a
   simp only[Rep]at rx;cases q:M a with
   |none=>rw[q]at e;cases e
   |some o=>
    rw[q]at e
    replace e:sT o y=some r:=e
    obtain⟨ho,eo,ro⟩:=hv a o q;unfold sT at e;split at e
    . rename_i kvs
      obtain⟨ws,rfl,hg⟩:=ro;cases ek:fT y with
      |none=>rw[ek]at e;cases e
      |some k=>
       rw[ek]at e;have e:lk kvs k=r:=dz e;have:=rM ek ry;subst this;exact⟨a,_,rx,bZ.k eo,λz hz=>(jr (k:=k) hg).1 z (e.trans hz),λhz=>(jr (k:=k) hg).2 (e.trans hz)⟩
    . rename_i kvs
      obtain⟨ws,rfl,hg⟩:=ro;cases ek:eZ y with
      |none=>rw[ek]at e;cases e
      |some k=>
       rw[ek]at e;have e:lk kvs k=r:=dz e;obtain⟨b,rfl,hb⟩:=yl ek ry;exact⟨a,_,rx,bZ.t eo hb,λz hz=>(jr (k:=k) hg).1 z (e.trans hz),λhz=>(jr (k:=k) hg).2 (e.trans hz)⟩
    . rename_i kvs
      obtain⟨ob,ws,rfl,hg⟩:=ro;cases ek:fT y with
      |none=>rw[ek]at e;cases e
      |some k=>
       rw[ek]at e;have e:lk kvs k=r:=dz e;have:=rM ek ry;subst this;exact⟨a,_,rx,.inl ⟨ws,k,.inr ⟨ob,eo⟩,rfl,rfl⟩,λz hz=>(jr (k:=k) hg).1 z (e.trans hz),λhz=>(jr (k:=k) hg).2 (e.trans hz)⟩
    . rename_i kvs
      obtain⟨ob,ws,rfl,hg⟩:=ro;cases ek:eZ y with
      |none=>rw[ek]at e;cases e
      |some k=>
       rw[ek]at e;have e:lk kvs k=r:=dz e;obtain⟨b,rfl,hb⟩:=yl ek ry;exact⟨a,_,rx,.inr ⟨ws,k,b,.inr ⟨ob,eo⟩,rfl,hb,rfl⟩,λz hz=>(jr (k:=k) hg).1 z (e.trans hz),λhz=>(jr (k:=k) hg).2 (e.trans hz)⟩
    . cases e
 . cases e
theorem Xo{K:ag}(h:View K H M)(d:tX M x)(g:Rep K H x vx):∃a,vx= .ref a/\zT H a:=by
 unfold tX at d;split at d
 . rename_i a
   simp only[Rep]at g;split at d
   . rename_i c e;obtain⟨j,b,f,rfl,i⟩:=h a _ e;exact⟨a,g,.inl ⟨f,.inl b⟩⟩
   . rename_i c e;obtain⟨j,b,f,rfl,i⟩:=h a _ e;exact⟨a,g,.inr ⟨f,.inl b⟩⟩
   . rename_i c e;obtain⟨j,b,ob,f,rfl,i⟩:=h a _ e;exact⟨a,g,.inl ⟨f,.inr ⟨ob,b⟩⟩⟩
   . rename_i c e;obtain⟨j,b,ob,f,rfl,i⟩:=h a _ e;exact⟨a,g,.inr ⟨f,.inr ⟨ob,b⟩⟩⟩
   . exact d.elim
 . exact d.elim
theorem Xb{K:ag}{v:RV}(g:View K H M)(d:tS M x y v N)(l:Rep K H x vx)(o:Rep K H y vy)(rv:Rep K H v vv):
 ∃a h n,vx= .ref a/\fx H a vy vv h/\N n/\Ext H h/\View K h n:=by
 unfold tS at d;split at d
 . rename_i a
   simp only[Rep]at l;split at d
   . rename_i j c
     obtain⟨s,e,m,rfl,f⟩:=g a _ c;split at d
     . rename_i k i
       have:=rM i o;subst this;have ex:Ext H (upd H a (.dK (putK m k vv))):=Ext.write e rfl;exact⟨a,_,_,l,fx.k e (by rw[<-iC f];exact d.1),d.2,ex,g.write c ⟨_,rfl,Ll (Rep.ext ex _ _ rv) (f.ext ex)⟩⟩
     . exact d.elim
   . rename_i j c
     obtain⟨s,e,m,rfl,f⟩:=g a _ c;split at d
     . rename_i k i
       obtain⟨b,rfl,r⟩:=yl i o;have ex:Ext H (upd H a (.dT (putK m k vv))):=Ext.write e rfl;exact⟨a,_,_,l,fx.t e r (by rw[<-iC f];exact d.1),d.2,ex,g.write c ⟨_,rfl,Ll (Rep.ext ex _ _ rv) (f.ext ex)⟩⟩
     . exact d.elim
   . exact d.elim
 . exact d.elim
end
section
variable {X:Cx}{o i value e f:Expr}{pos pos' apos cpos:Pos}{td ty tv tx:au}
def vX(Q:ao)(x y:RV)(M:RM):Prop:=match qZ M x y with
 |some (some v)=>Q v M
 |_=>False
def Nu(td ty:au):au:=λσ M Q=>td σ M λx M1=>ty σ M1 λy M2=>vX Q x y M2
theorem Wi{x y:RV}(h:vX Q x y M):∃v,qZ M x y=some (some v)/\Q v M:=by
 unfold vX at h;split at h
 . rename_i v e;exact⟨v,e,h⟩
 . exact h.elim
theorem Z5(t:X.A.units+1<cLine)(r:ai X o td)(hi:ai X i ty)(hs:yZ i):ai X (.Subscript o i pos) (Nu td ty):=PE.imp (Wv t r hi hs) λσ0 H A h=>by
 obtain⟨k,M,Q,hs,u,s,n⟩:=h;refine⟨k,M,_,hs,u,s,λrx M1 x H1 q e1 z r1=>⟨k,M1,_,hs.ext e1,z,q,λry M2 y l b d j r2=>?_⟩⟩
 obtain⟨v,ev,b⟩:=Wi b;obtain⟨a,r0,rfl,g,m,_⟩:=Bi j ev (Rep.ext d _ _ r1) r2;obtain⟨w,rfl,c⟩:=m v rfl;exact⟨a,w,rfl,g,n _ M2 _ l b (e1.trans d) j c⟩
def zI(neg:Bool)(Q:ao)(x y:RV)(M:RM):Prop:=match qZ M x y with
 |some r=>Q (.bl (if neg then !r.isSome else r.isSome)) M
 |none=>False
def sM(neg:Bool)(ty td:au):au:=λσ M Q=>ty σ M λy M1=>td σ M1 λx M2=>zI neg Q x y M2
theorem xJ(h:up X.K (sM neg ty td) σ0 H Q0):up X.K ty σ0 H λy H1=>up X.K td σ0 H1 λx b=>∃a r,x= .ref a/\bZ b a y r/\Q0 (.bl (if neg then !r.isSome else r.isSome)) b:=by
 obtain⟨k,M,Q,hs,u,t,s⟩:=h;refine⟨k,M,_,hs,u,t,λry M1 y H1 q e1 w r1=>⟨k,M1,_,hs.ext e1,w,q,λrx M2 x b c d j r2=>?_⟩⟩
 unfold zI at c;split at c
 . rename_i r l
   obtain⟨a,r0,rfl,g,m,n⟩:=Bi j l r2 (Rep.ext d _ _ r1);refine⟨a,r0,rfl,g,s _ M2 _ b c (e1.trans d) j ?_⟩;have:r0.isSome=r.isSome:=by
    cases r with
    |none=>rw[n rfl];rfl
    |some z=>obtain⟨v,rfl,_⟩:=m z rfl;rfl
   rw[this];simp only[Rep]
 . exact c.elim
theorem Qb(c:X.A.units+1<cLine)(hi:ai X i ty)(b:ai X o td)(a:behindInMarks .In o=false):ai X (.Compare i [.In] [o] pos) (sM false ty td):=PE.imp (Md (Me c hi b) a) λσ0 H d h=>xJ h
theorem Wj(c:X.A.units+1<cLine)(hi:ai X i ty)(b:ai X o td)(a:behindInMarks .NotIn o=false):ai X (.Compare i [.NotIn] [o] pos) (sM true ty td):=PE.imp (Md (J1 c hi b) a) λσ0 H d h=>xJ h
theorem Z4(g:X.A.units+1<cLine)(hi:ai X i ty)(c:ai X o td)(a:behindInMarks .In o=false):d7 X (.Compare i [.In] [o] pos) (m8 (sM false ty td)):=PT.imp (BJ (Me g hi c) a) λσ0 H l h=>by
 obtain⟨k,M,Q,hs,j,d,b⟩:=h;exact xJ (neg:=false) ⟨k,M,_,hs,j,d,pT b⟩
theorem Ur(g:X.A.units+1<cLine)(hi:ai X i ty)(c:ai X o td)(a:behindInMarks .NotIn o=false):d7 X (.Compare i [.NotIn] [o] pos) (m8 (sM true ty td)):=PT.imp (BJ (J1 g hi c) a) λσ0 H l h=>by
 obtain⟨k,M,Q,hs,j,d,b⟩:=h;exact xJ (neg:=true) ⟨k,M,_,hs,j,d,pT b⟩
def vJ(Q:ao)(x y z:RV)(M:RM):Prop:=match qZ M x y with
 |some r=>Q (r.getD z) M
 |none=>False
def Ml(td ty:au):au:=λσ M Q=>td σ M λx M1=>tX M1 x/\ty σ M1 λy M2=>vJ Q x y .aq M2
theorem Us{K:ag}{x y z:RV}{a:Addr}(h:vJ Q x y z M)(l:View K H M)(m:Rep K H x (.ref a))(n:Rep K H y vy)(s:Rep K H z vz):
 ∃r r0,Q r M/\bZ H a vy r0/\Rep K H r (r0.getD vz):=by
 unfold vJ at h;split at h
 . rename_i r d
   obtain⟨t,r0,c,g,j,k⟩:=Bi l d m n;cases c;refine⟨_,r0,h,g,?_⟩;cases r with
   |none=>rw[k rfl];exact s
   |some q=>obtain⟨v,rfl,b⟩:=j q rfl;exact b
 . exact h.elim
theorem XZ(v:X.A.units+1<cLine)(t:ai X o td)(n:ai X e ty)(m:M1 X o "get" apos e cpos):ai X (.Call (.Attribute o "get" apos) [e] [] cpos) (Ml td ty):=PE.imp (U3 v t n m) λσ0 H D h=>by
 obtain⟨l,M,Q,hs,w,u,s⟩:=h;refine⟨l,M,_,hs,w,u,λrx M1 x H1 q e1 j r1=>?_⟩
 obtain⟨a,rfl,d⟩:=Xo j q.1 r1;refine⟨a,rfl,d,l,M1,_,hs.ext e1,j,q.2,λry M2 y b z c k r2=>?_⟩
 obtain⟨r,r0,A,g,C⟩:=Us z k (Rep.ext c _ _ r1) r2 (show Rep X.K b .aq .aq by simp only[Rep])
 exact⟨r0,g,s _ M2 _ b A (e1.trans c) k C⟩
def Mh(td ty tv:au):c9:=λD a M=>tv a M λv M1=>td a M1 λx M2=>ty a M2 λy b=>tS b x y v (D.nx a)
theorem XX(z:X.A.units+1<cLine)(t:ai X o td)(hi:ai X i ty)(k:ai X value tv)(hs:swapsWith value (some (.Subscript o i pos')) pos.line X.env=pure false):eI X (.Assign [.Subscript o i pos'] value pos) (Mh td ty tv):=PS.imp (W4 z t hi k hs) λD0 l H h=>by
 obtain⟨c,M,D,hs,k,u,s⟩:=h;refine⟨c,M,_,hs,k,u,λrv M1 v H1 q e1 F r1=>⟨c,M1,_,hs.ext e1,F,q,λrx M2 x L A d I r2=>⟨c,M2,_,hs.ext (e1.trans d),I,A,λry O y N C j J E=>?_⟩⟩⟩
 obtain⟨a,m,r,rfl,g,n,ex,w⟩:=Xb J C (Rep.ext j _ _ r2) E (Rep.ext (d.trans j) _ _ r1);have b:=((e1.trans d).trans j).trans ex;exact⟨a,m,rfl,g,s.nx c r l m n b w (hs.ext b)⟩
def Mw:au:=λ_ M Q=>∀p,M p=none->Q (.ref p) (put M p (.dt []))
theorem XI:ai X (.Dict [] [] pos) Mw:=PE.imp U1 λσ0 H g h=>by
 obtain⟨j,M,Q,hs,b,d,c⟩:=h;exactλp a=>c _ _ _ _ (d p (b.free a)) (Ext.new a) (b.cV a ⟨[],rfl,rfl⟩) (by simp only[Rep])
end
section
variable {prog:Program}{w:World}{K:Type}[DecidableEq K]{knd:HeapKind prog w K}{A:Around}{E:aQ}{s:Shared}{d a:Addr}{k:K}{xs:List (K×Addr×Value)}
theorem UJ{xs:List (K×Addr×Value)}(b:(xs.map (·.1)).Nodup):∀{j:Nat} {p:Addr×Value},xs[j]? =some (k,p)->xs.eraseIdx j=xs.filter λx=>decide (x.1≠k):=by
 induction xs with
 |nil=>intro j p h;simp at h
 |cons x r ih=>
  intro j p h;rw[bU,iT]at b;cases j with
  |zero=>
   simp at h;subst h;rw[List.eraseIdx_cons_zero,je];simp only[ne_eq,not_true_eq_false,decide_false,jI,if_false];exact(wz.mpr λy e=>by
    have:y.1≠k:=λz=>b.1 (aP.mpr ⟨y,e,z⟩)
    simpa using this).symm
  |succ j=>
   rw[List.eraseIdx_cons_succ,je];have c:r[j]? =some (k,p):=by simpa using h
   have:x.1≠k:=λz=>b.1 (z ▸ aP.mpr ⟨_,jH c,rfl⟩)
   rw[ah (fK this),ih b.2 c]
theorem Ss{Q:Option DictEntry->Shared->Prop}(hu:knd.room A)(hkey:knd.is s.heap k a)(hm:s.heap.DictOfH knd d xs)(ht:(PySem.atKey xs k).isSome=true)
 (hQ:∀e h',h'.DictOfH knd d (xs.filter λx=>decide (x.1≠k))->Heap.SameBut d s.heap h'->Q (some e) { s with heap:=h',toks:=s.toks+knd.draws k }) (hsz:xs.length<=sizeLine):wpAny (model prog w) A (Builtin.Dict.takeOut d (.ref a)) Q E s:=by
 obtain⟨o,es,ep,ho,hc,hd,he,his,hn⟩:=hm;unfold Builtin.Dict.takeOut
 try with_reducible refine jM ?_
 refine aj (knd.pyHash hu hkey ?_);refine aj (wpAny_dictFind_heap (s:={ s with toks:=s.toks+knd.draws k }) hu hkey ho hd he his hn (λhno=>?_) λj p hj=>?_)
 . rw[atKey_none_of_get hno]at ht;cases ht
 . refine aj (wF (s:={ s with toks:=s.toks+knd.draws k }) ho hd ?_)
   rw[entry_at he j,hj];refine aj (wpAny_updateDictKeys (hz:=by have e:=size_of_entries he;omega) (s:={ s with toks:=s.toks+knd.draws k }) ho hd (aI (hQ _ _ ⟨_,_,ep+1,Heap.get?_update_self _ ho (Obj.isFreed_of_dict (Obj.data_mapDictKeys hd _)),hc.mapDictKeys _,Obj.data_mapDictKeys hd _,?_,λx hx=>?_,?_⟩ (Heap.SameBut.update ..))))
   . rw[<-UJ hn hj]
     have:(xs.eraseIdx j).map (entryOfKey knd)=es.toList.eraseIdx j:=by rw[he,List.eraseIdx_eq_take_drop_succ,List.eraseIdx_eq_take_drop_succ,fV,List.map_take,List.map_drop]
     rw[this];obtain⟨l⟩:=es;simp
   . exact knd.keeps (his x ((eR.mp hx).1)) ho hd (Heap.SameBut.update ..)
   . exact hn.sublist (List.filter_sublist.map _)
end
theorem WM(r:KT H kvs xs)(k:List bB):KT H (jy kvs k) (xs.filter λx=>decide (x.1≠k)):=by
 unfold jy
 induction r with
 |nil=>exact .nil
 | @cons p q ps qs h t ih=>
  rw[je,je,h.1];split
  . exact .cons h ih
  . exact ih
section
variable {X:Cx}{pins:aH}{σ:L2.St}{H:Hp}{s:Shared}{a b:Addr}{kvs:List (List bB×V)}{k:List bB}{A:Around}{E:aQ}
theorem Y9(v:A.units+1<cLine)(I:Inv X pins σ H s)(e:H a=some (.dT kvs))(i:H b=some (.tup (k.map oV)))(l:(fQ kvs k).isSome=true)(h:∀g,Inv X pins σ (upd H a (.dT (jy kvs k))) g->Q () g):
 wpAny (model X.prog X.w) A (delItem (.ref a) (.ref b)) Q E s:=by
 obtain⟨z,u,x,c,dd⟩:=B3 I.av e;have w:x.length<=sizeLine:=by rw[<-Paired.length c];exact z
 refine wpAny_delItem_slot dd.typeIs (by decide) PySem.F.slot_dict_delitem (jE PySem.F.slot_dict_delitem dd.typeIs PySem.F.entry_dict_delitem ?_ (PySem.F.args_dict_delitem_2 _ _))
 unfold Builtin.«dict.__delitem__»;refine aj ?_;unfold Builtin.Dict.dictSlotArgs;refine aj (wpAny_notOrdered_dict dd.typeIs ?_);show wpAny _ _ (pure (Value.ref a,Value.ref b)) _ _ s;refine aI ?_;show wpAny _ _ (Builtin.Dict.takeOut a (.ref b) >>= _) _ _ s;refine aj (Ss (tupleKind_room_in1 v) (pY I.av i) dd (by rw[<-qR,<-(c.val k).bh];exact l) (λen y d hs=>?_) w)
 refine aj (wpAny_letGo (aI ⟨.none,rfl,h _ ?_⟩));obtain⟨q,m,j,f,n,o,r,_,t⟩:=d;refine yu I (by rw[e];exact True.intro) hs ⟨q,f⟩ ⟨bQ (kc _ _) z,u,_,(WM c k).keeps λc C ec=>?_,q,m,j,f,n,o,r,t⟩
 rw[aE (jx ec e (λz=>nomatch z))]
 exact ec
end
noncomputable def dr[DecidableEq κ](kvs:List (κ×β))(k:κ):List (κ×β):=kvs.filter λp=>decide (p.1≠k)
theorem Bb[DecidableEq κ]{K:ag}:∀{b:List (κ×RV)} {ws:List (κ×V)},aF K H b ws->aF K H (dr b k) (jy ws k)
 | [],_,h=>by cases h;exact rfl
 |(j,x)::r,_,h=>by
  obtain⟨v,t,rfl,c,d⟩:=h;have a:=Bb (k:=k) d;unfold dr jy at a ⊢;rw[je,je];split
  . exact⟨v,_,rfl,c,a⟩
  . exact a
def q8(M:RM)(x y:RV)(N:RM->Prop):Prop:=match x with
 | .ref a=>match M a with
  |some (.dk kvs)=>match fT y with
   |some k=>(lk kvs k).isSome=true/\N (put M a (.dk (dr kvs k)))
   |none=>False
  |some (.dt kvs)=>match eZ y with
   |some k=>(lk kvs k).isSome=true/\N (put M a (.dt (dr kvs k)))
   |none=>False
  |_=>False
 |_=>False
section
variable {X:Cx}{o i:Expr}{td ty:au}{pos tpos:Pos}
def Mj(td ty:au):c9:=λD a M=>td a M λx M1=>ty a M1 λy M2=>q8 M2 x y (D.nx a)
theorem XY(hu:X.A.units+1<cLine)(ho:ai X o td)(hi:ai X i ty):eI X (.Delete [.Subscript o i tpos] pos) (Mj td ty):=by
 intro pins s σ0 H D0 I h;obtain⟨σ,M,D,hs,hv,ht,hd⟩:=h;refine wpAny_Delete (wpAny_deleteEach_cons (wpAny_delete_Subscript (az (ho pins s σ0 H (λx H1=>∃rx M1,(ty σ M1 λy M2=>q8 M2 rx y (D.nx σ))/\Ext H H1/\View X.K H1 M1/\Rep X.K H1 rx x) I ⟨σ,M,_,hs,hv,ht,λrx M1 x H1 q e1 v1 r1=>⟨rx,M1,q,e1,v1,r1⟩⟩) λu s1 ⟨x,H1,I1,ru,rx,M1,q1,e1,v1,r1⟩=>
  az (hi pins s1 σ0 H1 (λy H2=>∃ry M2,q8 M2 rx ry (D.nx σ)/\Ext H1 H2/\View X.K H2 M2/\Rep X.K H2 ry y) I1 ⟨σ,M1,_,hs.ext e1,v1,q1,λry M2 y H2 q e2 v2 r2=>⟨ry,M2,q,e2,v2,r2⟩⟩) λiv s2 ⟨y,H2,I2,riv,ry,M2,q2,e2,v2,r2⟩=>?_)))
 have r1:=Rep.ext e2 _ _ r1;have e12:=e1.trans e2;unfold q8 at q2;split at q2
 . rename_i a _ _
   simp only[Rep]at r1;subst r1;obtain rfl:u=Value.ref a:=ru;split at q2
   . rename_i kvs em
     obtain⟨ho',eo,ws,rfl,hg⟩:=v2 a _ em;split at q2
     . rename_i k ek
       have:=rM ek r2;subst this;have ex:Ext H2 (upd H2 a (.dK (jy ws k))):=Ext.write eo rfl;obtain⟨z,hz⟩:=zR.mp q2.1;obtain⟨z',hz',_⟩:=(jr (k:=k) hg).1 z hz;exact UO I2 eo riv (by rw[hz'];rfl) λs3 I3=>wpAny_deleteEach_nil ⟨σ0,_,I3,hd.nx σ _ _ _ q2.2 (e12.trans ex) (v2.write em ⟨_,rfl,Bb (hg.ext ex)⟩) (hs.ext (e12.trans ex))⟩
     . exact q2.elim
   . rename_i kvs em
     obtain⟨ho',eo,ws,rfl,hg⟩:=v2 a _ em;split at q2
     . rename_i k ek
       obtain⟨b,rfl,hb⟩:=yl ek r2;obtain rfl:iv=Value.ref b:=riv;have ex:Ext H2 (upd H2 a (.dT (jy ws k))):=Ext.write eo rfl;obtain⟨z,hz⟩:=zR.mp q2.1;obtain⟨z',hz',_⟩:=(jr (k:=k) hg).1 z hz;exact Y9 hu I2 eo hb (by rw[hz'];rfl) λs3 I3=>wpAny_deleteEach_nil ⟨σ0,_,I3,hd.nx σ _ _ _ q2.2 (e12.trans ex) (v2.write em ⟨_,rfl,Bb (hg.ext ex)⟩) (hs.ext (e12.trans ex))⟩
     . exact q2.elim
   . exact q2.elim
 . exact q2.elim
end
section
variable {X:Cx}{pins:aH}{σ:L2.St}{H:Hp}{s:Shared}{a:Addr}{A:Around}{E:aQ}
theorem Y7(I:Inv X pins σ H s)(e:H a=some (.dT kvs))(h:∀t d,Inv X pins σ H d->Q (.int kvs.length t) d):wpAny (model X.prog X.w) A (call (.builtin "len") [.ref a]) Q E s:=by
 obtain⟨z,g,r,c,dd⟩:=B3 I.av e;have ty:=dd.typeIs;obtain⟨o,f,l,k,n,b,i,_,_⟩:=dd;have j:f.size=kvs.length:=by rw[size_of_entries i,Paired.length c]
 refine Calls.call_function_entry kind_len plain_len entry_len (args_len1 _) ?_;unfold Builtin.«len»;refine aj (m:=oneArg "len" _) (aI ?_);refine aj (m:=callSpecial? (.ref a) (Str.ofString "__len__")) (wpAny_callSpecial?_slot (name:=Str.ofString "__len__") ty F.slot_dict_len (jE F.slot_dict_len ty F.entry_dict_len ?_ (F.args_dict_len_1 _)));show wpAny _ _ (dictSize a >>= _) _ _ s;unfold dictSize;refine aj (aj (wF k b (aI ?_)));show wpAny _ _ (Builtin.Dict.pendingCount a >>= _) _ _ s;refine aj (wpAny_pendingCount_other g ?_);refine wpAny_ret_mkInt ?_;rw[j];show wpAny _ _ _ _ _ { s with toks:=s.toks+1 }
 refine aj (jM (aI ?_));refine aj (wpAny_letGo ?_);rw[sizeLine_eq]at z;show wpAny _ _ (if((kvs.length:Nat):Int)<0 then _ else _) _ _ _
 rw[ae (by omega)]
 show wpAny _ _ (if((kvs.length:Nat):Int) ≥ 2 ^ 63 then _ else _) _ _ _
 rw[ae (by omega)]
 exact aj (wpAny_mkInt (aI ⟨_,rfl,h _ _ (I.tok _)⟩))
theorem qzf:cM X (.builtin "len") (eF X.K λrs M Q=>∃a b,rs= [.ref a]/\M a=some (.dt b)/\Q (.int b.length) M):=by
 intro pins s σ H w us n I k h;obtain⟨rs,M,Q,l,c,⟨a,b,rfl,i,j⟩,g⟩:=h;obtain⟨v,rfl,r1⟩:=l.one;simp only[Rep]at r1;subst r1;obtain⟨o,e,m,rfl,f⟩:=c a _ i;obtain⟨u,rfl,ru⟩:=vals1 k;cases ru;exact Y7 I e λt r d=>⟨.int m.length,H,d,⟨t,rfl⟩,g _ M _ H j (.refl H) c (by simp only[Rep];rw[iC f])⟩
end
section
variable {X:Cx}
def Hl(i j:Nat)(b:bS):c9:=λD a M=>b a M λrs M1=>match rs with
 | [v,w]=>D.nx ((a.set i (some v)).set j (some w)) M1
 |_=>False
theorem QC{i j:Nat}{x y:Str}{a b:Expr}{e f pt:Pos}{kt d:Nat}(n:X.calm=true)(l:X.N.Nodup)(hi:X.N[i]? =some x)(r:X.N[j]? =some y)(c:i≠j)
 (hx:X.env.scope.names.lookup x=some .local) (z:X.env.scope.names.lookup y=some .local) (m:eV X [a,b] ta)
 (u:swappedStores [.Tuple [.Name x e,.Name y f] kt pt] (.Tuple [a,b] d pt2) X.env=pure (some [x,y])):
 eI X (.Assign [.Tuple [.Name x e,.Name y f] kt pt] (.Tuple [a,b] d pt2) pos) (Hl i j ta):=PS.imp (YF n l hi r c hx z m u) λD0 I H h=>by
 obtain⟨F,M,D,hs,t,s,o⟩:=h;refine⟨F,M,_,hs,t,s,λrs M1 vs H1 q e1 C r1=>?_⟩
 split at q
 . rename_i v w
   obtain⟨A,E,rfl,g,k⟩:=r1.two;exact⟨A,E,rfl,o.nx _ M1 _ H1 q e1 C (((hs.ext e1).set g i).set k j)⟩
 . exact q.elim
noncomputable def ph (C:Addr)(f:Str)(b:au)(σ:bw)(N:RM->Prop):ao:=λx M=>match x with
 | .ref a=>match M a with
  |some (.ins C' fs)=>C'=C/\match fs.lookup f with
   |some (.int i)=>b σ M λy M2=>match y with
    | .int j=>match M2 a with
     |some (.ins C2 fs2)=>C2=C/\fs2.length<1000/\N (put M2 a (.ins C (jZ f (.int (i+j)) fs2)))
     |_=>False
    |_=>False
   |_=>False
  |_=>False
 |_=>False
def OF(C:Addr)(f:Str)(b c:au):c9:=λD a M=>b a M (ph C f c a (D.nx a))
theorem saf(U:cI X.K C)(hn:aW X.K C f)(R:ai X o ta)(m:ai X value tv):eI X (.AugAssign (.Attribute o f tpos) .Add value pos) (OF C f ta tv):=PS.imp (Ue R m Zq) λD0 s H h=>by
 obtain⟨r,M,D,hs,m,ht,W⟩:=h;refine⟨r,M,_,hs,m,ht,λrx M1 x H1 q e1 v r1=>?_⟩
 cases rx with
 |ref a=>
  simp only[Rep]at r1;subst r1;unfold ph at q;simp only at q;split at q
  . rename_i z fs J
    obtain⟨rfl,q⟩:=q;split at q
    . rename_i i I
      obtain⟨ho,L,E,Q,rfl,Y⟩:=v a _ J;obtain⟨u,N,ru⟩:=xA Y I;refine⟨a,z,E,Q,u,rfl,L,U,hn,N,r,M1,_,hs.ext e1,v,q,λry M2 y t l F w r2=>?_⟩
      cases ry with
      |int j=>
       simp only[Rep]at r2 ru;subst r2 ru;simp only at l;split at l
       . rename_i A O d
         obtain⟨rfl,Z,n⟩:=l;obtain⟨ho2,e,b,g,rfl,k⟩:=w a _ d;have ex:Ext t (upd t a (.ins A b (fm f (.int (i+j)) g))):=Ext.write e rfl;have c:=(e1.trans F).trans ex;exact⟨i,j,rfl,rfl,b,g,e,by rw[<-iC k];exact Z,W.nx r _ s _ n c (w.write d ⟨b,_,rfl,AM (by simp only[Rep]) (k.ext ex)⟩) (hs.ext c)⟩
       . exact l.elim
      |_=>exact(show False from l).elim
    . exact q.elim
  . exact q.elim
 |_=>exact(show False from q).elim
end
def cg(h:Heap)(d:Addr)(es:Array DictEntry)(ep:Nat):Prop:=∃o,h.get? d=some o/\o.ExactDict/\o.data= .dict es ep
section
variable {prog:Program}{w:World}{A:Around}{E:aQ}{s:Shared}{d it:Addr}{es:Array DictEntry}{ep i:Nat}
theorem cg.ty(x:cg s.heap d es ep):s.TypeIs (.ref d) "dict":=by
 obtain⟨o,a,b,c⟩:=x;exact⟨o,a,b.1⟩
theorem Jn(b:s.heap.IsValIter it d i es.size ep)(n:cg s.heap d es ep)(hi:i<es.size)
 (k:∀j,j.IsValIter it d (i+1) es.size ep->Heap.SameBut it s.heap j->Q (some es[i].val) { s with heap:=j }):wpAny (model prog w) A (pyNext (.ref it)) Q E s:=by
 obtain⟨o,h,l,e⟩:=id b;obtain⟨t,g,m,f⟩:=id n;have r:Builtin.Dict_items.ownsTuple "dict_valueiterator" =false:=by decide
 unfold pyNext;refine aj (wpAny_attempt (wpAny_callSpecial?_slot (name:=Str.ofString "__next__") b.typeIs F.slot_dict_valueiterator_next (jE F.slot_dict_valueiterator_next b.typeIs F.entry_dict_valueiterator_next ?_ (F.args_dict_valueiterator_next_1 _))));refine aj (aI (aj (aj ?_)))
 first|refine aj (wpAny_typeNameOfWhole_valiter b.typeIs (aI (aj (wpAny_fieldsOf h e ?_))))|refine aj (wpAny_typeNameOf_valiter b.typeIs (aI (aj (wpAny_fieldsOf h e ?_))))
 simp only[r,jI,if_false];refine(?_:wpAny _ _ (if(Value.ref d==Value.none)=true then _ else _) _ _ s)
 rw[ae (show ¬(Value.ref d==Value.none)=true fromλz=>iQ z)]
 refine aj (aI (aj (wF g f ?_)));rw[ae (by simp)];refine aj (aI (aj (wpAny_dictEpoch g f ?_)))
 rw[ae (by simp)];refine aI ?_
 simp only[show ¬((i:Int)<0) by omega,if_false,Int.toNat_natCast,Array.getElem?_eq_getElem hi]
 first|refine aj (aj (wpAny_typeNameOfWhole_valiter b.typeIs (aI (aj (wpAny_isOneOf_valiter b.typeIs ?_)))))|refine aj (aj (wpAny_typeNameOf_valiter b.typeIs (aI (aj (wpAny_isOneOf_valiter b.typeIs ?_)))))
 refine(?_:wpAny _ _ (setField (.ref it) 1 (rawInt ((i:Int)+1)) >>= _) _ _ s);refine aj (wpAny_setField h e (by simp) ?_)
 have c:(s.heap.update it (Obj.mapFields λa=>a.setIfInBounds 1 (rawInt ((i:Int)+1)))).IsValIter it d (i+1) es.size ep:=⟨_,Heap.get?_update_self _ h (Obj.isFreed_of_fields (Obj.data_mapFields e _)),(Obj.cls_mapFields ..).trans l,by rw[Obj.data_mapFields e];simp[rawInt]⟩
 refine aj (jM (aj (wpAny_isOneOf_valiter (s:={ s with heap:=s.heap.update it (Obj.mapFields λa=>a.setIfInBounds 1 (rawInt ((i:Int)+1))) }) c.typeIs ?_)))
 refine aj (wpAny_isOneOf_valiter (s:={ s with heap:=s.heap.update it (Obj.mapFields (·.setIfInBounds 1 (rawInt ((i:Int)+1)))) }) c.typeIs (?_:_))
 refine(?_:wpAny _ _ (pure es[i].val) _ _ _);exact aI (aI ⟨_,rfl,aI (k _ c (Heap.SameBut.update ..))⟩)
theorem Jo(n:A.handled=none)(c:s.heap.IsValIter it d i es.size ep)(r:cg s.heap d es ep)(hi:es.size<=i)(k:∀j,Heap.ExtBut it s.heap j->Q none { s with heap:=j }):
 wpAny (model prog w) A (pyNext (.ref it)) Q E s:=by
 obtain⟨o,h,u,g⟩:=id c;obtain⟨v,f,l,e⟩:=id r;have t:Builtin.Dict_items.ownsTuple "dict_valueiterator" =false:=by decide
 unfold pyNext;refine aj (wpAny_attempt (wpAny_callSpecial?_slot (name:=Str.ofString "__next__") c.typeIs F.slot_dict_valueiterator_next (jE F.slot_dict_valueiterator_next c.typeIs F.entry_dict_valueiterator_next ?_ (F.args_dict_valueiterator_next_1 _))));refine aj (aI (aj (aj ?_)))
 first|refine aj (wpAny_typeNameOfWhole_valiter c.typeIs (aI (aj (wpAny_fieldsOf h g ?_))))|refine aj (wpAny_typeNameOf_valiter c.typeIs (aI (aj (wpAny_fieldsOf h g ?_))))
 simp only[t,jI,if_false];refine(?_:wpAny _ _ (if(Value.ref d==Value.none)=true then _ else _) _ _ s)
 rw[ae (show ¬(Value.ref d==Value.none)=true fromλz=>iQ z)]
 refine aj (aI (aj (wF f e ?_)));rw[ae (by simp)];refine aj (aI (aj (wpAny_dictEpoch f e ?_)))
 rw[ae (by simp)];refine aI ?_
 simp only[show ¬((i:Int)<0) by omega,if_false,Int.toNat_natCast,Array.getElem?_eq_none hi]
 first|refine aj (aj (wpAny_typeNameOfWhole_valiter c.typeIs (aI ?_)))|refine aj (aj (wpAny_typeNameOf_valiter c.typeIs (aI ?_)))
 refine(?_:wpAny _ _ (setField (.ref it) 0 .none >>= _) _ _ s);refine aj (wpAny_setField h g (by simp) ?_)
 refine(?_:wpAny _ _ (newExc (.type "StopIteration") [] >>= _) _ _ _);simp only[newExc,newTuple];refine aj (aj (j8 ?_ (by size_fits)))
 refine aj (m:=firstArgMember _ _) (wpAny_of_eq (a:=Value.none) (by first|rfl|(simp only[firstArgMember];rfl)) (j8 ?_ (by size_fits)))
 simp only[raiseNew];refine aj (wpAny_handled ?_);rw[show A.in1.handled=none from n];refine aj (aI (wpAny_throw ?_));refine aj (wpAny_isInstance (T:="StopIteration") (b:=true) ⟨_,dv _ rfl,rfl⟩ isSubtype_stop ?_)
 exact aI (k _ (((Heap.SameBut.update ..).extBut.push _).push _))
theorem JQ{v:Addr}(e:s.heap.IsValuesView v d)(j:cg s.heap d es ep)
 (g:Q (.ref s.heap.objs.size) { s with heap:=s.heap.push { cls:=.type "dict_valueiterator",data:=.fields #[.ref d,.int 0 0,.int es.size 0,.int ep 0] } }):wpAny (model prog w) A (pyIter (.ref v)) Q E s:=by
 obtain⟨m,c,h,b⟩:=id e;obtain⟨o,f,l,a⟩:=id j;have k:Builtin.Dict_items.ownsTuple "dict_valueiterator" =false:=by decide
 refine wpAny_pyIter_slot e.typeIs F.slot_dict_values_iter (jE F.slot_dict_values_iter e.typeIs F.entry_dict_values_iter ?_ (F.args_dict_values_iter_1 _));unfold Builtin.«dict_values.__iter__» Builtin.Dict_items.dictOf Builtin.Dict_items.newIterator;refine aj (aI (aj (aj (wpAny_field c b (x:=.ref d) rfl (aI (aj (aj (wF f a (aj (wpAny_dictEpoch f a ?_))))))))));simp only[k,jI,if_false];refine j8 (aI ⟨_,rfl,"dict_valueiterator",_,⟨_,dv _ rfl,rfl⟩,F.slot_dict_valueiterator_next.lookup,?_⟩);simpa[rawInt]using g
theorem Jw(a:(d==sysModules)=false):MeetsIn prog w (Builtin.«dict.values» ⟨[.ref d],[]⟩) (λ_ R s=>(∃es ep,cg s.heap d es ep)/\R (.ok (.ret (.ref s.heap.objs.size))) { s with heap:=s.heap.push { cls:=.type "dict_values",data:=.fields #[.ref d] } }):=
 .of_wp λA R s ⟨⟨es,ep,hm⟩,h⟩=>by
  have e0:Builtin.Dict.showsAll d=pure ():=by unfold Builtin.Dict.showsAll;rw[ae (by rw[a];exact iQ)]
  refine aj ?_;unfold Builtin.Dict.noArgs;refine aj (wpAny_notOrdered_dict hm.ty ?_);refine(aI ?_:wpAny _ _ (pure d) _ _ s);refine(?_:wpAny _ _ (Builtin.Dict.showsAll d >>= _) _ _ s);rw[e0];exact aj (aI (aj (j8 (aI ⟨_,rfl,h⟩))))
end
noncomputable def m9:HO->Nat
 | .dK kvs=>kvs.length
 | .dT kvs=>kvs.length
 |_=>0
def N6(u:HO)(i:Nat)(H:Hp)(x:V):Prop:=match u with
 | .dK kvs=>∃a,kvs[i]? =some a/\x=kV a.1
 | .dT kvs=>∃a b,kvs[i]? =some a/\x= .ref b/\H b=some (.tup (a.1.map oV))
 |_=>False
def valAt(u:HO)(i:Nat)(x:V):Prop:=match u with
 | .dK kvs=>∃a,kvs[i]? =some a/\x=a.2
 | .dT kvs=>∃a,kvs[i]? =some a/\x=a.2
 |_=>False
theorem xM:∀{l:List α} {m:List β} {i:Nat} {b:β},Paired F l m->m[i]? =some b->∃a,l[i]? =some a/\F a b
 |_,_,_,_,.nil,e=>by simp at e
 |_,_,0,_,.cons r _,e=>by simp at e;subst e;exact⟨_,rfl,r⟩
 |_,_,i+1,b,.cons _ t,e=>by
  obtain⟨a,c,d⟩:=xM (i:=i) t (by simpa using e)
  exact⟨a,by simpa using c,d⟩
theorem Kg(h:jX k u=true):RelV (kV k) u:=by
 rcases i3 h with⟨i,t,rfl,rfl⟩|⟨x,t,rfl,rfl⟩
 . exact⟨t,rfl⟩
 . exact⟨t,rfl⟩
section
variable {X:Cx}{pins:aH}{σ:L2.St}{H:Hp}{s:Shared}{a:Addr}{o:Obj}{u:HO}
theorem uy(I:Inv X pins σ H s)(h:H a=some (.aZ o u))(J:jz u=true):∃b j,o.data= .dict b j/\cg s.heap a b j/\(a==sysModules)=false/\b.size=m9 u/\m9 u<=sizeLine/\
 ∀i (hi:i<b.size),(∃x,N6 u i H x/\RelV x b[i].key)/\∃x,valAt u i x/\RelV x b[i].val:=by
 obtain⟨g,E⟩:=I.av a _ h;cases u<;>first|(cases J;done)|skip
 . rename_i f
   obtain⟨z,y,vs,r,O,b,j,e,c,dd,ks,C,N⟩:=E;rw[g]at e;cases e;have w:b.size=f.length:=by have:=C.length;have L:=Paired.length r;simp at this;omega
   refine⟨b,j,dd,⟨o,g,c,dd⟩,y,w,z,λi hi=>?_⟩
   have D:i<vs.length:=by have:=C.length;simp at this;omega
   obtain⟨p1,Q⟩:=C.get? (e:=b[i]) (i:=i) (k:=vs[i].1) (v:=vs[i].2) (by simp[hi]) (by simp[D])
   obtain⟨d,m,F,A⟩:=xM (i:=i) r (by simp[D]:vs[i]? =some vs[i])
   refine⟨⟨kV d.1,⟨d,m,rfl⟩,?_⟩,d.2,⟨d,m,rfl⟩,by rw[Q];exact A⟩
   rw[F];exact Kg p1
 . rename_i f
   obtain⟨z,y,l,r,O,b,j,e,c,dd,n,N⟩:=E;rw[g]at e;cases e;have w:b.size=f.length:=by have L:=Paired.length r;have:=congrArg List.length n;simp at this;omega
   refine⟨b,j,dd,⟨o,g,c,dd⟩,y,w,z,λi hi=>?_⟩
   have hx:i<l.length:=by have:=congrArg List.length n;simp at this;omega
   have t:b[i]=entryOfKey (tupleKind (optKind X.prog X.w)) l[i]:=by
    have:=entry_at (knd:=tupleKind (optKind X.prog X.w)) n i;simpa[hi,hx]using this
   obtain⟨d,m,F,A,M⟩:=xM (i:=i) r (by simp[hx]:l[i]? =some l[i])
   rw[t];exact⟨⟨.ref l[i].2.1,⟨d,l[i].2.1,m,rfl,A⟩,rfl⟩,d.2,⟨d,m,rfl⟩,M⟩
end
noncomputable def wU (o:Obj)(a:Addr)(k:Bool):It:=
 ⟨λi H=>∃u,H a=some (.aZ o u)/\jz u=true/\i<m9 u,λi H x b=>b=H/\∃u,H a=some (.aZ o u)/\(if k=true then N6 u i H x else valAt u i x),λi H=>∃u,H a=some (.aZ o u)/\jz u=true/\m9 u<=i⟩
section
variable {P:Program}{w:World}{K:ag}{tg:Expr}{o:Obj}{a it:Addr}{es:Array DictEntry}{ep:Nat}
theorem T5(hd:o.data= .dict es ep):Turn P w K tg (wU o a false) [it] it (λi h=>h.IsValIter it a i es.size ep) where
 mem:=by simp
 obj:=λi h st b hb=>by
  have e:b=it:=by simpa using hb
  subst e;obtain⟨o,e,c,d⟩:=st;exact⟨o,e,λv z=>by rw[d]at z;cases z⟩
 keep:=λi h h' st k=>by obtain⟨o,e,c,d⟩:=st;exact⟨o,k it (by simp) o e,c,d⟩
 item:=by
  intro X hP hw hK hc i pins s σ H E I hf st ⟨u,hg,du,hi⟩;subst hP hw hK;obtain⟨es',ep',d',rd,hS,hl,_,hall⟩:=uy I hg du;rw[hd]at d';cases d';have hi':i<es.size:=by rw[hl];exact hi
  obtain⟨f0,f1,f2,f3,f4,f5⟩:=hf it (by simp)
  refine Jn st rd hi' λh' st' sb=>?_
  have I1:Inv X pins σ H { s with heap:=h' }:=I.turned (t':=s.toks) (λb o hb e=>(sb.2 b hb).trans e) f0 f1 f3 f4 f5
  obtain⟨_,x,k1,k2⟩:=hall i hi';obtain⟨oi,e,c,d⟩:=id st';exact⟨_,rfl,vR (s:={ s with heap:=h' }) e c d (by decide) ⟨x,H,I1,k2,⟨rfl,u,hg,by rw[ae (by decide)];exact k1⟩,st',λb hb=>(hf b hb).1⟩⟩
 done:=by
  intro X hP hw hK hc i pins s σ H E I hf st ⟨u,hg,du,hi⟩;subst hP hw hK;obtain⟨es',ep',d',rd,hS,hl,_,hall⟩:=uy I hg du;rw[hd]at d';cases d';obtain⟨f0,f1,f2,f3,f4,f5⟩:=hf it (by simp)
  exact Jo (I.ok.hd hc) st rd (by rw[hl];exact hi) λh' eb=>⟨rfl,I.turned (t':=s.toks) (λb o hb e=>eb b o hb e) f0 f1 f3 f4 f5⟩
 self:=λ_ _ _ _ _ st h=>wpAny_pyIter_valiter st h
end
noncomputable def kR:Key->RV
 | .inl i=>.int i
 | .inr x=>.str x
def oR:bB->RV
 |none=>.aq
 |some k=>kR k
noncomputable def nh (k:Bool)(kvs:bT):LR:=if k=true then kvs.map (λkv=>kR kv.1)else kvs.map (·.2)
def ng(k:Bool)(kvs:List (TK×RV)):LR:=if k=true then kvs.map (λkv=>.tup (kv.1.map oR))else kvs.map (·.2)
theorem BA{K:ag}(k):Rep K H (kR k) (kV k):=by cases k<;>simp only[kR,kV,Rep]
theorem XH{K:ag}(k):Rep K H (oR k) (oV k):=by
 cases k with
 |none=>simp only[oR,oV,Rep]
 |some k=>exact BA k
theorem Lk{K:ag}:∀ks:TK,aa K H (ks.map oR) (ks.map oV)
 | []=>aa.nil
 |k::ks=>aa.cons (XH k) (Lk ks)
theorem rS{K:ag}:∀{c:List (κ×RV)} {ws:List (κ×V)} {i:Nat} {w:κ×V},aF K H c ws->ws[i]? =some w->∃r,c[i]? =some (w.1,r)/\Rep K H r w.2
 | [],ws,i,w,h,e=>by have h:ws= []:=h;subst h;simp at e
 |(k,x)::r,ws,i,w,h,e=>by
  obtain⟨v,t,rfl,d,f⟩:=h;cases i with
  |zero=>simp at e;subst e;exact⟨x,by simp,d⟩
  |succ i=>
   obtain⟨q,a,b⟩:=rS (i:=i) f (by simpa using e)
   exact⟨q,by simpa using a,b⟩
section
variable {H0 Hs:Hp}{K:ag}{H1:Hp}{a:Addr}{o:Obj}{k:Bool}
theorem MR{un:RM->RM}(h:H1 a=some (.aZ o (.dK ws)))(r:aF K H1 kvs ws)
 (s:∀H M,Ext H1 H->View K H M->M a=some (.fk kvs)->∃b,eJ H0 H b/\bp H b/\Ext Hs b/\View K b (un M)):gX H0 Hs K (wU o a k) (nh k kvs) (λM=>M a=some (.fk kvs)) un H1 where
 turn:=λi H M e m l x hx=>by
  have f:=e.aK _ _ _ h;have d:(nh k kvs).length=ws.length:=by rw[<-iC r];unfold nh;split<;>simp
  have hi:i<ws.length:=by rw[<-d];exact(jG.mp hx).1
  refine⟨⟨_,f,rfl,hi⟩,λv b y=>?_⟩
  obtain⟨rfl,u,g,y⟩:=y;rw[f]at g;cases g;refine⟨.refl _,λ_ w=>w,?_⟩
  cases k with
  |true=>
   rw[ah rfl]at y;obtain⟨j,e1,rfl⟩:=y;obtain⟨q,c,_⟩:=rS r e1;have:x=kR j.1:=by simpa[nh,c]using hx.symm
   rw[this];exact BA _
  |false=>
   rw[ae (by decide)]at y
   obtain⟨j,e1,rfl⟩:=y;obtain⟨q,c,n⟩:=rS r e1;have:x=q:=by simpa[nh,c]using hx.symm
   rw[this];exact Rep.ext e _ _ n
 stop:=λi H M e m l hi=>by
  have d:(nh k kvs).length=ws.length:=by rw[<-iC r];unfold nh;split<;>simp
  exact⟨_,e.aK _ _ _ h,rfl,by rw[d]at hi;exact hi⟩
 cb:=s
theorem MQ{un:RM->RM}(h:H1 a=some (.aZ o (.dT ws)))(r:aF K H1 kvs ws)
 (v:∀H M,Ext H1 H->View K H M->M a=some (.ft kvs)->∃c,eJ H0 H c/\bp H c/\Ext Hs c/\View K c (un M)):gX H0 Hs K (wU o a k) (ng k kvs) (λM=>M a=some (.ft kvs)) un H1 where
 turn:=λi H M e s n x hx=>by
  have g:=e.aK _ _ _ h;have f:(ng k kvs).length=ws.length:=by rw[<-iC r];unfold ng;split<;>simp
  have hi:i<ws.length:=by rw[<-f];exact(jG.mp hx).1
  refine⟨⟨_,g,rfl,hi⟩,λv c y=>?_⟩
  obtain⟨rfl,u,j,y⟩:=y;rw[g]at j;cases j;refine⟨.refl _,λ_ w=>w,?_⟩
  cases k with
  |true=>
   rw[ah rfl]at y;obtain⟨l,b,e1,rfl,m⟩:=y;obtain⟨q,d,_⟩:=rS r e1;have:x= .tup (l.1.map oR):=by simpa[ng,d]using hx.symm
   rw[this];simp only[Rep];exact⟨b,_,rfl,m,Lk _⟩
  |false=>
   rw[ae (by decide)]at y
   obtain⟨l,e1,rfl⟩:=y;obtain⟨q,d,t⟩:=rS r e1;have:x=q:=by simpa[ng,d]using hx.symm
   rw[this];exact Rep.ext e _ _ t
 stop:=λi H M e s n hi=>by
  have f:(ng k kvs).length=ws.length:=by rw[<-iC r];unfold ng;split<;>simp
  exact⟨_,e.aK _ _ _ h,rfl,by rw[f]at hi;exact hi⟩
 cb:=v
end
noncomputable def sQ (k:Bool)(Q:LR->(RM->Prop)->(RM->RM)->RM->Prop):ao:=λv M1=>match v with
 | .ref a=>match M1 a with
  |some (.dk kvs)=>Q (nh k kvs) (λM=>M a=some (.fk kvs)) (λM=>put M a (.dk kvs)) (put M1 a (.fk kvs))
  |some (.dt kvs)=>Q (ng k kvs) (λM=>M a=some (.ft kvs)) (λM=>put M a (.dt kvs)) (put M1 a (.ft kvs))
  |some (.fk kvs)=>Q (nh k kvs) (λM=>M a=some (.fk kvs)) id M1
  |some (.ft kvs)=>Q (ng k kvs) (λM=>M a=some (.ft kvs)) id M1
  |_=>False
 |_=>False
def HB(k:Bool)(te:au):gj:=λσ M Q=>te σ M (sQ k Q)
section
variable {X:Cx}{tg:Expr}
theorem hold{H H1:Hp}{s:Shared}{rv:RV}{v:V}{M1:RM}(I:Inv X pins σ0 H1 s)(e1:Ext H H1)(v1:View X.K H1 M1)(r1:Rep X.K H1 rv v)(q:sQ k Q rv M1):
 ∃a o u H2 xs ok un M2,v= .ref a/\Inv X pins σ0 H2 s/\H2 a=some (.aZ o u)/\jz u=true/\gX X.H₀ H X.K (wU o a k) xs ok un H2/\Q xs ok un M2/\Ext H H2/\View X.K H2 M2:=by
 cases rv<;>first|(exact(show False from q).elim)|skip
 rename_i a;simp only[Rep]at r1;unfold sQ at q;simp only at q;split at q
 . rename_i kvs em
   obtain⟨ho,eh,ws,rfl,r⟩:=v1 a _ em;obtain⟨ob,g,I2,n0⟩:=vn I eh rfl;have ex:Ext H1 (upd H1 a (.aZ ob (.dK ws))):=Ext.write eh rfl;refine⟨a,ob,.dK ws,_,_,_,_,_,r1,I2,c0,rfl,MR c0 (r.ext ex) λH2 M e hv hm=>?_,q,e1.trans ex,v1.write em ⟨ob,ws,rfl,r.ext ex⟩⟩
   have hH:=e.aK _ _ _ (c0 (H:=H1) (a:=a) (o:=.aZ ob (.dK ws)));have xw:bp H2 (upd H2 a (.dK ws)):=bp.cb hH rfl;refine⟨upd H2 a (.dK ws),.inr ⟨a,ob,_,hH,rfl,n0,rfl⟩,xw,⟨λb xs z=>?_,λb o' u' z=>?_⟩,hv.write hm ⟨ws,rfl,aF.aX xw (r.ext (ex.trans e))⟩⟩
   . have z1:=e.bj _ _ (ex.bj _ _ (e1.bj _ _ z))
     rw[aE (by rintro rfl;rw[hH]at z1;cases z1)];exact z1
   . have z0:=e1.aK _ _ _ z
     rw[aE (by rintro rfl;rw[eh]at z0;cases z0)];exact e.aK _ _ _ (ex.aK _ _ _ z0)
 . rename_i kvs em
   obtain⟨ho,eh,ws,rfl,r⟩:=v1 a _ em;obtain⟨ob,g,I2,n0⟩:=vn I eh rfl;have ex:Ext H1 (upd H1 a (.aZ ob (.dT ws))):=Ext.write eh rfl;refine⟨a,ob,.dT ws,_,_,_,_,_,r1,I2,c0,rfl,MQ c0 (r.ext ex) λH2 M e hv hm=>?_,q,e1.trans ex,v1.write em ⟨ob,ws,rfl,r.ext ex⟩⟩
   have hH:=e.aK _ _ _ (c0 (H:=H1) (a:=a) (o:=.aZ ob (.dT ws)));have xw:bp H2 (upd H2 a (.dT ws)):=bp.cb hH rfl;refine⟨upd H2 a (.dT ws),.inr ⟨a,ob,_,hH,rfl,n0,rfl⟩,xw,⟨λb xs z=>?_,λb o' u' z=>?_⟩,hv.write hm ⟨ws,rfl,aF.aX xw (r.ext (ex.trans e))⟩⟩
   . have z1:=e.bj _ _ (ex.bj _ _ (e1.bj _ _ z))
     rw[aE (by rintro rfl;rw[hH]at z1;cases z1)];exact z1
   . have z0:=e1.aK _ _ _ z
     rw[aE (by rintro rfl;rw[eh]at z0;cases z0)];exact e.aK _ _ _ (ex.aK _ _ _ z0)
 . rename_i kvs em
   obtain⟨ho,eh,ob,ws,rfl,r⟩:=v1 a _ em;exact⟨a,ob,.dK ws,H1,_,_,_,_,r1,I,eh,rfl,MR eh r (mU e1),q,e1,v1⟩
 . rename_i kvs em
   obtain⟨ho,eh,ob,ws,rfl,r⟩:=v1 a _ em;exact⟨a,ob,.dT ws,H1,_,_,_,_,r1,I,eh,rfl,MQ eh r (mU e1),q,e1,v1⟩
 . exact q.elim
theorem L6{s:Shared}{a:Addr}(I:Inv X pins σ0 H s)(h:H a=some (.aZ o u))(c:jz u=true):s.TypeIs (.ref a) "dict"/\∀b,Value.ref a= .ref b->∃ob,s.heap.get? b=some ob/\ob.dict=none:=by
 obtain⟨i,g,k,rd,_⟩:=uy I h c;refine⟨rd.ty,λb e=>?_⟩
 cases e;obtain⟨o1,d,f,j⟩:=rd;exact⟨o1,d,f.2.1⟩
theorem qyP{l:Expr}{ap p:Pos}(U:ai X l te)(c:attributeBase l "values" X.env (eval l X.env)=eval l X.env)(d:(ap.endLine==p.line)=true):hG X tg (.Call (.Attribute l "values" ap) [] [] p) (HB false te):=by
 intro b s g H R I h;obtain⟨σ,M,Q,hs,Y,W,O⟩:=h;refine wpAny_Call_method (T:="dict") (id:="dict.values") c rfl d F.plainAttrs_dict F.slot_dict_values F.type_dict_values (az (U b s g H (λx H1=>∃rv M1,Rep X.K H1 rv x/\sQ false Q rv M1/\Ext H H1/\View X.K H1 M1) I ⟨σ,M,_,hs,Y,W,λrv M1 v H1 q e1 n r1=>⟨rv,M1,r1,q,e1,n⟩⟩) λuv f zz=>?_);obtain⟨v,H1,A,rl,rv,M1,r1,q,e1,n⟩:=zz
 obtain⟨a,o,u,i,xs,ok,un,M2,rfl,j,y,r,Z,q,C,v2⟩:=hold A e1 n r1 q;cases(show uv=Value.ref a from rl)
 obtain⟨w,t,N,rd,J,_⟩:=uy j y r;obtain⟨z,t2⟩:=L6 j y r;refine⟨z,t2,method_meetsIn F.slot_dict_values F.entry_dict_values rfl (PySem.evalArgs_none ⟨rfl,z,F.args_dict_values_1 _,_,Jw J,⟨w,t,rd⟩,?_⟩)⟩;have k:Inv X b g i { f with heap:=f.heap.push { cls:=.type "dict_values",data:=.fields #[.ref a] } }:=j.kept (t':=f.toks) λb o e=>bz _ e
 have m:cg (f.heap.push { cls:=.type "dict_values",data:=.fields #[.ref a] }) a w t:=by obtain⟨o1,D,E⟩:=rd;exact⟨o1,bz _ D,E⟩
 refine JQ (s:={ f with heap:=f.heap.push { cls:=.type "dict_values",data:=.fields #[.ref a] } }) ⟨_,dv _ rfl,rfl,rfl⟩ m ?_
 refine⟨_,[_],_,_,i,rfl,k.kept (t':=f.toks) λb o e=>bz _ e,T5 N,⟨_,dv _ rfl,rfl,rfl⟩,λb L=>?_,O xs ok un M2 _ i q C v2 Z⟩
 have e:=jc.mp L;subst e;exact k.fZ (aN _) (k.av.fresh (aN _))
end
noncomputable def Itm (o:Obj)(a:Addr):It:=
 ⟨λi H=>∃b:List (Key×V),H a=some (.aZ o (.dK b))/\i<b.length,λi H x c=>∃(b:List (Key×V)) (kv:Key×V) (p:Addr),H a=some (.aZ o (.dK b))/\b[i]? =some kv/\x= .ref p/\H p=none/\c=upd H p (.tup [kV kv.1,kv.2]),λi H=>∃b:List (Key×V),H a=some (.aZ o (.dK b))/\b.length<=i⟩
section
variable {X:Cx}
theorem AZ{s:Shared}{a:Addr}(I:Inv X pins σ H s)(h:H a=some (.aZ o (.dK ws))):∃vs b d,o.data= .dict b d/\KV ws vs/\s.heap.DictAt (c6 X.prog X.w) a vs d/\(a==sysModules)=false/\vs.length=b.size:=by
 obtain⟨g,z,y,vs,r,j,b,d,e,c,dd,ks,f,i⟩:=I.av a _ h;rw[g]at e;cases e;exact⟨vs,b,d,dd,r,⟨o,b,g,c,dd,ks,f,i⟩,y,by have:=f.length;simp at this;omega⟩
theorem R1:entryFor table "dict_itemiterator.__iter__" =some Builtin.«dict_keyiterator.__iter__»:=entryFor_alias (id':="dict_keyiterator.__iter__") (by kernel_rfl) rfl (by decide+kernel) (by kernel_rfl)
theorem Tg{P:Program}{K:ag}{o:Obj}{a it:Addr}(hd:o.data= .dict es ep):Turn P w K (.Tuple ts tk tp) (Itm o a) [it] it (λi h=>∃ok ov,IsItemIter h it a i es.size ep ok ov) where
 mem:=by simp
 obj:=λi h st b hb=>by
  have e:b=it:=by simpa using hb
  subst e;obtain⟨_,_,st⟩:=st;exact⟨_,st,λv z=>by cases z⟩
 keep:=λi h h' st k=>by obtain⟨x,y,st⟩:=st;exact⟨x,y,k it (by simp) _ st⟩
 item:=by
  intro X hP hw hK hc i pins s σ H E I hf ⟨x0,y0,st⟩ ⟨ws,hg,hi⟩;subst hP hw hK;obtain⟨vs,es',ep',d',r,da,hS,hl⟩:=AZ I hg;rw[hd]at d';cases d';have hv:i<vs.length:=by have:=Paired.length r;omega
  obtain⟨kv,k1,k2,k3⟩:=xM (i:=i) r (by simp[hv]:vs[i]? =some vs[i])
  obtain⟨f0,f1,f2,f3,f4,f5⟩:=hf it (by simp)
  refine wpAny_pyNext_items_item (knd:=c6 X.prog X.w) (k:=vs[i].1) (v:=vs[i].2) (by rw[hl];exact st) da (by simp[hv]) λkey h' hk st' tp' sz kp=>⟨_,rfl,?_⟩
  refine wpAny_letOwnedTupleGo_items (s:={ s with heap:=h' }) st' λh2 st2 sb=>?_
  have eD:=I.av.fresh (aN s.heap.objs.size);have hpi:s.heap.objs.size≠it:=Nat.ne_of_gt (bA st);have t2:h2.get? s.heap.objs.size=some { cls:=.type "tuple",data:=.seq #[key,vs[i].2] }:=sb.extBut _ _ hpi tp';have rk:Vals [kV kv.1,kv.2] [key,vs[i].2]:=.cons (by rw[k2];exact Kg hk) (.cons k3 .nil)
  have I1:Inv X pins σ (upd H s.heap.objs.size (.tup [kV kv.1,kv.2])) { s with heap:=s.heap.push { cls:=.type "tuple",data:=.seq #[key,vs[i].2] },toks:=s.toks }:=
   I.laid (λb o e=>bz _ e) (aN _) ⟨by show 2<=sizeLine;decide,[key,vs[i].2],rk,IsTup.new s.heap _⟩
  have I2:Inv X pins σ (upd H s.heap.objs.size (.tup [kV kv.1,kv.2])) { s with heap:=h2 }:=Inv.turned (s:={ s with heap:=s.heap.push { cls:=.type "tuple",data:=.seq #[key,vs[i].2] },toks:=s.toks }) (h':=h2) (t':=s.toks) (it:=it) I1 (λb o hb e=>?_) (by rw[aE hpi.symm];exact f0) f1 f3 f4 f5
  . exact⟨.ref s.heap.objs.size,_,I2,rfl,⟨ws,kv,_,hg,k1,rfl,eD,rfl⟩,⟨_,_,by rw[<-hl];exact st2⟩,λb hb=>by
     have e:b=it:=by simpa using hb
     subst e;rw[aE hpi.symm];exact f0⟩
  . rcases Heap.get?_push_cases e with⟨rfl,rfl⟩|e'
    . exact t2
    . exact sb.extBut b o hb (kp b o hb e')
 done:=by
  intro X hP hw hK hc i pins s σ H E I hf ⟨x0,y0,st⟩ ⟨ws,hg,hi⟩;subst hP hw hK;obtain⟨vs,es',ep',d',r,da,hS,hl⟩:=AZ I hg;rw[hd]at d';cases d';have hv:vs.length<=i:=by have:=Paired.length r;omega
  obtain⟨f0,f1,f2,f3,f4,f5⟩:=hf it (by simp)
  exact wpAny_pyNext_items_end (knd:=c6 X.prog X.w) (I.ok.hd hc) (by rw[hl];exact st) da (by simp[hv]) λh' eb=>⟨rfl,I.turned (t':=s.toks) (λb o hb e=>eb b o hb e) f0 f1 f3 f4 f5⟩
 self:=λA i s Q E st h=>by
  obtain⟨x,y,st⟩:=st;have hT:s.TypeIs (.ref it) "dict_itemiterator":=⟨_,st,rfl⟩;refine wpAny_pyIter_slot hT F.slot_dict_itemiterator_iter (jE F.slot_dict_itemiterator_iter hT R1 ?_ (F.args_dict_itemiterator_iter_1 _));refine(?_:wpAny _ _ (ret (.ref it)) _ _ s);exact aI ⟨_,rfl,"dict_itemiterator",_,hT,F.slot_dict_itemiterator_next.lookup,h⟩
def gA(kvs:bT):LR:=kvs.map λkv=>.tup [kR kv.1,kv.2]
theorem MS{K:ag}{H1:Hp}{a:Addr}{un:RM->RM}(h:H1 a=some (.aZ o (.dK ws)))(r:aF K H1 kvs ws)
 (s:∀H M,Ext H1 H->View K H M->M a=some (.fk kvs)->∃b,eJ H0 H b/\bp H b/\Ext Hs b/\View K b (un M)):gX H0 Hs K (Itm o a) (gA kvs) (λM=>M a=some (.fk kvs)) un H1 where
 turn:=λi H M e l k x hx=>by
  have f:=e.aK _ _ _ h;have c:(gA kvs).length=ws.length:=by rw[<-iC r];simp[gA]
  have hi:i<ws.length:=by rw[<-c];exact(jG.mp hx).1
  refine⟨⟨_,f,hi⟩,λv b y=>?_⟩
  obtain⟨t,m,p,g,e1,rfl,d,rfl⟩:=y;rw[f]at g;cases g;obtain⟨q,j,n⟩:=rS r e1;have:x= .tup [kR m.1,q]:=by simpa[gA,j]using hx.symm
  rw[this];exact⟨Ext.new d,λ_ w=>w.new d,rR d (aa.cons (BA _) (aa.cons (Rep.ext e _ _ n) aa.nil))⟩
 stop:=λi H M e l k hi=>by
  have c:(gA kvs).length=ws.length:=by rw[<-iC r];simp[gA]
  exact⟨_,e.aK _ _ _ h,by rw[c]at hi;exact hi⟩
 cb:=s
noncomputable def qz (Q:LR->(RM->Prop)->(RM->RM)->RM->Prop):ao:=λv M1=>match v with
 | .ref a=>match M1 a with
  |some (.dk kvs)=>Q (gA kvs) (λM=>M a=some (.fk kvs)) (λM=>put M a (.dk kvs)) (put M1 a (.fk kvs))
  |some (.fk kvs)=>Q (gA kvs) (λM=>M a=some (.fk kvs)) id M1
  |_=>False
 |_=>False
def HA(te:au):gj:=λσ M Q=>te σ M (qz Q)
theorem qyU{H H1:Hp}{s:Shared}{rv:RV}{v:V}{M1:RM}(I:Inv X pins σ0 H1 s)(e1:Ext H H1)(v1:View X.K H1 M1)(r1:Rep X.K H1 rv v)(q:qz Q rv M1):
 ∃a o ws H2 xs ok un M2,v= .ref a/\Inv X pins σ0 H2 s/\H2 a=some (.aZ o (.dK ws))/\gX X.H₀ H X.K (Itm o a) xs ok un H2/\Q xs ok un M2/\Ext H H2/\View X.K H2 M2:=by
 cases rv<;>first|(exact(show False from q).elim)|skip
 rename_i a;simp only[Rep]at r1;unfold qz at q;simp only at q;split at q
 . rename_i kvs em
   obtain⟨ho,eh,ws,rfl,r⟩:=v1 a _ em;obtain⟨ob,g,I2,n0⟩:=vn I eh rfl;have ex:Ext H1 (upd H1 a (.aZ ob (.dK ws))):=Ext.write eh rfl;refine⟨a,ob,ws,_,_,_,_,_,r1,I2,c0,MS c0 (r.ext ex) λH2 M e hv hm=>?_,q,e1.trans ex,v1.write em ⟨ob,ws,rfl,r.ext ex⟩⟩
   have hH:=e.aK _ _ _ (c0 (H:=H1) (a:=a) (o:=.aZ ob (.dK ws)));have xw:bp H2 (upd H2 a (.dK ws)):=bp.cb hH rfl;refine⟨upd H2 a (.dK ws),.inr ⟨a,ob,_,hH,rfl,n0,rfl⟩,xw,⟨λb xs z=>?_,λb o' u' z=>?_⟩,hv.write hm ⟨ws,rfl,aF.aX xw (r.ext (ex.trans e))⟩⟩
   . have z1:=e.bj _ _ (ex.bj _ _ (e1.bj _ _ z))
     rw[aE (by rintro rfl;rw[hH]at z1;cases z1)];exact z1
   . have z0:=e1.aK _ _ _ z
     rw[aE (by rintro rfl;rw[eh]at z0;cases z0)];exact e.aK _ _ _ (ex.aK _ _ _ z0)
 . rename_i kvs em
   obtain⟨ho,eh,ob,ws,rfl,r⟩:=v1 a _ em;exact⟨a,ob,ws,H1,_,_,_,_,r1,I,eh,MS eh r (mU e1),q,e1,v1⟩
 . exact q.elim
theorem Zr{l:Expr}{ap p:Pos}(n:ai X l te)(c:attributeBase l "items" X.env (eval l X.env)=eval l X.env)(d:(ap.endLine==p.line)=true):hG X (.Tuple ts tk tp) (.Call (.Attribute l "items" ap) [] [] p) (HA te):=by
 intro b s g H R I h;obtain⟨σ,M,Q,hs,N,L,E⟩:=h;refine wpAny_Call_method (T:="dict") (id:="dict.items") c rfl d F.plainAttrs_dict F.slot_dict_items F.type_dict_items (az (n b s g H (λx H1=>∃rv M1,Rep X.K H1 rv x/\qz Q rv M1/\Ext H H1/\View X.K H1 M1) I ⟨σ,M,_,hs,N,L,λrv M1 v H1 q e1 t r1=>⟨rv,M1,r1,q,e1,t⟩⟩) λuv f zz=>?_);obtain⟨v,H1,y,W,rv,M1,r1,q,e1,t⟩:=zz
 obtain⟨a,o,ws,i,xs,U,un,M2,rfl,j,u,O,q,z,Z⟩:=qyU y e1 t r1 q;cases(show uv=Value.ref a from W)
 obtain⟨vs,es,ep,D,r,m,A,n⟩:=AZ j u;obtain⟨w,Y⟩:=L6 j u rfl;refine⟨w,Y,method_meetsIn F.slot_dict_items F.entry_dict_items rfl (PySem.evalArgs_none ⟨rfl,w,F.args_dict_items_1 _,_,meets_dict_items (c6 X.prog X.w) a A,⟨vs,m.dictOf⟩,?_⟩)⟩;have k:Inv X b g i { f with heap:=f.heap.push { cls:=.type "dict_items",data:=.fields #[.ref a] } }:=j.kept (t':=f.toks) λb o e=>bz _ e
 refine wpAny_pyIter_items (s:={ f with heap:=f.heap.push { cls:=.type "dict_items",data:=.fields #[.ref a] } }) ⟨_,dv _ rfl,rfl,rfl⟩ (m.push _) ?_
 have J:a<f.heap.objs.size:=m.lt_size;refine⟨_,[_],_,_,i,rfl,k.kept (t':=f.toks) λb o e=>bz _ e,Tg D,⟨_,_,by rw[<-n];exact dv _ rfl⟩,λb C=>?_,E xs U un M2 _ i q z Z O⟩
 have e:=jc.mp C;subst e;exact k.fZ (aN _) (k.av.fresh (aN _))
end
section
variable {prog:Program}{w:World}{A:Around}{d r:Addr}{es:Array DictEntry}{ep:Nat}
theorem cg.keep{h h':Heap}(x:cg h d es ep)(k:∀o,h.get? d=some o->h'.get? d=some o):cg h' d es ep:=by obtain⟨o,a,b⟩:=x;exact⟨o,k o a,b⟩
theorem cg.lt(x:cg h d es ep):d<h.objs.size:=by obtain⟨o,a,b⟩:=x;exact bA a
theorem T4(hh:A.handled=none)(I:Addr)(hne:d≠I):Walks prog w A I [I,d] [I] es.size (λi v=>∃hi:i<es.size,v=es[i].val) (λi h=>h.IsValIter I d i es.size ep/\cg h d es ep) where
 sub:=λb hb=>by simp at hb;simp[hb]
 frame:=λ_ _ _ st hk=>⟨st.1.at λo e=>hk I (by simp) o e,st.2.keep λo e=>hk d (by simp) o e⟩
 item:=λi s Q E hi st hQ=>Jn st.1 st.2 hi λh' hit' hs'=>hQ _ h' s.toks ⟨hi,rfl⟩ ⟨hit',st.2.keep λo e=>hs'.extBut d o hne e⟩ λb o hb e=>hs'.extBut b o (λh=>hb (by simp[h])) e
 done:=λs Q E st hQ=>Jo hh st.1 st.2 (aN _) λh' he'=>hQ h' s.toks λb o hb e=>he' b o (λh=>hb (by simp[h])) e
 self:=λ_ _ _ _ st hQ=>wpAny_pyIter_valiter st.1 hQ
theorem Vo:PySem.W.KdlSrc prog w "dict_values" r d es.size (λi v=>∃hi:i<es.size,v=es[i].val) (λh=>h.IsValuesView r d/\cg h d es ep) where
 type:=λ_ a=>a.1.typeIs
 there:=λ_ a=>⟨let⟨_,ho,_⟩:=a.1;bA ho,a.2.lt⟩
 keep:=λ_ _ a c=>⟨let⟨o,ho,x⟩:=a.1;⟨o,c r (.inl rfl) o ho,x⟩,a.2.keep λo e=>c d (.inr rfl) o e⟩
 notList:=by decide
 notTuple:=by decide
 hint:=λ_ _ _ _ a b=>PySem.W.kdl_hint_values a.1.typeIs b
 iter:=λ_ _ f a=>⟨_,_,(λ_ _ b=>JQ a.1 a.2 b),T4 f _ (cE a.2.lt),⟨⟨_,dv _ rfl,rfl,rfl⟩,a.2.keep λo e=>bz _ e⟩⟩
end
noncomputable def vS:RO->Option (LR)
 | .dk kvs=>some (kvs.map (·.2))
 | .fk kvs=>some (kvs.map (·.2))
 | .dt kvs=>some (kvs.map (·.2))
 | .ft kvs=>some (kvs.map (·.2))
 |_=>none
def tZ(md:Bool)(Q:ao):ao:=λv M=>match v with
 | .ref a=>match(M a).bind vS with
  |some xs=>j3 md xs M Q
  |none=>False
 |_=>False
def Ow(md:Bool)(te:au):au:=λσ M Q=>te σ M (tZ md Q)
section
variable {X:Cx}
theorem vd{K:ag}:∀{a:List (κ×RV)} {ws:List (κ×V)},aF K H a ws->aa K H (a.map (·.2)) (ws.map (·.2))
 | [],ws,h=>by have h:ws= []:=h;subst h;exact aa.nil
 |(k,x)::r,ws,h=>by obtain⟨v,t,rfl,b,c⟩:=h;exact aa.cons b (vd c)
theorem Y6{s:Shared}{a:Addr}(I:Inv X pins σ0 H s)(L:View X.K H M)(F:M a=some o)(h:vS o=some xs):
 ∃vs c k,cg s.heap a c k/\(a==sysModules)=false/\c.size=vs.length/\vs.length<=sizeLine/\aa X.K H xs vs/\∀i (hi:i<c.size),∃x,vs[i]? =some x/\RelV x c[i].val:=by
 obtain⟨U,m,r⟩:=L a o F;have d:∀u n ob vs,Inv X pins σ0 n s->n a=some (.aZ ob u)->jz u=true->(∀i x,valAt u i x->vs[i]? =some x)->m9 u=vs.length->aa X.K H xs vs->∃vs c k,cg s.heap a c k/\(a==sysModules)=false/\c.size=vs.length/\vs.length<=sizeLine/\aa X.K H xs vs/\∀i (hi:i<c.size),∃x,vs[i]? =some x/\RelV x c[i].val:=λu n ob vs j D A t v J=>by
  obtain⟨c,k,h,rd,E,e1,C,l⟩:=uy j D A;exact⟨vs,c,k,rd,E,by rw[e1,v],by rw[<-v];exact C,J,λi hi=>by obtain⟨_,x,N,O⟩:=l i hi;exact⟨x,t i x N,O⟩⟩
 have w:∀(b:List (Key×V)) i x,valAt (.dK b) i x->(b.map (·.2))[i]? =some x:=λws i x ⟨Q,e,z⟩=>by rw[fJ,e,z];rfl
 have y:∀(b:List (TK×V)) i x,valAt (.dT b) i x->(b.map (·.2))[i]? =some x:=λws i x ⟨Q,e,z⟩=>by rw[fJ,e,z];rfl
 cases o<;>first|(cases h;done)|skip
 . obtain⟨b,rfl,f⟩:=r
   cases h;obtain⟨ob,g,j,R⟩:=vn I m rfl;exact d _ _ ob (b.map (·.2)) j c0 rfl (w b) (by simp[m9]) (vd f)
 . obtain⟨b,rfl,f⟩:=r
   cases h;obtain⟨ob,g,j,R⟩:=vn I m rfl;exact d _ _ ob (b.map (·.2)) j c0 rfl (y b) (by simp[m9]) (vd f)
 . obtain⟨ob,b,rfl,f⟩:=r
   cases h;exact d _ _ ob (b.map (·.2)) I m rfl (w b) (by simp[m9]) (vd f)
 . obtain⟨ob,b,rfl,f⟩:=r
   cases h;exact d _ _ ob (b.map (·.2)) I m rfl (y b) (by simp[m9]) (vd f)
theorem JL:∀{vs:LV} {us:ak},us.length=vs.length->(∀(i:Nat) u,us[i]? =some u->∃x,vs[i]? =some x/\RelV x u)->Vals vs us
 | [],[],_,_=>.nil
 | [],_::_,h,_=>by cases h
 |_::_,[],h,_=>by cases h
 |v::vs,u::us,h,f=>by
  obtain⟨x,e,r⟩:=f 0 u rfl;cases e;exact .cons r (JL (by simpa using h) λi u e=>f (i+1) u (by simpa using e))
theorem rlv{l:Expr}{p1 ap r pos:Pos}(A:X.mg "list" =none)(hc:X.calm=true)(hl:ai X l te)(z:Gl X "list")(c:attributeBase l "values" X.env (eval l X.env)=eval l X.env)(d:(ap.endLine==r.line)=true):
 ai X (.Call (.Name "list" p1) [.Call (.Attribute l "values" ap) [] [] r] [] pos) (Ow md te):=by
 intro b s w H Q0 I h;obtain⟨σ,M,Q,hs,hv,ht,N⟩:=h;have k:starEach [Expr.Call (.Attribute l "values" ap) [] [] r] X.env=(false,eval (Expr.Call (.Attribute l "values" ap) [] [] r) X.env)::starEach [] X.env:=rfl;refine Call_ (m4 I z A boot_list (sZ ?_ k rfl));rw[k];show wpAny _ _ (spliced ((false,eval (Expr.Call (.Attribute l "values" ap) [] [] r) X.env)::backTo pos (starEach [] X.env))) _ _ s;refine Calls.spliced_cons (wpAny_Call_method (T:="dict") (id:="dict.values") c rfl d F.plainAttrs_dict F.slot_dict_values F.type_dict_values (az (hl b s w H (λx H1=>∃rv M1,Rep X.K H1 rv x/\tZ md Q rv M1/\Ext H H1/\View X.K H1 M1) I ⟨σ,M,_,hs,hv,ht,λrv M1 v H1 q e1 f r1=>⟨rv,M1,r1,q,e1,f⟩⟩) λuv t zz=>?_));obtain⟨v,H1,D,rl,rv,M1,r1,q,e1,f⟩:=zz
 cases rv<;>first|(exact(show False from q).elim)|skip
 rename_i a;simp only[Rep]at r1;subst r1;cases(show uv=Value.ref a from rl)
 unfold tZ at q;simp only at q;split at q
 . rename_i xs ex
   obtain⟨o,hm,hd⟩:=Option.bind_eq_some_iff.mp ex;obtain⟨vs,W,U,rd,hS,J,L,O,j⟩:=Y6 D f hm hd;refine⟨rd.ty,λb e=>by cases e;obtain⟨o1,Y,Z,h3⟩:=rd;exact⟨o1,Y,Z.2.1⟩,method_meetsIn F.slot_dict_values F.entry_dict_values rfl (PySem.evalArgs_none ⟨rfl,rd.ty,F.args_dict_values_1 _,_,Jw hS,⟨W,U,rd⟩,Calls.spliced_nil ?_⟩)⟩
   have y:Inv X b w H1 { t with heap:=t.heap.push { cls:=.type "dict_values",data:=.fields #[.ref a] } }:=D.kept (t':=t.toks) λb o e=>bz _ e
   refine PySem.W.kdl_call (s:={ t with heap:=t.heap.push { cls:=.type "dict_values",data:=.fields #[.ref a] } }) Vo (y.ok.hd hc) ⟨⟨_,dv _ rfl,rfl,rfl⟩,rd.keep λo e=>bz _ e⟩ (by rw[J];exact L) λh' tk g R kp m n=>?_
   have C:Vals vs g.toList:=JL (by simp[n.1,J]) λi u e=>by
    obtain⟨hi,rfl⟩:=n.2 i u (by rw[<-Array.getElem?_toList];exact e)
    exact j i hi
   have eD:=y.av.fresh (aN _);have E:=y.laid (t':=tk) (o:=.lst vs) (h':=h') kp (aN _) ⟨L,g.toList,R,C,by simpa using m⟩
   cases md with
   |true=>exact⟨.ref _,_,E,rfl,N (.ref _) _ _ _ (q _ (f.free eD)) (e1.trans (Ext.new eD)) (f.cV eD ⟨vs,rfl,aa.ext (Ext.new eD) _ _ O⟩) (by simp only[Rep])⟩
   |false=>exact frozen ⟨.ref _,_,E,rfl,H1,_,vs,rfl,eD,rfl,λo=>N _ M1 _ _ q (e1.trans (Ext.new eD)) (f.new eD) (js eD O)⟩
 . exact q.elim
end
noncomputable def jA:Key->Key->Bool
 | .inl i,.inl j=>decide (i<j)
 | .inl _,.inr _=>true
 | .inr _,.inl _=>false
 | .inr x,.inr y=>decide (x.cps.toList<y.cps.toList)
noncomputable def j4:bB->bB->Bool
 |none,none=>false
 |none,some _=>true
 |some _,none=>false
 |some k,some l=>jA k l
noncomputable def ee:TK->TK->Bool
 | [],[]=>false
 | [],_::_=>true
 |_::_,[]=>false
 |x::xs,y::ys=>if x=y then ee xs ys else j4 x y
theorem Xc{x y:Str}(h:x.cps.toList=y.cps.toList):x=y:=by
 cases x;cases y;simp_all
theorem VL(a):jA a a=false:=by
 cases a with
 |inl i=>simp[jA]
 |inr x=>simpa[jA]using List.lt_irrefl x.cps.toList
theorem Xi{a b c:Key}(d:jA a b=true)(e:jA b c=true):jA a c=true:=by
 cases a<;>cases b<;>cases c<;>simp only[jA,fU,reduceCtorEq]at d e ⊢
 . omega
 . exact List.lt_trans d e
theorem VJ{a b:Key}(c:jA a b=false)(d:jA b a=false):a=b:=by
 cases a<;>cases b<;>simp only[jA,decide_eq_false_iff_not,reduceCtorEq]at c d
 . congr 1;omega
 . congr 1;exact Xc (List.le_antisymm (List.not_lt.mp d) (List.not_lt.mp c))
theorem VI(a):j4 a a=false:=by cases a<;>simp[j4,VL]
theorem Xh{a b c:bB}(d:j4 a b=true)(e:j4 b c=true):j4 a c=true:=by
 cases a<;>cases b<;>cases c<;>simp only[j4,reduceCtorEq]at d e ⊢
 exact Xi d e
theorem VH{a b:bB}(c:j4 a b=false)(d:j4 b a=false):a=b:=by
 cases a<;>cases b<;>simp only[j4,reduceCtorEq]at c d ⊢
 exact congrArg some (VJ c d)
theorem KR:∀a:TK,ee a a=false
 | []=>rfl
 |x::xs=>by unfold ee;rw[ah rfl];exact KR xs
theorem Bj:∀{a b c:TK},ee a b=true->ee b c=true->ee a c=true
 | [],b,[],h1,h2=>by cases b<;>simp[ee]at h1 h2
 | [],b,z::zs,_,_=>rfl
 |x::xs,[],c,h1,_=>by simp[ee]at h1
 |x::xs,y::ys,[],_,h2=>by simp[ee]at h2
 |x::xs,y::ys,z::zs,h1,h2=>by
  unfold ee at h1 h2 ⊢
  by_cases e1:x=y
  . subst e1
    rw[ah rfl]at h1
    by_cases d:x=z
    . subst d;rw[ah rfl]at h2 ⊢;exact Bj h1 h2
    . rw[ae d]at h2 ⊢;exact h2
  . rw[ae e1]at h1
    by_cases d:y=z
    . subst d;rw[ae e1];exact h1
    . rw[ae d]at h2
      have t:=Xh h1 h2;rw[ae (by rintro rfl;rw[VI]at t;cases t)]
      exact t
theorem yo:∀{a b:TK},ee a b=false->ee b a=false->a=b
 | [],[],_,_=>rfl
 | [],_::_,h,_=>by simp[ee]at h
 |_::_,[],_,h=>by simp[ee]at h
 |x::xs,y::ys,h1,h2=>by
  unfold ee at h1 h2
  by_cases e:x=y
  . subst e
    rw[ah rfl]at h1 h2;rw[yo h1 h2]
  . rw[ae e]at h1
    rw[ae (cN e)]at h2;exact aS (VH h1 h2) e
@[reducible] def gC:KeyOrd where
 α:=TK
 blt:=ee
 irrefl:=KR
 trans:=λ_ _ _=>Bj
 negTrans:=λa b c h=>by
  cases h1:ee a b with
  |true=>exact .inl rfl
  |false=>
   cases h2:ee b a with
   |true=>exact .inr (Bj h2 h)
   |false=>rw[yo h1 h2]at h;exact .inr h
 total:=λ_ _=>yo
def ir(a b:TK):Bool:=!ee b a
def ju(a:List TK):List TK:=a.mergeSort ir
theorem Yd{a b c:TK}(d:ir a b=true)(e:ir b c=true):ir a c=true:=by
 unfold ir at*;rw[jd]at*;exact KeyOrd.kle_trans (O:=gC) d e
theorem T8(a b):(ir a b||ir b a)=true:=by
 unfold ir;cases h:ee b a with
 |false=>rfl
 |true=>rw[show ee a b=false from KeyOrd.klt_asymm (O:=gC) h];rfl
theorem rH(a:List TK):(ju a).Perm a:=List.mergeSort_perm ..
theorem Vp(c:List TK):(ju c).Pairwise λa b=>ir a b=true:=List.pairwise_mergeSort (le:=ir) (λ_ _ _=>Yd) T8 c
theorem Vq{l c:List TK}(f:l.Perm c)(hs:l.Pairwise λa b=>ir a b=true):l=ju c:=
 (f.trans (rH c).symm).eq_of_pairwise (λa b _ _ d e=>by
  unfold ir at d e;rw[jd]at d e;exact yo e d) hs (Vp c)
noncomputable def iq:bB->bB->Bool
 |some (.inl _),some (.inl _)=>true
 |some (.inr _),some (.inr _)=>true
 |_,_=>false
noncomputable def om:TK->TK->Bool
 |x::xs,y::ys=>if x=y then om xs ys else iq x y
 |_,_=>true
def Aj:TK->Bool
 |some (.inl _)::_=>true
 |_=>false
def Ak:TK->Bool
 |some (.inr _)::_=>true
 |_=>false
def jT(c:List TK):Bool:=(c.all Aj||c.all Ak)&&c.all λa=>c.all λb=>om a b
noncomputable def rowsOf:LR->Option (List TK)
 | []=>some []
 |x::xs=>match eZ x,rowsOf xs with
  |some k,some ks=>some (k::ks)
  |_,_=>none
def bu(r:TK):RV:=.tup (r.map oR)
theorem K4:∀{rs:LR} {k:TK},gB rs=some k->rs=k.map oR
 | [],k,h=>by cases h;rfl
 |r::rs,k,h=>by
  unfold gB at h;split at h
  . rename_i a b e1 c
    cases h;rw[bU,<-K4 c];congr 1;cases r<;>simp only[n9,reduceCtorEq]at e1<;>cases e1<;>rfl
  . cases h
theorem UX{x:RV}(h:eZ x=some k):x=bu k:=by
 cases x<;>first|(cases h;done)|skip
 unfold bu;rw[<-K4 h]
theorem JO:∀{xs:LR} {rows:List TK},rowsOf xs=some rows->xs=rows.map bu
 | [],rows,h=>by cases h;rfl
 |x::xs,rows,h=>by
  unfold rowsOf at h;split at h
  . rename_i a b e1 c
    cases h;rw[bU,<-JO c,<-UX e1]
  . cases h
section
variable {P:Program}{w:World}
noncomputable def bW (P:Program)(w:World)(h:Heap):List TK->ak->Prop
 | [],[]=>True
 |r::rs,v::vs=>(∃a ab,v= .ref a/\IsTup h a ab/\ItemsAre (optKind P w) r ab.toList)/\bW P w h rs vs
 |_,_=>False
theorem bW.keep{h g:Heap}(k:∀b o,h.get? b=some o->g.get? b=some o):∀{c:List TK} {vs:ak},bW P w h c vs->bW P w g c vs
 | [],[],_=>trivial
 |_::_,_::_,⟨⟨a,ab,e,⟨o,h1,h2⟩,h3⟩,r⟩=>⟨⟨a,ab,e,⟨o,k a o h1,h2⟩,h3⟩,bW.keep k r⟩
 | [],_::_,h=>h.elim
 |_::_,[],h=>h.elim
theorem bW.len:∀{a:List TK} {vs:ak},bW P w h a vs->a.length=vs.length
 | [],[],_=>rfl
 |_::_,_::_,⟨_,r⟩=>by rw[cQ,cQ,r.len]
 | [],_::_,h=>h.elim
 |_::_,[],h=>h.elim
theorem bW.at:∀{b:List TK} {vs:ak} {i:Nat},bW P w h b vs->i<b.length->∃a ab,vs.getD i Value.none= .ref a/\IsTup h a ab/\ItemsAre (optKind P w) (b.getD i []) ab.toList
 |_::_,_::_,0,⟨⟨a,ab,e,h1,h2⟩,_⟩,_=>⟨a,ab,by simpa using e,h1,by simpa using h2⟩
 |_::_,_::_,i+1,⟨_,r⟩,hi=>by
  obtain⟨a,ab,e1,c,d⟩:=r.at (i:=i) (by simpa using hi)
  exact⟨a,ab,by simpa using e1,c,by simpa using d⟩
 | [],_,_,_,hi=>aS hi (tf _)
 |_::_,[],_,h,_=>h.elim
theorem Bq{i:Int}{v:Value}(h:(optKind P w).is (some (.inl i)) v=true):∃t,v= .int i t:=Value.isInt_shape (show Value.isInt i v=true from h)
theorem Bp{x:Str}{v:Value}(h:(optKind P w).is (some (.inr x)) v=true):∃t,v= .str x t:=Value.isStrOf_shape (show Value.isStrOf x v=true from h)
theorem GF{fin b:Bool}{s:Shared}(a:b=true):∀{ks ls:TK} {xs ys:ak} {i:Nat},ItemsAre (optKind P w) ks xs->ItemsAre (optKind P w) ls ys->om ks ls=true->fin=decide (ks.length<ls.length)->Q (ee ks ls) s->KatLex P w A b fin Q (xs.zip ys) i s
 | [],[],_,_,i,.nil,.nil,_,hf,q=>by subst hf;exact q
 | [],_::_,_,_,i,.nil,.cons _ _,_,hf,q=>by rw[hf];exact(show Q _ s from by simpa[ee]using q)
 |_::_,[],_,_,i,.cons _ _,.nil,_,hf,q=>by rw[hf];exact(show Q _ s from by simpa[ee]using q)
 |k::ks,l::ls,_,_,i,.cons hk r1,.cons hl r2,ha,hf,q=>by
  refine(optKind P w).eqBool hk hl ?_;unfold om at ha;unfold ee at q
  by_cases e:k=l
  . rw[ah e]at ha q
    rw[ah (by simpa using e)]
    exact GF a r1 r2 ha (by rw[hf];simp) q
  . rw[ae e]at ha q
    rw[ae (by simpa using e)]
    subst a;unfold iq at ha;split at ha
    . rename_i m n
      obtain⟨t,rfl⟩:=Bq hk;obtain⟨u,rfl⟩:=Bq hl;have q:Q (decide (m<n)) s:=q
      by_cases z:i=0
      . rw[show(true&&i==0)=true by rw[z];rfl];exact oneLt_int q
      . rw[show(true&&i==0)=false by simpa using z];exact kat_one _ _ (PySem.P.lt_int q)
    . rename_i m n
      obtain⟨t,rfl⟩:=Bp hk;obtain⟨u,rfl⟩:=Bp hl;have q:Q (decide (m.cps.toList<n.cps.toList)) s:=q
      by_cases z:i=0
      . rw[show(true&&i==0)=true by rw[z];rfl];exact oneLt_str q
      . rw[show(true&&i==0)=false by simpa using z];exact kat_one _ _ (PySem.P.lt_str q)
    . cases ha
theorem heads{T:Value}{p:TK->Bool}(g:∀r,p r=true->∀ab,ItemsAre (optKind P w) r ab->∃f,ab[0]? =some f/\Looks (model P w) h (typeOf f) T):∀{b:List TK} {vs:ak},bW P w h b vs->b.all p=true->
 ∃c,KatTups h vs c/\c.length=vs.length/\∀v∈c,Looks (model P w) h (typeOf v) T
 | [],[],_,_=>⟨[],trivial,rfl,λ_ z=>by cases z⟩
 |r::b,v::vs,⟨⟨a,ab,e,⟨o,h1,h2,n,h3⟩,h4⟩,rr⟩,ha=>by
  rw[fb,aY]at ha;obtain⟨f,i,j⟩:=g r ha.1 ab.toList h4;obtain⟨c,k,l,m⟩:=heads g rr ha.2;subst e;refine⟨f::c,KatTups.cons h1 h2 h3 (by simpa using i) k,by rw[cQ,cQ,l],λv d=>?_⟩
  rcases fw.mp d with rfl|d
  . exact j
  . exact m v d
 | [],_::_,h,_=>h.elim
 |_::_,[],h,_=>h.elim
theorem UG(r:TK)(c:Aj r=true)(ab)(hi:ItemsAre (optKind P w) r ab):∃f,ab[0]? =some f/\Looks (model P w) h (typeOf f) (.type "int"):=by
 unfold Aj at c;split at c
 . cases hi with
   |cons a b=>obtain⟨t,rfl⟩:=Bq a;exact⟨_,rfl,Looks.of_pure rfl⟩
 . cases c
theorem UE(r:TK)(c:Ak r=true)(ab)(hi:ItemsAre (optKind P w) r ab):∃f,ab[0]? =some f/\Looks (model P w) h (typeOf f) (.type "str"):=by
 unfold Ak at c;split at c
 . cases hi with
   |cons a b=>obtain⟨t,rfl⟩:=Bp a;exact⟨_,rfl,Looks.of_pure rfl⟩
 . cases c
def zf(a:List TK)(i:Nat):gC.α:=a.getD i []
theorem UB{s:Shared}{h0:Heap}{a:Addr}{vs:ak}(F:h0.get? a=none)(L:∀b o,h0.get? b=some o->s.heap.get? b=some o)(r:bW P w h0 rows vs)(h:jT rows=true)(R:2<=vs.length):Cz P w A s a vs (zf rows):=by
 intro g I;have J:∀b o,h0.get? b=some o->g.get? b=some o:=λb o e=>I b o (λz=>by rw[z,F]at e;cases e) (L b o e)
 have f:=r.keep J;unfold jT at h;rw[aY,oF]at h;obtain⟨d,c⟩:=h;refine⟨tuples' true,λQ O q=>?_,λi j C hi U q=>?_⟩
 . rcases d with d|d
   . obtain⟨E,m,H,n⟩:=heads (T:=.type "int") UG f d
     exact kat_kind (s:={ s with heap:=g }) m (by omega) n (by decide) q
   . obtain⟨E,m,H,n⟩:=heads (T:=.type "str") UE f d
     exact kat_kind (s:={ s with heap:=g }) m (by omega) n (by decide) q
 . have W:=f.len
   obtain⟨x,ix,e1,⟨o1,u,Q,Y,v⟩,t⟩:=f.at (i:=i) (by omega)
   obtain⟨y,X,D,⟨o2,b1,b2,Z,b3⟩,b4⟩:=f.at (i:=j) (by omega)
   unfold kas_ask;rw[e1,D];have M:rows.getD i []∈rows:=by rw[List.getD_eq_getElem?_getD,List.getElem?_eq_getElem (by omega)];exact List.getElem_mem _
   have N:rows.getD j []∈rows:=by rw[List.getD_eq_getElem?_getD,List.getElem?_eq_getElem (by omega)];exact List.getElem_mem _
   have len:∀{k:TK} {l:ak},ItemsAre (optKind P w) k l->k.length=l.length:=λz=>by induction z<;>simp_all
   refine kat_lt (s:={ s with heap:=g }) u v b1 b3 (GF rfl t b4 (dw.mp (dw.mp c _ M) _ N) (by rw[len t,len b4,Array.length_toList,Array.length_toList]) q)
end
section
variable {K:ag}{H:Hp}
theorem Kb{e:V}:∀{xs:LR} {ws:LV} {i:Nat},aa K H xs ws->i<xs.length->Rep K H (xs.getD i d) (ws.getD i e)
 |x::xs,ws,i,h,hi=>by
  obtain⟨v,r,rfl,a,b⟩:=(by simpa only[aa]using h:∃v r,ws=v::r/\Rep K H x v/\aa K H xs r)
  cases i with
  |zero=>simpa using a
  |succ i=>simpa using Kb (d:=d) (e:=e) (i:=i) b (by simpa using hi)
 | [],_,_,_,hi=>aS hi (tf _)
theorem J6{e:Value}:∀{b:LV} {vs:ak} {i:Nat},Vals b vs->i<b.length->RelV (b.getD i d) (vs.getD i e)
 |_,_,0,.cons a _,_=>by simpa using a
 |_,_,i+1,.cons _ r,hi=>by simpa using J6 (d:=d) (e:=e) (i:=i) r (by simpa using hi)
theorem Ka{e:V}(h:aa K H xs ws):∀{q:List Nat},(∀i∈q,i<xs.length)->aa K H (q.map λi=>xs.getD i d) (q.map λi=>ws.getD i e)
 | [],_=>aa.nil
 |i::q,hq=>aa.cons (Kb h (hq i (.head _))) (Ka h λj a=>hq j (.tail _ a))
theorem J5{e:Value}{vs:ak}(h:Vals ws vs):∀{q:List Nat},(∀i∈q,i<ws.length)->Vals (q.map λi=>ws.getD i d) (q.map λi=>vs.getD i e)
 | [],_=>.nil
 |i::q,hq=>.cons (J6 h (hq i (.head _))) (J5 h λj a=>hq j (.tail _ a))
theorem Uh{xs:List α}{p:Array Nat}(a:Ar xs.length p):(p.toList.map λi=>xs.getD i d).Perm xs:=by
 have e:(List.range xs.length).map (λi=>xs.getD i d)=xs:=by
  apply List.ext_getElem
  . simp
  . intro i c b;simp[b]
 exact(a.pm.map _).trans (List.Perm.of_eq e)
theorem SA{b:List TK}{p:Array Nat}(a:Ar b.length p)(s:SU (zf b) p b.length):(p.toList.map λi=>b.getD i [])=ju b:=by
 refine Vq (Uh a) (List.pairwise_iff_getElem.mpr λi j hi f d=>?_)
 have c:j<p.size:=by simpa using f
 have:=s i j (kh d) (by rw[<-a.sz];exact c)
 unfold ky zf at this;unfold ir;rw[jd];simp only[List.getElem_map,Array.getElem_toList];have e1:p.getD i 0=p[i]'(by omega):=by simp[Array.getD,show i<p.size by omega]
 have e:p.getD j 0=p[j]:=by simp[Array.getD,c]
 rw[e1,e]at this;exact this
theorem KH{s:Shared}(I:Inv X pins σ H s):∀{xs:LR} {rows:List TK} {ws:LV} {vs:ak},rowsOf xs=some rows->aa X.K H xs ws->Vals ws vs->bW X.prog X.w s.heap rows vs
 | [],rows,ws,vs,e,r,v=>by
  cases e;simp only[aa]at r;subst r;cases v;exact trivial
 |x::xs,rows,ws,vs,e,r,v=>by
  unfold rowsOf at e;split at e
  . rename_i k ks e1 d
    cases e;obtain⟨y,t,rfl,c,f⟩:=(by simpa only[aa]using r:∃v r,ws=v::r/\Rep X.K H x v/\aa X.K H xs r)
    cases v with
    |cons a b=>
    refine⟨?_,KH I d f b⟩;cases x<;>first|(cases e1;done)|skip
    rename_i rs;simp only[Rep]at c;obtain⟨p,us,rfl,g,h⟩:=c;obtain⟨ab,j,i,l⟩:=I.tuple (bL.of g);exact⟨p,ab.toArray,a,i,by simpa using A8 e1 h j⟩
  . cases e
end
def qp(xs:LR)(M:RM)(Q:ao):Prop:=match rowsOf xs with
 |some rows=>rows.length<64/\jT rows=true/\Q (.ls ((ju rows).map bu)) M
 |none=>False
noncomputable def vq:LR->RM->ao->Prop:=λrs M Q=>match rs with
 | [.ref a]=>match M a with
  |some (.lst xs)=>qp xs M Q
  |_=>Ms rs M Q
 | [.ls xs]=>qp xs M Q
 |_=>False
section
variable {X:Cx}
theorem Lg{s:Shared}{l:Addr}{vs:ak}(I:Inv X pins σ H s)(hv:View X.K H M)(hl:s.heap.IsList l vs.toArray)(hw:Vals ws vs)(hr:aa X.K H xs ws)(hq:qp xs M Q)(hk:iW X.K H Q Q0):
 wpAny (model X.prog X.w) X.A (call (.builtin "sorted") [.ref l]) (EP X pins σ Q0) X.xe s:=by
 unfold qp at hq;split at hq
 . rename_i rows er
   obtain⟨h64,av,hq⟩:=hq;have rr:=KH I er hr hw;have ln:=rr.len;have ex:=JO er;have l1:xs.length=rows.length:=by rw[ex,ba]
   have l2:ws.length=vs.length:=hw.length;refine SE (f:=zf rows) hl (by rw[<-ln];exact h64) (λh2 a g ha kp=>UB (s:={ s with heap:=g }) ha kp rr av h2) λB h' e p kp hB hget ar su=>?_
   rw[<-ln]at ar su;have hn:=none_of I hB;have inr:∀i∈p.toList,i<rows.length:=λi hi=>jL.mp (ar.pm.mem_iff.mp hi)
   have zz:rows.length<=sizeLine:=bQ (kh h64) (by decide)
   have fin:(p.toList.map λi=>xs.getD i (bu []))=(ju rows).map bu:=by
    rw[<-SA ar su,bR,ex];refine nv λi hi=>?_
    have:=inr i hi;simp[this]
   refine frozen ⟨.ref B,upd H B (.lst (p.toList.map λi=>ws.getD i V.aq)),N5 (t':=s.toks) I kp hB ⟨by rw[ba,Array.length_toList,ar.sz];exact zz,n8 vs p,e,J5 hw λi hi=>?_,hget⟩,rfl,H,B,_,rfl,hn,rfl,λo=>?_⟩
   . rw[l2,<-ln];exact inr i hi
   . rw[<-fin]at hq
     exact hk _ M _ _ hq (Ext.new hn) (hv.new hn) (js hn (Ka hr λi hi=>by rw[l1];exact inr i hi))
 . exact hq.elim
theorem Zb(z:X.calm=true):cM X (.builtin "sorted") (eF X.K vq):=by
 intro c s J H E us t I m h;obtain⟨rs,M,Q,d,e,b,k⟩:=h;unfold vq at b;split at b
 . rename_i a
   split at b
   . rename_i F w
     simp only[aa,Rep]at d;obtain⟨v,r,rfl,rfl,rfl⟩:=d;obtain⟨u,rfl,ru⟩:=vals1 m;cases ru;obtain⟨L,x,D,rfl,j⟩:=e a _ w;obtain⟨ab,l,⟨o,n,f,g,y,i⟩,C⟩:=I.list (.inl (.inl x));exact Lg I e ⟨o,f,g,n,i⟩ l j b k
   . exact V0 z c s J H E us t I m ⟨_,M,Q,d,e,b,k⟩
 . rename_i F
   simp only[aa,Rep]at d;obtain⟨v,r,rfl,⟨a,D,rfl,A,j⟩,rfl⟩:=d;obtain⟨u,rfl,ru⟩:=vals1 m;cases ru;obtain⟨ab,l,⟨o,n,f,g,y,i⟩,C⟩:=I.list A.sq;exact Lg I e ⟨o,f,g,n,i⟩ l j b k
 . exact b.elim
end
section
variable {X:Cx}
def HF:LR->RM->ao->Prop:=λrs M Q=>∃a:List Bool,rs= [.ls (a.map RV.bl)]/\Q (.bl (a.any id)) M
theorem range_any(bs:List Bool):(List.range bs.length).any (λi=>bs.getD i true)=bs.any id:=by
 induction bs with
 |nil=>rfl
 |cons b bs ih=>
  rw[cQ,List.range_succ_eq_map,kf,List.any_map,kf];have:((λi=>(b::bs).getD i true) ∘ Nat.succ)=λi=>bs.getD i true:=by funext i;rfl
  rw[this,ih];rfl
theorem V5(O:X.calm=true):cM X (.builtin "any") (eF X.K HF):=by
 intro d s t H xs us Q0 I Y h;obtain⟨rs,M,Q,Z,W,⟨f,rfl,U⟩,R⟩:=h;obtain⟨v,rfl,r1⟩:=Z.one;simp only[Rep]at r1;obtain⟨a,vs,rfl,J,L⟩:=r1;have:=Ba L;subst this;obtain⟨u,rfl,ru⟩:=Y.one;cases ru;obtain⟨ab,rv,p,hz⟩:=I.list J.sq;have:=Bc rv;subst this;have m:a<s.heap.objs.size:=by obtain⟨o,n,e,_⟩:=p;exact bA e
 refine call_any_walk (wpAny_pyIter_list p.isList ?_);have hd:X.A.in1.handled=none:=I.ok.hd O;refine⟨s.heap.objs.size,_,_,_,_,_,λi=>f.getD i true,rfl,Walks.list hd s.heap.objs.size a (cE m) (f.map Value.bool).toArray,⟨⟨_,dv _ rfl,rfl,rfl⟩,p.isList.push _⟩,?_,?_⟩
 . intro i v s' y E' N j
   have c:(f.map Value.bool)[i]? =some v:=by simpa using N
   rw[fJ]at c;cases e:f[i]? with
   |none=>rw[e]at c;cases c
   |some b=>
    rw[e]at c;have k:f.getD i true=b:=by rw[List.getD_eq_getElem?_getD,e];rfl
    cases c;have g:y (f.getD i true) s':=j;rw[k]at g;exact jJ g
 . intro h' r l
   have w:Inv X d t H { s with heap:=s.heap.push { cls:=.type "list_iterator",data:=.fields #[.ref a,.int 0 0] } }:=I.kept (t':=s.toks) λb o e=>bz _ e
   obtain⟨A,C,f2,D,E,F⟩:=I.fZ (aN _) (I.av.fresh (aN _));have x:Inv X d t H { s with heap:=h',toks:=r }:=by
    have z:=w.turned (h':=h') (t':=r) (it:=s.heap.objs.size) (λb o k e=>l b o (by simpa using k) e) A C D E F
    exact z
   refine⟨.bl (f.any id),H,x,?_,R _ M _ H U (.refl H) W (by simp only[Rep])⟩
   show _=_;rw[<-range_any];simp
theorem YX:bootBuiltins "any" =some (.builtin "any"):=by decide+kernel
def Cp:LR->RM->ao->Prop:=λrs M Q=>match rs with
 | [.bl b]=>Q (.int (if b then 1 else 0)) M
 |_=>False
theorem Ri:cM X (.type "int") (eF X.K Cp):=by
 intro c s l H k us j I g h;obtain⟨rs,M,Q,i,f,a,d⟩:=h;unfold Cp at a;split at a
 . rename_i b
   obtain⟨v,rfl,r1⟩:=i.one;simp only[Rep]at r1;subst r1;obtain⟨u,rfl,ru⟩:=g.one;cases ru;exact call_int_bool ⟨.int _,H,I.kept λb o e=>e,⟨_,rfl⟩,d _ M _ H a (.refl H) f (by simp only[Rep])⟩
 . exact a.elim
variable {tg:Expr}{pos:Pos}
end
section
variable {prog:Program}{w:World}{A:Around}{s:Shared}{E:aQ}
structure yU(v:Str)(params:Arguments)(scope:Scope):Prop where
 bd:∀name qual body pm cd ct u,bindArgs (kla_fn name qual params body scope [] pm cd ct) ⟨[u],[]⟩=pure [(v,u)]
 loc:scope.names.lookup v=some .local
 cell:∀y∈scope.names,y.2≠.cell
 co:scope.isCoroutine=false
 gen:scope.isGenerator=false
 kind:scope.kind= .function
 iY:(v==("__debug__":Str))=false
theorem dE.kp{h h':Heap}{x a C:Addr}(O:dE h x a C mA)(k:∀b o,h.get? b=some o->h'.get? b=some o):dE h' x a C mA:=
 let⟨o,es,ep,ho,r⟩:=O.ns;⟨k _ _ O.obj,⟨o,es,ep,k _ _ ho,r⟩,O.ne⟩
theorem WL{K:Frag}{f c' x C dx:Addr}{name qual v fld:Str}{p1 p2:Pos}{Q:aQ}
 (hroom:A.depth<recursionLimit) (iq:K.In s.heap) (lim:s.heap.NoLimit) (L:yU v params scope)
 (ho:s.heap.get? f=some (kla_obj name qual params (.Attribute (.Name v p1) fld p2) scope [] pm c' ctv)) (hcd:s.heap.CodeRec (.ref c') qual)
 (O:dE s.heap x dx C mA) (c:cI K C) (n:aW K C fld) (hu:mA fld=some u) (hh:handedIn u=true)
 (h:∀h' tk,(∀b o,s.heap.get? b=some o->h'.get? b=some o)->Q u { s with heap:=h',toks:=tk }):
 wpAny (model prog w) A (call (.ref f) [.ref x]) Q E s:=by
 refine wpAny_call (kla_callFunE hroom ho rfl L.co L.gen rfl hcd ?_);rw[L.bd];refine aI (wpAny_newFunctionEnv L.cell (λy hy=>by cases jc.mp hy;exact L.loc) (λh₁ hns hsb=>⟨lim.fresh _ hsb,kla_codeExpr ?_⟩) L.kind)
 have kp:∀b o,s.heap.get? b=some o->h₁.get? b=some o:=λb o e=>hsb.extBut b o (cE (bA e)) (bz _ e)
 refine LQ rfl (wpAny_Name (wpAny_loadName_local (v:=Value.ref x) L.kind (show _=_ from L.loc) hns (by simp) ?_) L.iY)
 refine get_map (K:=K) (iq.keeps kp) (dE.kp O kp) (c.get fld) c.hd n hu hh ?_;exact h _ _ kp
end
section
variable {X:Cx}{pins:aH}{σ:L2.St}{H:Hp}{s:Shared}{h':Heap}
theorem ZJ{l f c' C:Addr}{name M v w:Str}{p1 p2:Pos}{as:List Addr}{ks:List Int}(I:Inv X pins σ H s)
 (hl:s.heap.IsList l (as.map Value.ref).toArray) (Z:ks.length=as.length) (h64:as.length<64) (hi:∀(i:Nat) a k,as[i]? =some a->ks[i]? =some k->∃dx fs,H a=some (.ins C dx fs)/\fs.lookup w=some (.int k))
 (R:X.A.depth<recursionLimit) (L:yU v params scope) (ho:s.heap.get? f=some (kla_obj name M params (.Attribute (.Name v p1) w p2) scope [] pm c' ctv)) (hcd:s.heap.CodeRec (.ref c') M)
 (c:cI X.K C) (n:aW X.K C w)
 (h:∀D h' tk y j,(∀m,s.heap.Ns X.env.locals m->h'.Ns X.env.locals m)->(∀b o,b≠X.env.locals->s.heap.get? b=some o->h'.get? b=some o)->s.heap.get? D=none->D≠X.env.locals->h'.get? D=some (seqObj "list" y j)->KskOut false ks (as.map Value.ref) y.toList->Q (.ref D) { s with heap:=h',toks:=tk }):
 wpAny (model X.prog X.w) X.A (call (.builtin "sorted") [.ref l] [(Str.ofString "key",.ref f)]) Q E s:=by
 obtain⟨m,F⟩:=I.fr;have nL:∀b,(∃m',s.heap.Ns X.env.locals m')->b=X.env.locals->∀o,s.heap.get? b=some o->∃N j,o.data= .dict N j:=λb ⟨m',o',N,j,q,d,_⟩ e o z=>by
  rw[e,q]at z;cases z;exact⟨N,j,d⟩
 have fL:f≠X.env.locals:=λe=>by obtain⟨_,_,d⟩:=nL f ⟨m,F.ns⟩ e _ ho;cases d
 have ho':=ho;obtain⟨c1,oc,vc,tc,ec,gc,dc,qc⟩:=hcd;cases ec;have cL:c'≠X.env.locals:=λe=>by obtain⟨_,_,d⟩:=nL c' ⟨m,F.ns⟩ e _ gc;rw[dc]at d;cases d
 have aL:∀b u,H b=some u->b≠X.env.locals:=λb u e z=>by rw[z,I.free]at e;cases e
 refine ksk_sorted (h₀:=X.base) (news:=rest X.base s.heap X.env.locals s.heap.objs.size) (kz:=ks) (f:=.ref f) F (λp A=>Ve p (eR.mp A).1) hl (by rw[ba];exact Z) (by rw[ba];exact h64) (ksk_s1 _ _) (λx=>ksk_l1 _ _) (λx=>ksk_t1 f x) ?turn ?fin
 case turn=>
  intro i v' k hv hk W tk own J U;rw[fJ]at hv;cases ea:as[i]? with
  |none=>rw[ea]at hv;cases hv
  |some a=>
   rw[ea]at hv;cases hv;obtain⟨dx,fs,e1,e2⟩:=hi i a k ea hk;have Y:∀b o,b≠X.env.locals->s.heap.get? b=some o->W.get? b=some o:=λb o hb e=>Jr (d:=s.heap.objs.size) I.bk J (λp A=>U p (zL _ A)) b o hb (cE (bA e)) e
   obtain⟨mA,O,r,_,_,hdx⟩:=yr I.av e1;obtain⟨u,hu,ru⟩:=bK.some_of (v:=V.int k) (o:=mA w) (by rw[<-e2];exact r w)
   obtain⟨t,rfl⟩:=(show ∃t,u=Value.int k t from ru)
   obtain⟨od,N,j,g1,g2⟩:=O.ns;have O1:dE W a dx C mA:=⟨Y _ _ (aL a _ e1) O.obj,⟨od,N,j,Y _ _ (aL dx _ hdx) g1,g2⟩,O.ne⟩;refine WL (K:=X.K) (s:={ s with heap:=W,toks:=tk }) R (I.ok.mod.iq.keeps J.keep) (I.ok.mod.nolimit.keeps J.keep) L (Y _ _ fL ho') ⟨c',oc,vc,tc,rfl,Y _ _ cL gc,dc,qc⟩ O1 c n hu rfl λh2 tk2 k2=>?_
   exact KskEnd.intro ⟨(by obtain⟨o,N,j,g,r⟩:=J.ns;exact⟨o,N,j,k2 _ _ g,r⟩),λb o e=>k2 b o (J.keep b o e),J.above⟩ (λp A=>⟨k2 _ _ (U p A).1,(U p A).2⟩) λp A=>A
 case fin=>
  intro D W tk y j J U lt ko;have Y:∀b o,b≠X.env.locals->s.heap.get? b=some o->W.get? b=some o:=λb o hb e=>Jr (d:=s.heap.objs.size) I.bk J (λp A=>U p (gv _ A)) b o hb (cE (bA e)) e
  have hD:=U (D,seqObj "list" y j) iR;refine h D W tk y j (λm' hm'=>by rw[hm'.eq_nsMap,<-F.ns.eq_nsMap];exact J.ns) Y ?_ hD.2.1 hD.1 ko
  cases q:s.heap.get? D with
  |none=>rfl
  |some o=>exact aS (lt _ (K8 hD.2.1 hD.2.2 q (cE (bA q)))) (ke _)
end
theorem Bx{P:Program}{a:Addr}{x:Option Addr}(e:fS a pos x h):aD P w H h a (.ext (fS a pos x)):=⟨e,⟨_,e⟩,λ_ _ e k=>k _ e⟩
section
variable {X:Cx}{pins:aH}{σ:L2.St}{H:Hp}{s:Shared}{P c c':Addr}{pos:Pos}{h':Heap}{u:HO}{oc:Obj}
theorem Inv.qH(I:Inv X pins σ H s)(h:H P=some (.ext (fS P pos none)))(k:∀b o,b≠P->s.heap.get? b=some o->h'.get? b=some o)(j:s.heap.objs.size<=c')(f:h'.get? c'=some oc)(m:fS P pos (some c') h'):
 Inv X pins σ (upd (upd H P (.ext (fS P pos (some c')))) c' (.aZ oc (.own c'))) { s with heap:=h',toks:=t' }:=by
 have l:H c'=none:=I.av.fresh j;have cP:c'≠P:=cN (d9 h l);have i:∀b,H b=none->b≠P:=λb n z=>by rw[z,h]at n;cases n
 have t:∀b o,s.heap.get? b=some o->b≠c':=λb o e=>cE (fq (bA e) j)
 have g:∀b u,H b=some u->b≠P->upd (upd H P (.ext (fS P pos (some c')))) c' (.aZ oc (.own c')) b=some u:=λb u e z=>by rw[aE (d9 e l),aE z];exact e
 have a:∀b u,H b=some u->u≠.ext (fS P pos none)->b≠P:=λb u e z y=>by subst y;rw[h]at e;exact z (dz e).symm
 refine I.un ⟨λb o e n _ _=>k b o (i b n) e,λb o e n _ _=>⟨o.slots,k b o (i b n) e⟩,λb o e n _=>(aE (t b o e)).trans ((aE (i b n)).trans n),λb o e _=>?_,λb w e=>g b _ e (a b _ e nofun),λb o u e=>g b _ e (a b _ e nofun),λb x e=>⟨#[],(g b _ e (a b _ e nofun)).trans (by simp)⟩⟩ λb u e=>?_
 . by_cases z:b=P
   . exact⟨_,z ▸ m⟩
   . exact⟨o,k b o z e⟩
 . by_cases z:b=c'
   . subst z;rw[c0]at e;cases e;exact⟨f,_,f⟩
   . rw[aE z]at e
     by_cases y:b=P
     . subst y;rw[c0]at e;cases e;exact Bx m
     . rw[aE y]at e
       refine(I.av b u e).ej (λd v r q=>k d v ?_ q) (λd q=>g d _ q (a d _ q nofun)) λd w q=>g d _ q (a d _ q nofun)
       rcases r with rfl|q
       . exact y
       . exact a d _ q nofun
theorem UR{q:Str}{body:Expr}{Q:aQ}(I:Inv X pins σ H s)(hP:H P=some ho)(r:cU X.K H (.tb P pos q) ho)
 (hcode:X.env.code= .ref c) (C:CodeHd X.base c P) (hb:X.base.BuiltinsAt X.mg P) (hgP:mainGlobals≠P) (hdef:defaultsOf params X.env=([],[])) (hcl:closureFor scope X.env=pure []) (hq:X.env.qual++("<lambda>":Str)=q)
 (h:∀f c' ctv h' tk H',Inv X pins σ H' { s with heap:=h',toks:=tk }->Ext H H'->(∀b u,H b=some u->b≠P->H' b=some u)->(∃ho',H' P=some ho'/\cU X.K H' (.tb P pos q) ho')->
  h'.get? f=some (kla_obj "<lambda>" q params body scope [] ((X.mg "__name__").getD .none) c' ctv)->h'.CodeRec (.ref c') q->Q (.ref f) { s with heap:=h',toks:=tk }):
 wpAny M A (eval (.Lambda params body scope pos) X.env) Q E s:=by
 subst hq;have hg:s.heap.Ns mainGlobals X.mg:=by obtain⟨o,es,ep,e,z⟩:=I.ok.mod.glob;exact⟨o,es,ep,I.bk _ _ e,z⟩
 have hb':s.heap.BuiltinsAt X.mg P:=by obtain⟨bm,o,b1,b2,b3,b4,b5,b6⟩:=hb;exact⟨bm,o,b1,b2,b3,b4,I.bk _ _ b5,b6⟩
 refine kla_eval hdef ?_;rcases r with rfl|⟨c',oc,vs,t,rfl,hc',hd,hv⟩
 . have ht:fS P pos none s.heap:=(I.av P _ hP).1
   refine kla_makeFunction (mg:=X.mg) (clos:=[]) (ps:=#[]) hcl I.ok.glob hg hcode (C.keeps I.bk) ht (by first|trivial|decide|simp[TriplesOk]) rfl hgP hb' λc' ctv h1 tk hx hge hlt hrec htb=>?_
   obtain⟨c2,oc,vs,t,e2,hoc,hd,hv⟩:=hrec;cases e2;have I':=R.Inv.qH (t':=tk) (h':=h1.push (kla_obj "<lambda>" (X.env.qual++("<lambda>":Str)) params body scope [] ((X.mg "__name__").getD .none) c' ctv)) (c':=c') (oc:=oc) I hP (λb o hb e=>bz _ (hx b o hb e)) hge (bz _ hoc) (bz _ htb)
   have hn:H c'=none:=I.av.fresh hge;have cP:c'≠P:=cN (d9 hP hn);have kp:∀b u,H b=some u->b≠P->upd (upd H P (.ext (fS P pos (some c')))) c' (.aZ oc (.own c')) b=some u:=λb u e z=>by rw[aE (d9 e hn),aE z];exact e
   have np:∀b u,H b=some u->u≠.ext (fS P pos none)->b≠P:=λb u e z y=>by subst y;rw[hP]at e;exact z (dz e).symm
   refine h _ c' ctv _ tk _ I' ⟨λb xs e=>kp b _ e (np b _ e nofun),λb o u e=>kp b _ e (np b _ e nofun)⟩ kp ⟨_,by rw[aE (cN cP)];exact c0,.inr ⟨c',oc,vs,t,rfl,c0,hd,hv⟩⟩ (dv _ rfl) ⟨c',oc,vs,t,rfl,bz _ hoc,hd,hv⟩
 . have ht:fS P pos (some c') s.heap:=(I.av P _ hP).1
   have hoc:s.heap.get? c'=some oc:=(I.av c' _ hc').1;refine kla_makeFunctionHit (mg:=X.mg) (clos:=[]) (ps:=#[rawInt pos.line,rawInt pos.col,.ref c']) (cv:=.ref c') hcl I.ok.glob hg hcode (C.keeps I.bk) ht (by first|trivial|decide|simp[TriplesOk]) (by simp[codeAmong,rawInt]) hb' λctv h1 tk hk hsz=>?_
   exact h _ c' ctv _ tk H (I.kept (t':=tk) λb o e=>bz _ (hk b o e)) (.refl H) (λb u e _=>e) ⟨_,hP,.inr ⟨c',oc,vs,t,rfl,hc',hd,hv⟩⟩ (dv _ rfl) ⟨c',oc,vs,t,rfl,bz _ (hk _ _ hoc),hd,hv⟩
end
theorem Lm{K:Frag}:∀{as:List Addr} {vs:LV},aa K H (as.map RV.ref) vs->vs=as.map V.ref
 | [],_,h=>by simpa only[qN,aa]using h
 |a::as,vs,h=>by
  simp only[bU,aa,Rep]at h;obtain⟨v,r,rfl,rfl,b⟩:=h;rw[Lm b];rfl
theorem KL:∀{as:List Addr} {us:ak},Vals (as.map V.ref) us->us=as.map Value.ref
 | [],_,h=>by rw[qN]at h;cases h;rfl
 |a::as,_,h=>by
  rw[bU]at h;cases h with
  |cons r t=>rw[KL t];cases(show _=Value.ref a from r);rfl
theorem KU{K:Frag}:∀{as:List Addr},aa K H (as.map RV.ref) (as.map V.ref)
 | []=>aa.nil
 |a::as=>aa.cons (by simp only[Rep]) KU
theorem JY:∀{as:List Addr},Vals (as.map V.ref) (as.map Value.ref)
 | []=>.nil
 |a::as=>.cons rfl JY
def adr:Value->Addr
 | .ref a=>a
 |_=>0
theorem Yj{c:List (Int×Addr)}(h:KskOut false (c.map Prod.fst) ((c.map Prod.snd).map Value.ref) out):∃g:List (Int×Addr),g.Perm c/\g.Pairwise (λa b=>a.1<=b.1)/\out=(g.map Prod.snd).map Value.ref:=by
 obtain⟨d,f,rfl,j⟩:=h;have e:(c.map Prod.fst).zip ((c.map Prod.snd).map Value.ref)=c.map λz=>(z.1,Value.ref z.2):=by rw[bR,List.zip_map'];rfl
 rw[e]at f;have i:∀p∈d,p=(p.1,Value.ref (adr p.2)):=λp h=>by
  obtain⟨z,_,rfl⟩:=aP.mp (f.mem_iff.mp h);rfl
 have k:d=(d.map λp=>(p.1,adr p.2)).map λz=>(z.1,Value.ref z.2):=by
  rw[bR];exact(List.map_id d).symm.trans (nv λp h=>i p h)
 refine⟨d.map λp=>(p.1,adr p.2),?_,?_,?_⟩
 . have:=f.map λp=>(p.1,adr p.2)
   rwa [bR,show((λp:Int×Value=>(p.1,adr p.2)) ∘ λz:Int×Addr=>(z.1,Value.ref z.2))=id from rfl,List.map_id]at this
 . rw[List.pairwise_map];exact j
 . conv=>lhs;rw[k]
   rw[bR,bR,bR,bR];rfl
section
variable {X:Cx}{pins:aH}{σ:L2.St}{H:Hp}{s:Shared}{h':Heap}{D:Addr}{o:HO}
theorem Inv.t6(I:Inv X pins σ H s)(k:∀b o,b≠X.env.locals->s.heap.get? b=some o->h'.get? b=some o)(ns:∀m,s.heap.Ns X.env.locals m->h'.Ns X.env.locals m)(i:s.heap.get? D=none)(h:aD X.prog X.w (upd H D o) h' D o):Inv X pins σ (upd H D o) { s with heap:=h',toks:=t' }:=by
 have g:=none_of I i;have j:∀b u,H b=some u->b≠X.env.locals:=λb u e z=>by rw[z,I.free]at e;cases e
 have d:∀b u,H b=some u->upd H D o b=some u:=λb u e=>(aE (d9 e g)).trans e
 refine I.step (g':=s.gens) (d':=s.drawn) (ch:=[]) (λ_ z=>nomatch z) (λb o f _ _ e _=>k b o f e) (λb o f _ _ e _=>⟨o.slots,k b o f e⟩) (λb q _ e n=>(aE λz=>by rw[z,i]at e;cases e).trans n) (λb o _ e=>?_) (λb _ e=>d b _ e) (λb _ _ e=>d b _ e) (λb t e=>⟨#[],(d b _ e).trans (by simp)⟩) ns (λb u e=>?_) I.bare
 . by_cases a:b=X.env.locals
   . obtain⟨m,g,_⟩:=I.loc
     obtain⟨r,_,_,q,_⟩:=ns m g;exact⟨r,a ▸ q⟩
   . exact⟨o,k b o a e⟩
 . by_cases a:b=D
   . subst a;rw[c0]at e;cases e;exact h
   . rw[aE a]at e
     refine(I.av b u e).ej (λc v l q=>k c v ?_ q) (λc q=>d c _ q) λc w q=>d c _ q
     rcases l with z|z
     . rw[z];exact j b u e
     . exact j c _ z
end
noncomputable def Ao (C:Addr)(d:Str)(P:Addr)(lp:Pos)(q:Str)(Q:ao):ao:=λx M=>∃c:List (Int×Addr),
 (x= .ls ((c.map Prod.snd).map RV.ref)∨∃a,x= .ref a/\M a=some (.lst ((c.map Prod.snd).map RV.ref)))/\(∀z∈c,∃f,M z.2=some (.ins C f)/\f.lookup d=some (.int z.1))/\c.length<64/\M P=some (.tb P lp q)/\
 ∀e:List (Int×Addr),e.Perm c->e.Pairwise (λa b=>a.1<=b.1)->Q (.ls ((e.map Prod.snd).map RV.ref)) M
def Ox(C:Addr)(fld:Str)(P:Addr)(lp:Pos)(q:Str)(te:au):au:=λσ M Q=>te σ M (Ao C fld P lp q Q)
section
variable {X:Cx}{e:Expr}{te:au}{p p1 p2 kp lp pos:Pos}{v fld q:Str}{params:Arguments}{scope:Scope}{C P cc:Addr}
theorem XB(he:ai X e te)(hm:X.mg "sorted" =none)(hg:Gl X "sorted")(c:cI X.K C)(n:aW X.K C fld)(L:yU v params scope)(m:X.A.depth<recursionLimit)
 (g:X.env.code= .ref cc) (CH:CodeHd X.base cc P) (hb:X.base.BuiltinsAt X.mg P) (hgP:mainGlobals≠P) (E:defaultsOf params X.env=([],[])) (hcl:closureFor scope X.env=pure []) (hq:X.env.qual++("<lambda>":Str)=q)
 (s1:starEach [e] X.env=(false,eval e X.env)::starEach [] X.env):ai X (.Call (.Name "sorted" p) [e] [⟨some "key",.Lambda params (.Attribute (.Name v p1) fld p2) scope lp,kp⟩] pos) (Ox C fld P lp q te):=by
 intro N s σ0 H Q0 I h;obtain⟨σ,M,Q,hs,hv,ht,hk⟩:=h;have bt:bootBuiltins "sorted" =some (.builtin "sorted"):=by decide+kernel
 refine wpAny_Call_Name_kw (m4 I hg hm bt ?_);have Y:backTo pos (starEach [e] X.env)=(false,eval e X.env)::backTo pos (starEach [] X.env):=by rw[s1];rfl
 refine PyProof.Rows.callWith_kw ?_ Y (by rw[Y];rfl)
 rw[Y];refine Calls.spliced_cons (az (he N s σ0 H (λv H1=>∃x M1,Ao C fld P lp q Q x M1/\Ext H H1/\View X.K H1 M1/\Rep X.K H1 x v) I ⟨σ,M,_,hs,hv,ht,λrv M' v H' q e w r=>⟨rv,M',q,e,w,r⟩⟩) λu s1 ⟨v1,H1,I1,r1,x,M1,⟨kx,hx,hi,h64,hP,hQ⟩,ex1,w1,rep⟩=>Calls.spliced_nil ?_)
 show wpAny _ _ (evalAll [do let v<-eval (.Lambda params (.Attribute (.Name v p1) fld p2) scope lp) X.env;standAt pos;pure v]) _ _ _
 obtain⟨ho,eP,rP⟩:=w1 P _ hP;refine wpAny_evalAll_cons (aj (UR I1 eP rP g CH hb hgP E hcl hq λf c' ctv h2 tk A O d t ⟨ho2,eP2,rP2⟩ hof hcd=>aj (wpAny_standAt (aI (wpAny_evalAll_nil ?_)))))
 have nP:∀b u,H1 b=some u->(∀φ,u≠.ext φ)->b≠P:=λb u e z y=>by
  subst y;rw[eP]at e;cases e;rcases rP with rfl|⟨_,_,_,_,rfl,_⟩<;>exact z _ rfl
 have w2:View X.K A M1:=λa o e=>by
  by_cases ha:a=P
  . subst ha;rw[hP]at e;cases e;exact⟨ho2,eP2,rP2⟩
  . obtain⟨j,e1,r'⟩:=w1 a o e
    exact⟨j,t a _ e1 ha,r'.ext d⟩
 have lst:∃l,u= .ref l/\h2.IsList l ((kx.map Prod.snd).map Value.ref).toArray:=by
  have fin:∀l vs,cx X.K A l vs->aa X.K A ((kx.map Prod.snd).map RV.ref) vs->v1= .ref l->∃l,u= .ref l/\h2.IsList l ((kx.map Prod.snd).map Value.ref).toArray:=λl vs hs J ev=>by
   subst ev;cases r1;obtain⟨ab,W,⟨o,n,R,g2,g3,g4⟩,hz⟩:=O.list hs;rw[Lm J]at W;rw[KL W]at g4;exact⟨l,rfl,o,R,g2,n,g4⟩
  rcases hx with rfl|⟨a,rfl,ea⟩
  . simp only[Rep]at rep
    obtain⟨a,vs,ev,hf,J⟩:=rep;exact fin a vs (hf.ext d).sq (aa.ext d _ _ J) ev
  . simp only[Rep]at rep
    obtain⟨j,e1,vs,rfl,J⟩:=w1 a _ ea;exact fin a vs (.inl (.inl (t a _ e1 (nP a _ e1 nofun)))) (aa.ext d _ _ J) rep
 obtain⟨l,rfl,hl⟩:=lst;show wpAny _ _ (call (.builtin "sorted") [.ref l] [(Str.ofString "key",.ref f)]) _ _ _;refine ZJ (as:=kx.map Prod.snd) (ks:=kx.map Prod.fst) O hl (by rw[ba,ba]) (by rw[ba];exact h64) (λi a k e1 Z=>?_) m L hof hcd c n λD h3 tk3 out ep ns kp3 hD nD F ko=>?_
 . rw[fJ]at e1 Z
   cases ez:kx[i]? with
   |none=>rw[ez]at e1;cases e1
   |some z=>
    rw[ez]at e1 Z;cases e1;cases Z;obtain⟨fs,m1,m2⟩:=hi z (jH ez);obtain⟨j,R,dx,gs,rfl,g2⟩:=w1 _ _ m1;obtain⟨u',l1,l2⟩:=xA g2 m2;simp only[Rep]at l2;exact⟨dx,gs,t _ _ R (nP _ _ R nofun),l2 ▸ l1⟩
 . obtain⟨ys,hp,W,eo⟩:=Yj ko
   have U:=none_of O hD;have eo':out=((ys.map Prod.snd).map Value.ref).toArray:=by rw[<-eo]
   subst eo';refine frozen ⟨.ref D,upd A D (.lst ((ys.map Prod.snd).map V.ref)),Inv.t6 (t':=tk3) O kp3 ns hD ⟨?_,_,ep,JY,F⟩,rfl,A,D,_,rfl,U,rfl,λo=>?_⟩
   . rw[ba,ba,hp.length_eq];exact bQ (kh h64) (by decide)
   . exact hk _ M1 _ _ (hQ ys hp W) (ex1.trans (d.trans (Ext.new U))) (w2.new U) (js U KU)
end
inductive T where
 |v (i:Nat)|i (n:Int)|s (x:Str)|b (x:Bool)|n
 |g (x:Str)|ty (x:String)
 |op (o:Operator) (a b:T)|cm (o:CmpOp) (a b:T)|ch (o p:CmpOp) (a b c:T)
 |an (a b:T)|or (a b:T)|no (a:T)|ie (t a b:T)
 |tu (a:T)|ll (a:T)|lm (a:T)|e0|ec (a r:T)
 |ix (a b:T)|sl (a l h:T)|p0|p1 (a:T)
 |fl (c:Nat) (f:Str) (a:T)
 |ca (f:Nat) (a:T)|me (f:Nat) (o a:T)|mk (c:Nat) (a:T)
 |bf (f:Str) (a:T)|bt (f:Str) (a:T)
 |ap (o a:T)
 |dg (d k:T)|dn (neg:Bool) (k d:T)|d1 (d k:T)|dk|dt
 |ic (neg:Bool) (a:T) (x:Str)
 |tx (x:Str) (a:T)|tg (x:Str) (a:T)|tn (x:Str) (a:T)
 |cv (i:Nat) (a:T)
 |cp (md tup:Bool) (nm:aB) (cap:List (Nat×Str)) (it t e:T)
 |sc (i:Nat) (md tup:Bool) (nm:aB) (cap:List (Nat×Str)) (it t e:T)
 |lr (a b:T)
 |iv (a:T)|im (a:T)|lv (md:Bool) (a:T)
 |pr (i j:Nat) (a:T)|af (c:Nat) (f:Str) (o a:T)|dd (d k:T)
 |is (a:T)|r1 (a:T)|r2 (a b:T)|st (a:T)
 |set (i:Nat) (a:T)|un (is:List Nat) (a:T)|sf (c:Nat) (f:Str) (o a:T)|dp (d k a:T)|sp (l i a:T)
 |re (a:T)|r0|aV (t a b:T)|fo (tup:Bool) (is:List Nat) (it b:T)|ex (a:T)|ra
 |se (a b:T)|en
 |sk (c:Nat) (f:Str) (a:T)
structure FD where
 kind:Nat
 cls:Nat
 name:Str
 ps:aB
 N:aB
 body:T
structure SI where
 gi:List (Str×Int)
 gt:List (Str×aB)
 tb:aB
 tt:List (Str×List (TK×Str))
 cl:aB
 fs:List (Nat×Str)
 bl:aB
 fd:List FD
 ln:aB:=[""]
 lp:Pos:=⟨0,0,0,0⟩
 lq:Str:=""
structure G where
 S:SI
 tb:Str->bT
 C:Nat->Addr
 fn:Nat->bV
 mN:Nat->bV
 ia:List (Addr×bV)
 lP:Addr
def jn:Operator->cu
 | .Add=>zq| .Sub=>Hf| .Mult=>Hr| .Mod=>Ht| .FloorDiv=>HE| .Pow=>Hi
 |_=>λ_ _ _ _=>False
noncomputable def eC:CmpOp->cu
 | .Lt=>Ov| .LtE=>Ou| .Gt=>Oq| .GtE=>Oo| .Eq=>HC| .NotEq=>Hq| .Is=>Ot| .IsNot=>Mv| .In=>zl false| .NotIn=>zl true
noncomputable def DL:String->RV->Option Bool:=λx=>if x= "int" then MU else if x= "bool" then is_bool else if x= "str" then MT else if x= "tuple" then Lc else if x= "list" then Lx elseλ_=>none
noncomputable def Co:LR->RM->ao->Prop:=λrs M Q=>match rs with
 | [.ref a,.ty "list"]=>match M a with|some (.lst _)=>Q (.bl true) M|_=>False
 | [x,.ty t]=>match DL t x with|some c=>Q (.bl c) M|none=>False
 |_=>False
noncomputable def B2:LR->RM->ao->Prop:=λrs M Q=>match rs with
 | [.ref a]=>match M a with
  |some (.lst xs)=>Q (.int xs.length) M
  |some (.dk kvs)=>Q (.int kvs.length) M
  |some (.dt kvs)=>Q (.int kvs.length) M
  |_=>False
 |rs=>zj rs M Q
noncomputable def fy (f:Str):LR->RM->ao->Prop:=
 if f= "len" then B2 else if f= "isinstance" then Co else if f= "all" then GC else if f= "max" then Nl else if f= "sorted" then vq else if f= "ord" then Hm else if f= "any" then HF elseλ_ _ _=>False
def wZ(f:Str):LR->RM->ao->Prop:=
 if f= "tuple" then Bw else if f= "list" then B1 else if f= "int" then Cp elseλ_ _ _=>False
noncomputable def rf (C:Addr)(f:Str)(Q:ao):ao:=λx M=>match x with
 | .ref a=>match M a with
  |some (.ins C' fs)=>C'=C/\match fs.lookup f with
   |some v=>Q v M
   |none=>False
  |_=>False
 |_=>False
def Di(C:Addr)(f:Str)(ta:au):au:=λσ M Q=>ta σ M (rf C f Q)
noncomputable def rj (C:Addr)(f:Str)(y:RV)(N:RM->Prop):ao:=λx M=>match x with
 | .ref a=>match M a with
  |some (.ins C' fs)=>C'=C/\fs.length<1000/\N (put M a (.ins C (jZ f y fs)))
  |_=>False
 |_=>False
def Dj(C:Addr)(f:Str)(b c:au):c9:=λD a M=>c a M λy M1=>b a M1 (rj C f y (D.nx a))
noncomputable def pq (C:Addr)(m:Str)(sp:bV)(t:bS)(σ:bw)(Q:ao):ao:=λx M=>match x with
 | .ref a=>match M a with
  |some (.ins C' fs)=>C'=C/\fs.lookup m=none/\t σ M λrs M2=>sp (.ref a::rs) M2 Q
  |_=>False
 |_=>False
def qI(C:Addr)(m:Str)(sp:bV)(ta:au)(t:bS):au:=λσ M Q=>ta σ M (pq C m sp t σ Q)
def gz:au:=λ_ _ _=>False
structure Sm where
 E:au:=λ_ _ _=>False
 T:dJ:=λ_ _ _=>False
 A:bS:=λ_ _ _=>False
 I:gj:=λ_ _ _=>False
 P:oJ:=λ_ _ _=>False
 S:c9:=λ_ _ _=>False
 L:List au:=[]
def ex(e:au):Sm:={ E:=e,T:=m8 e }
noncomputable def tr (g:G):T->Sm
 | .v i=>ex (qv i)
 | .i n=>ex (rC (.int n))
 | .s x=>ex (rC (.str x))
 | .b x=>ex (rC (.bl x))
 | .n=>ex (rC .aq)
 | .g x=>ex (match g.S.gi.lookup x with|some i=>rC (.int i)|none=>gz)
 | .ty x=>ex (rC (.ty x))
 | .op o a b=>ex (ot (jn o) (tr g a).E (tr g b).E)
 | .cm o a b=>ex (ot (eC o) (tr g a).E (tr g b).E)
 | .ch o p a b c=>ex (r8 (eC o) (eC p) (tr g a).E (tr g b).E (tr g c).E)
 | .an a b=>{ E:=yS (tr g a).E (tr g b).E,T:=zp (tr g a).T (tr g b).T }
 | .or a b=>{ E:=zi (tr g a).E (tr g b).E,T:=zE (tr g a).T (tr g b).T }
 | .no a=>{ E:=Nj (tr g a).E,T:=Hn (tr g a).T }
 | .ie t a b=>ex (zD (tr g t).T (tr g a).E (tr g b).E)
 | .tu a=>ex (He (tr g a).A)
 | .ll a=>ex (Hv (tr g a).A)
 | .lm a=>ex (Hu (tr g a).A)
 | .e0=>{ A:=j0 }
 | .ec a r=>{ A:=nX (tr g a).E (tr g r).A,L:=(tr g a).E::(tr g r).L }
 | .ix a b=>ex (ot dR (tr g a).E (tr g b).E)
 | .sl a l h=>ex (Oy (tr g a).E (tr g l).P (tr g h).P)
 | .p0=>{ P:=Ho }
 | .p1 a=>{ P:=Ni (tr g a).E }
 | .fl c f a=>ex (Di (g.C c) f (tr g a).E)
 | .ca f a=>ex (jY (g.fn f) (tr g a).A)
 | .me f o a=>ex (match g.S.fd[f]? with|some d=>qI (g.C d.cls) d.name (g.fn f) (tr g o).E (tr g a).A|none=>gz)
 | .mk f a=>ex (match g.S.fd[f]? with|some d=>sF (g.C d.cls) (g.mN f) (tr g a).A|none=>gz)
 | .bf f a=>ex (jY (fy f) (tr g a).A)
 | .bt f a=>ex (jY (wZ f) (tr g a).A)
 | .ap o a=>ex (zo (tr g o).E (tr g a).A)
 | .dg d k=>ex (Nu (tr g d).E (tr g k).E)
 | .dn neg k d=>ex (sM neg (tr g k).E (tr g d).E)
 | .d1 d k=>ex (Ml (tr g d).E (tr g k).E)
 | .dk=>ex NP
 | .dt=>ex Mw
 | .ic neg a x=>ex (match g.S.gt.lookup x with|some m=>sP neg m (tr g a).E|none=>gz)
 | .tx x a=>ex (zh (g.tb x) (tr g a).E)
 | .tg x a=>ex (match g.S.tt.lookup x with|some l=>yA l (tr g a).E|none=>gz)
 | .tn x a=>ex (A4 (g.tb x) (tr g a).E)
 | .cv i a=>ex (Mx g.ia (qv i) (tr g a).A)
 | .cp md tup nm cap it t e=>ex (rZ (fv tup nm.length) md (tr g it).I (cap.map Prod.fst) (tr g t).T (tr g e).E)
 | .sc i md tup nm cap it t e=>{ S:=vW i (rZ (fv tup nm.length) md (tr g it).I (cap.map Prod.fst) (tr g t).T (tr g e).E) }
 | .lr a b=>ex (Mu (tr g a).E (tr g b).E)
 | .iv a=>{ I:=HB false (tr g a).E }
 | .im a=>{ I:=HA (tr g a).E }
 | .lv md a=>ex (Ow md (tr g a).E)
 | .pr i j a=>{ S:=Hl i j (tr g a).A }
 | .af c f o a=>{ S:=OF (g.C c) f (tr g o).E (tr g a).E }
 | .dd d k=>{ S:=Mj (tr g d).E (tr g k).E }
 | .is a=>{ I:=Hy (tr g a).E }
 | .r1 a=>{ I:=Hz (tr g a).E }
 | .r2 a b=>{ I:=NK (tr g a).E (tr g b).E }
 | .st a=>{ I:=Hw (tr g a).E }
 | .set i a=>{ S:=vW i (tr g a).E }
 | .un is a=>{ S:=Cq (tr g a).E (wu is) }
 | .sf c f o a=>{ S:=Dj (g.C c) f (tr g o).E (tr g a).E }
 | .dp d k a=>{ S:=Mh (tr g d).E (tr g k).E (tr g a).E }
 | .sp l i a=>{ S:=Cq (tr g a).E (Np (tr g l).E (tr g i).E p8) }
 | .re a=>{ S:=Hh (tr g a).E }
 | .r0=>{ S:=Nh }
 | .aV t a b=>{ S:=zm (tr g t).T (tr g a).S (tr g b).S }
 | .fo tup is it b=>{ S:=NM (tr g it).I (match tup,is with|true,is=>wu is|false,[i]=>ja i|_,_=>λ_ _ _ _=>False) (tr g b).S }
 | .ex a=>{ S:=NO (tr g a).E }
 | .ra=>{ S:=λ_ _ _=>False }
 | .se a b=>{ S:=Hg (tr g a).S (tr g b).S }
 | .en=>{ S:=Nk }
 | .sk c f a=>ex (Ox (g.C c) f g.lP g.S.lp g.S.lq (tr g a).E)
inductive Nd where
 |e (x:Expr)|t (x:Expr)|a (xs:bb)|i (tg x:Expr)|p (x:Option Expr)|s (x:Stmt)|b (xs:List Stmt)|l (xs:bb)
noncomputable def fN (sc:Scope)(x:Str):Bool:=sc.names.lookup x==some .globalImplicit&& !(x==("__debug__":Str))
noncomputable def yO (tup:Bool)(tg:Expr)(nm:aB):Bool:=match tup,tg with
 |false,.Name x _=>nm==[x]
 |true,.Tuple es _ _=>nY es==some nm
 |_,_=>false
noncomputable def mZ (N:aB):List Nat->bb->Bool
 | [],[]=>true
 |i::is,.Name x _::es=>(N[i]? ==some x)&&mZ N is es
 |_,_=>false
def loc(sc:Scope)(x:Str):Bool:=sc.names.lookup x==some .local||sc.names.lookup x==some .cell
noncomputable def cf (sc:Scope)(x:Str):Bool:=sc.names.lookup x==some .cell||sc.names.lookup x==some .free
noncomputable def iY (x:Str):Bool:=!(x==("__debug__":Str))&& !(x==("__classdict__":Str))
noncomputable def sN (N:aB)(sc scope:Scope)(nm:aB)(a:List (Nat×Str)):Bool:=
 a.all (λp=>(N[p.1]? ==some p.2)&&(scope.names.lookup p.2==some .free)&&cf sc p.2)&&scope.names.all (λy=>y.2 != .free||cf sc y.1)&&scope.names.all (λy=>y.2 != .cell)&&scope.kind== .function&&
 scope.names.all (λy=>y.2 != .local||scope.names.lookup y.1==some .local)&&nm.all (λx=>scope.names.lookup x==some .local)&&decide (nm++a.map Prod.snd).Nodup&&(nm++a.map Prod.snd).all iY
noncomputable def Ad:aB:=["len","isinstance","all","max","sorted","ord","any"]
noncomputable def Af:aB:=["tuple","list","int"]
def iZ(ap p:Pos):Bool:=ap.endLine==p.line
def B8(t:T):Bool:=if h:t.ctorIdx=3 then T.b.elim t h id else false
@[elab_as_elim] theorem qg {α:Type} [BEq α] [LawfulBEq α] {z c:α} {b:Bool} {C:α->Prop} (h:((z==c)&&b)=true) (k:b=true->C c):C z:=by
 rw[aY,eQ]at h;rw[h.1];exact k h.2
theorem i9{a b:Bool}(h:(a&&b)=true):a=true/\b=true:=by rwa [aY]at h
theorem di[Decidable c]{t:c->Bool}{C:Prop}(h:(if h:c then t h else false)=true)(k:c->(if h:c then t h else false)=true->C):C:=
 if i:c then k i h else by rw[dif_neg i]at h;cases h
def dN(e:Expr)(f:Str->Pos->Bool):Bool:=if h:e.ctorIdx=23 then Expr.Name.elim e h f else false
@[elab_as_elim] theorem gq {e f} {C:Expr->Prop} (h:dN e f=true) (k:∀a b,f a b=true->C (.Name a b)):C e:=di h λi=>Expr.Name.elim e i k
def dK(e:Expr)(f:Const->Nat->Pos->Bool):Bool:=if h:e.ctorIdx=19 then Expr.Constant.elim e h f else false
@[elab_as_elim] theorem yX {e f} {C:Expr->Prop} (h:dK e f=true) (k:∀a b c,f a b c=true->C (.Constant a b c)):C e:=di h λi=>Expr.Constant.elim e i k
def dB(e:Expr)(f:Expr->Operator->Expr->Pos->Bool):Bool:=if h:e.ctorIdx=2 then Expr.BinOp.elim e h f else false
@[elab_as_elim] theorem qzb {e f} {C:Expr->Prop} (h:dB e f=true) (k:∀a b c d,f a b c d=true->C (.BinOp a b c d)):C e:=di h λi=>Expr.BinOp.elim e i k
noncomputable def dC (e:Expr)(f:Expr->List CmpOp->bb->Pos->Bool):Bool:=if h:e.ctorIdx=15 then Expr.Compare.elim e h f else false
@[elab_as_elim] theorem N4 {e f} {C:Expr->Prop} (h:dC e f=true) (k:∀a b c d,f a b c d=true->C (.Compare a b c d)):C e:=di h λi=>Expr.Compare.elim e i k
def dQ(e:Expr)(f:BoolOp->bb->Pos->Bool):Bool:=if h:e.ctorIdx=0 then Expr.BoolOp.elim e h f else false
@[elab_as_elim] theorem yV {e f} {C:Expr->Prop} (h:dQ e f=true) (k:∀a b c,f a b c=true->C (.BoolOp a b c)):C e:=di h λi=>Expr.BoolOp.elim e i k
def dU(e:Expr)(f:UnaryOp->Expr->Pos->Bool):Bool:=if h:e.ctorIdx=3 then Expr.UnaryOp.elim e h f else false
@[elab_as_elim] theorem NZ {e f} {C:Expr->Prop} (h:dU e f=true) (k:∀a b c,f a b c=true->C (.UnaryOp a b c)):C e:=di h λi=>Expr.UnaryOp.elim e i k
def dI(e:Expr)(f:Expr->Expr->Expr->Pos->Bool):Bool:=if h:e.ctorIdx=5 then Expr.IfExp.elim e h f else false
@[elab_as_elim] theorem qza {e f} {C:Expr->Prop} (h:dI e f=true) (k:∀a b c d,f a b c d=true->C (.IfExp a b c d)):C e:=di h λi=>Expr.IfExp.elim e i k
def dT(e:Expr)(f:bb->Nat->Pos->Bool):Bool:=if h:e.ctorIdx=25 then Expr.Tuple.elim e h f else false
@[elab_as_elim] theorem vU {e f} {C:Expr->Prop} (h:dT e f=true) (k:∀a b c,f a b c=true->C (.Tuple a b c)):C e:=di h λi=>Expr.Tuple.elim e i k
def dL(e:Expr)(f:bb->Pos->Bool):Bool:=if h:e.ctorIdx=24 then Expr.List.elim e h f else false
@[elab_as_elim] theorem N0 {e f} {C:Expr->Prop} (h:dL e f=true) (k:∀a b,f a b=true->C (.List a b)):C e:=di h λi=>Expr.List.elim e i k
noncomputable def dS (e:Expr)(f:Expr->Expr->Pos->Bool):Bool:=if h:e.ctorIdx=21 then Expr.Subscript.elim e h f else false
@[elab_as_elim] theorem qi {e f} {C:Expr->Prop} (h:dS e f=true) (k:∀a b c,f a b c=true->C (.Subscript a b c)):C e:=di h λi=>Expr.Subscript.elim e i k
def dX(e:Expr)(f:Option Expr->Option Expr->Option Expr->Pos->Bool):Bool:=if h:e.ctorIdx=26 then Expr.Slice.elim e h f else false
@[elab_as_elim] theorem qy8 {e f} {C:Expr->Prop} (h:dX e f=true) (k:∀a b c d,f a b c d=true->C (.Slice a b c d)):C e:=di h λi=>Expr.Slice.elim e i k
def dA(e:Expr)(f:Expr->Str->Pos->Bool):Bool:=if h:e.ctorIdx=20 then Expr.Attribute.elim e h f else false
@[elab_as_elim] theorem vV {e f} {C:Expr->Prop} (h:dA e f=true) (k:∀a b c,f a b c=true->C (.Attribute a b c)):C e:=di h λi=>Expr.Attribute.elim e i k
def dF(e:Expr)(f:Expr->bb->List Keyword->Pos->Bool):Bool:=if h:e.ctorIdx=16 then Expr.Call.elim e h f else false
@[elab_as_elim] theorem B4 {e f} {C:Expr->Prop} (h:dF e f=true) (k:∀a b c d,f a b c d=true->C (.Call a b c d)):C e:=di h λi=>Expr.Call.elim e i k
def dD(e:Expr)(f:List (Option Expr)->bb->Pos->Bool):Bool:=if h:e.ctorIdx=6 then Expr.Dict.elim e h f else false
@[elab_as_elim] theorem N3 {e f} {C:Expr->Prop} (h:dD e f=true) (k:∀a b c,f a b c=true->C (.Dict a b c)):C e:=di h λi=>Expr.Dict.elim e i k
def dG(e:Expr)(f:Expr->List Comprehension->Scope->Pos->Bool):Bool:=if h:e.ctorIdx=8 then Expr.ListComp.elim e h f else false
@[elab_as_elim] theorem N2 {e f} {C:Expr->Prop} (h:dG e f=true) (k:∀a b c d,f a b c d=true->C (.ListComp a b c d)):C e:=di h λi=>Expr.ListComp.elim e i k
def tA(e:Stmt)(f:bb->Expr->Pos->Bool):Bool:=if h:e.ctorIdx=5 then Stmt.Assign.elim e h f else false
@[elab_as_elim] theorem qxv {e f} {C:Stmt->Prop} (h:tA e f=true) (k:∀a b c,f a b c=true->C (.Assign a b c)):C e:=di h λi=>Stmt.Assign.elim e i k
def tU(e:Stmt)(f:Expr->Operator->Expr->Pos->Bool):Bool:=if h:e.ctorIdx=7 then Stmt.AugAssign.elim e h f else false
@[elab_as_elim] theorem qxi {e f} {C:Stmt->Prop} (h:tU e f=true) (k:∀a b c d,f a b c d=true->C (.AugAssign a b c d)):C e:=di h λi=>Stmt.AugAssign.elim e i k
def tD(e:Stmt)(f:bb->Pos->Bool):Bool:=if h:e.ctorIdx=4 then Stmt.Delete.elim e h f else false
@[elab_as_elim] theorem qxr {e f} {C:Stmt->Prop} (h:tD e f=true) (k:∀a b,f a b=true->C (.Delete a b)):C e:=di h λi=>Stmt.Delete.elim e i k
def tR(e:Stmt)(f:Option Expr->Pos->Bool):Bool:=if h:e.ctorIdx=3 then Stmt.Return.elim e h f else false
@[elab_as_elim] theorem Nz {e f} {C:Stmt->Prop} (h:tR e f=true) (k:∀a b,f a b=true->C (.Return a b)):C e:=di h λi=>Stmt.Return.elim e i k
def tI(e:Stmt)(f:Expr->List Stmt->List Stmt->Pos->Bool):Bool:=if h:e.ctorIdx=12 then Stmt.If.elim e h f else false
@[elab_as_elim] theorem qxn {e f} {C:Stmt->Prop} (h:tI e f=true) (k:∀a b c d,f a b c d=true->C (.If a b c d)):C e:=di h λi=>Stmt.If.elim e i k
noncomputable def tF (e:Stmt)(f:Expr->Expr->List Stmt->List Stmt->Pos->Bool):Bool:=if h:e.ctorIdx=9 then Stmt.For.elim e h f else false
@[elab_as_elim] theorem qxo {e f} {C:Stmt->Prop} (h:tF e f=true) (k:∀a b c d g,f a b c d g=true->C (.For a b c d g)):C e:=di h λi=>Stmt.For.elim e i k
def tE(e:Stmt)(f:Expr->Pos->Bool):Bool:=if h:e.ctorIdx=24 then Stmt.Expr.elim e h f else false
@[elab_as_elim] theorem qxp {e f} {C:Stmt->Prop} (h:tE e f=true) (k:∀a b,f a b=true->C (.Expr a b)):C e:=di h λi=>Stmt.Expr.elim e i k
section
variable {α:Type}{xs:List α}{b:Bool}{x:Option α}{e:Expr}{s:Stmt}
def l0(xs:List α)(b:Bool):Bool:=match xs with| []=>b|_=>false
def lc(xs:List α)(f:α->List α->Bool):Bool:=match xs with|x::r=>f x r|_=>false
noncomputable def l1 (xs:List α)(f:α->Bool):Bool:=lc xs λx r=>l0 r (f x)
def l2(xs:List α)(f:α->α->Bool):Bool:=lc xs λx r=>l1 r (f x)
def o0(x:Option α)(b:Bool):Bool:=match x with|none=>b|_=>false
def o1(x:Option α)(f:α->Bool):Bool:=match x with|some y=>f y|_=>false
variable {C:List α->Prop}{D:Option α->Prop}{E:Expr->Prop}{F:Stmt->Prop}
@[elab_as_elim] theorem gR (h:l0 xs b=true) (k:b=true->C []):C xs:=by cases xs<;>first|exact k h|cases h
@[elab_as_elim] theorem iI {f} (h:lc xs f=true) (k:∀x r,f x r=true->C (x::r)):C xs:=by cases xs<;>first|exact k _ _ h|cases h
@[elab_as_elim] theorem gf {f} (h:l1 xs f=true) (k:∀y,f y=true->C [y]):C xs:=iI h λy _ h=>gR h (k y)
@[elab_as_elim] theorem sD {f} (h:l2 xs f=true) (k:∀y z,f y z=true->C [y,z]):C xs:=iI h λy _ h=>gf h (k y)
@[elab_as_elim] theorem BV (h:o0 x b=true) (k:b=true->D none):D x:=by cases x<;>first|exact k h|cases h
@[elab_as_elim] theorem NI {f} (h:o1 x f=true) (k:∀y,f y=true->D (some y)):D x:=by cases x<;>first|exact k _ h|cases h
noncomputable def iX (e:Expr)(f:Str->Pos->bb->Pos->Bool):Bool:=dF e λg a ks p=>dN g λx q=>l0 ks (f x q a p)
@[elab_as_elim] theorem jV {f} (h:iX e f=true) (k:∀x q es p,f x q es p=true->E (.Call (.Name x q) es [] p)):E e:=B4 h λ_ es _ p h=>gq h λx q h=>gR h (k x q es p)
noncomputable def nK (e:Expr)(f:Expr->Str->Pos->bb->Pos->Bool):Bool:=dF e λg a ks p=>dA g λx m q=>l0 ks (f x m q a p)
@[elab_as_elim] theorem p6 {f} (h:nK e f=true) (k:∀x m q es p,f x m q es p=true->E (.Call (.Attribute x m q) es [] p)):E e:=B4 h λ_ es _ p h=>vV h λx m q h=>gR h (k x m q es p)
noncomputable def tQ (e:Expr)(f:Expr->CmpOp->Expr->Pos->Bool):Bool:=dC e λx a c p=>l1 a λo=>l1 c λy=>f x o y p
@[elab_as_elim] theorem vD {f} (h:tQ e f=true) (k:∀x o y p,f x o y p=true->E (.Compare x [o] [y] p)):E e:=N4 h λx _ _ p h=>gf h λo h=>gf h λy=>k x o y p
noncomputable def ou (s:Stmt)(f:Expr->Expr->Pos->Bool):Bool:=tA s λz v p=>l1 z λt=>f t v p
@[elab_as_elim] theorem pZ {f} (h:ou s f=true) (k:∀t v p,f t v p=true->F (.Assign [t] v p)):F s:=qxv h λ_ v p h=>gf h λt=>k t v p
end
noncomputable def dh (e:Expr):Bool:=!([22,7,26,9,10].contains e.ctorIdx)
def mP(e:Expr):Bool:=e.ctorIdx==8
noncomputable def B9 (e:Expr):Bool:=[0,5,15].contains e.ctorIdx||dU e λo _ _=>o== .Not
noncomputable def iJ (e:Expr):Bool:=iX e λ_ _ a _=>a.isEmpty
def cy(a:Nd)(f:Expr->Bool):Bool:=match a with
 | .e x=>dh x&&f x
 | .t x=>!B9 x&&f x
 |_=>false
def ua(a:Nd)(f:Expr->Bool):Bool:=match a with
 | .e x=>dh x&&f x
 | .t x=>f x
 |_=>false
def gx(a:Nd)(f:Stmt->Bool):Bool:=match a with
 | .s x=>f x
 |_=>false
noncomputable def Ax (a:Nd)(f:(bb->Nd)->bb->Bool):Bool:=match a with
 | .a x=>f .a x
 | .l x=>f .l x
 |_=>false
def pF(a:Nd)(f:Expr->Expr->Bool):Bool:=match a with
 | .i tg x=>f tg x
 |_=>false
def Az(a:Nd)(f:Option Expr->Bool):Bool:=match a with
 | .p x=>f x
 |_=>false
def Ay(a:Nd)(f:List Stmt->Bool):Bool:=match a with
 | .b x=>f x
 |_=>false
def ub(a:Nd)(f g:Expr->Bool):Bool:=match a with
 | .e x=>dh x&&f x
 | .t x=>g x
 |_=>false
def dY(e:Expr)(f:Arguments->Expr->Scope->Pos->Bool):Bool:=if h:e.ctorIdx=4 then Expr.Lambda.elim e h f else false
@[elab_as_elim] theorem qy7 {e f} {C:Expr->Prop} (h:dY e f=true) (k:∀a b c d,f a b c d=true->C (.Lambda a b c d)):C e:=di h λi=>Expr.Lambda.elim e i k
noncomputable def C8 (ps:Arguments)(v:Str):Bool:=ps.posonlyargs.isEmpty&&ps.vararg.isNone&&ps.kwonlyargs.isEmpty&&ps.kw_defaults.isEmpty&&ps.kwarg.isNone&&ps.defaults.isEmpty&&(l1 ps.args λa=>a.arg==v)
noncomputable def Cj (v:Str)(sc:Scope):Bool:=(sc.names.lookup v==some .local)&&sc.names.all (λy=>y.2 != .cell&&y.2 != .free)&& !sc.isCoroutine&& !sc.isGenerator&&sc.kind== .function&&iY v
noncomputable def mt (S:SI)(fc:Bool)(N:aB)(sc:Scope):T->Nd->Bool
 | .v i,nd=>cy nd λy0=>dN y0 λx _=>N[i]? ==some x
 | .i n,nd=>cy nd λy0=>dK y0 λz _ _=>z== .int n
 | .s x,nd=>cy nd λy0=>dK y0 λz _ _=>z== .str x
 | .b x,nd=>cy nd λy0=>dK y0 λz _ _=>z== .bool x
 | .n,nd=>cy nd λy0=>dK y0 λz _ _=>z== .none
 | .g x,nd=>cy nd λy0=>dN y0 λy _=>(x==y)&&(S.gi.lookup x).isSome&&fN sc x
 | .ty x,nd=>cy nd λy0=>dN y0 λy _=>(Str.ofString x==y)&&["int","bool","str","tuple","list"].contains x&&S.bl.contains y&&fN sc y
 | .op o a b,nd=>cy nd λy0=>dB y0 λx o' y _=>(o==o')&&mt S fc N sc a (.e x)&&mt S fc N sc b (.e y)
 | .cm o a b,nd=>ua nd λy0=>tQ y0 λx o' y _=>(o==o')&&mt S fc N sc a (.e x)&&mt S fc N sc b (.e y)
 | .ch o p a b c,nd=>ua nd λy0=>dC y0 λx z1 z2 _=>l2 z1 λo' p'=>l2 z2 λy z=>(o==o')&&(p==p')&&mt S fc N sc a (.e x)&&mt S fc N sc b (.e y)&&mt S fc N sc c (.e z)
 | .dn neg k d,nd=>ua nd λy0=>tQ y0 λx o' y _=>(o'==if neg then .NotIn else .In)&&mt S fc N sc k (.e x)&&mt S fc N sc d (.e y)
 | .an a b,nd=>ub nd (λy0=>dQ y0 λz1 z2 p=>(z1== .And)&&(lc z2 λx z3=>lc z3 λy r=>mt S fc N sc a (.e x)&&mt S fc N sc b (.e (if r.isEmpty then y else .BoolOp .And (y::r) p)))) (λy0=>dQ y0 λz1 z2 p=>(z1== .And)&&(lc z2 λx z3=>lc z3 λy r=>mt S fc N sc a (.t x)&&mt S fc N sc b (.t (if r.isEmpty then y else .BoolOp .And (y::r) p))))
 | .or a b,nd=>ub nd (λy0=>dQ y0 λz1 z2 p=>(z1== .Or)&&(lc z2 λx z3=>lc z3 λy r=>mt S fc N sc a (.e x)&&mt S fc N sc b (.e (if r.isEmpty then y else .BoolOp .Or (y::r) p)))) (λy0=>dQ y0 λz1 z2 p=>(z1== .Or)&&(lc z2 λx z3=>lc z3 λy r=>mt S fc N sc a (.t x)&&mt S fc N sc b (.t (if r.isEmpty then y else .BoolOp .Or (y::r) p))))
 | .no a,nd=>ub nd (λy0=>dU y0 λz1 x _=>(z1== .Not)&&(mt S fc N sc a (.e x))) (λy0=>dU y0 λz1 x _=>(z1== .Not)&&(mt S fc N sc a (.t x)))
 | .ie t a b,nd=>cy nd λy0=>dI y0 λx y z _=>mt S fc N sc t (.t x)&&mt S fc N sc a (.e y)&&mt S fc N sc b (.e z)
 | .tu a,nd=>cy nd λy0=>dT y0 λes _ _=>mt S fc N sc a (.a es)
 | .ll a,nd=>cy nd λy0=>dL y0 λes _=>mt S fc N sc a (.a es)
 | .lm a,nd=>cy nd λy0=>dL y0 λes _=>mt S fc N sc a (.a es)
 | .e0,nd=>Ax nd λ_ y0=>l0 y0 <|true
 | .ec a r,nd=>Ax nd λmk y0=>lc y0 λx xs=>mt S fc N sc a (.e x)&&mt S fc N sc r (mk xs)
 | .ix a b,nd=>cy nd λy0=>dS y0 λx y _=>mt S fc N sc a (.e x)&&mt S fc N sc b (.e y)
 | .sl a l h,nd=>cy nd λy0=>dS y0 λx z1 _=>dX z1 λlo hi z2 _=>o0 z2 <|mt S fc N sc a (.e x)&&mt S fc N sc l (.p lo)&&mt S fc N sc h (.p hi)
 | .p0,nd=>Az nd λy0=>o0 y0 <|true
 | .p1 a,nd=>Az nd λy0=>o1 y0 λx=>mt S fc N sc a (.e x)
 | .fl c f a,nd=>cy nd λy0=>dA y0 λx f' _=>(f==f')&&S.fs.contains (c,f)&& !iJ x&&mt S fc N sc a (.e x)
 | .ca f a,nd=>cy nd λy0=>iX y0 λx _ es _=>(match S.fd[f]? with|some d=>d.kind==0&&d.name==x|none=>false)&&fN sc x&&mt S fc N sc a (.a es)
 | .me f o a,nd=>cy nd λy0=>nK y0 λx m ap es p=>(match S.fd[f]? with|some d=>d.kind==1&&d.name==m|none=>false)&& !iJ x&&iZ ap p&&decide (es.length<29)&&mt S fc N sc o (.e x)&&mt S fc N sc a (.a es)
 | .mk f a,nd=>cy nd λy0=>iX y0 λx _ es _=>(match S.fd[f]? with|some d=>d.kind==2&&S.cl[d.cls]? ==some x|none=>false)&&fN sc x&&mt S fc N sc a (.a es)
 | .bf f a,nd=>cy nd λy0=>iX y0 λx _ es _=>(f==x)&&Ad.contains x&&S.bl.contains x&&fN sc x&& !es.isEmpty&&mt S fc N sc a (.a es)
 | .bt f a,nd=>cy nd λy0=>iX y0 λx _ es _=>(f==x)&&Af.contains x&&S.bl.contains x&&fN sc x&& !es.isEmpty&&mt S fc N sc a (.a es)
 | .ap o a,nd=>cy nd λy0=>nK y0 λx m ap z1 p=>l1 z1 λy=>(m==("append":Str))&& !iJ x&&iZ ap p&&mt S fc N sc o (.e x)&&mt S fc N sc a (.a [y])
 | .dg d k,nd=>cy nd λy0=>dS y0 λx y _=>mt S fc N sc d (.e x)&&mt S fc N sc k (.e y)
 | .d1 d k,nd=>cy nd λy0=>nK y0 λx m ap z1 p=>l1 z1 λy=>(m==("get":Str))&& !iJ x&&iZ ap p&&mt S fc N sc d (.e x)&&mt S fc N sc k (.e y)
 | .dk,nd=>cy nd λy0=>dD y0 λz1 z2 _=>l0 z1 <|l0 z2 <|true
 | .dt,nd=>cy nd λy0=>dD y0 λz1 z2 _=>l0 z1 <|l0 z2 <|true
 | .ic neg a x,nd=>ua nd λy0=>tQ y0 λy o z1 _=>dN z1 λx' _=>(o==if neg then .NotIn else .In)&&(x==x')&&(S.gt.lookup x).isSome&&fN sc x&&mt S fc N sc a (.e y)
 | .tx x a,nd=>cy nd λy0=>dS y0 λz1 y _=>dN z1 λx' _=>(x==x')&&S.tb.contains x&&fN sc x&&mt S fc N sc a (.e y)
 | .tg x a,nd=>cy nd λy0=>nK y0 λz1 m ap z2 p=>dN z1 λx' _=>l1 z2 λy=>(m==("get":Str))&&(x==x')&&(S.tt.lookup x).isSome&&fN sc x&&iZ ap p&&mt S fc N sc a (.e y)
 | .tn x a,nd=>ub nd (λ_=>false) λy0=>tQ y0 λy o z1 _=>dN z1 λx' _=>(o== .NotIn)&&(x==x')&&S.tb.contains x&&fN sc x&&mt S fc N sc a (.e y)
 | .cv i a,nd=>cy nd λy0=>iX y0 λx _ es _=>(N[i]? ==some x)&& !es.isEmpty&&mt S fc N sc a (.a es)
 | .lr a b,nd=>cy nd λy0=>iX y0 λx _ z1 _=>l1 z1 λz2=>iX z2 λy _ z3 _=>l2 z3 λz w=>(x==("list":Str))&&(y==("range":Str))&&S.bl.contains x&&S.bl.contains y&&fN sc x&&fN sc y&&mt S fc N sc a (.e z)&&mt S fc N sc b (.e w)
 | .cp _ tup nm cap it t e,nd=>cy nd λy0=>dG y0 λel z1 scope _=>l1 z1 λz2=>match z2 with|⟨tg,ite,ifs,as⟩=>fc&&(as==0)&&yO tup tg nm&&sN N sc scope nm cap&&dh ite&&mt S fc N sc it (.i tg ite)&&mt S false (nm++cap.map Prod.snd) scope e (.e el)&&(match ifs with| []=>B8 t| [c]=>mt S false (nm++cap.map Prod.snd) scope t (.t c)|_=>false)
 | .iv a,nd=>pF nd λ_=>λy0=>nK y0 λx m ap z1 p=>l0 z1 <|(m==("values":Str))&& !iJ x&&iZ ap p&&mt S fc N sc a (.e x)
 | .im a,nd=>pF nd λtg=>λy0=>nK y0 λx m ap z1 p=>l0 z1 <|(tg.ctorIdx==25)&&(m==("items":Str))&& !iJ x&&iZ ap p&&mt S fc N sc a (.e x)
 | .lv _ a,nd=>cy nd λy0=>iX y0 λy _ z1 _=>l1 z1 λz2=>nK z2 λx m ap z3 p=>l0 z3 <|(y==("list":Str))&&(m==("values":Str))&&S.bl.contains y&&fN sc y&& !iJ x&&iZ ap p&&mt S fc N sc a (.e x)
 | .pr i j a,nd=>gx nd λy0=>ou y0 λz1 z2 _=>dT z1 λz3 _ _=>l2 z3 λz4 z5=>dN z4 λx px=>dN z5 λy py=>dT z2 λz6 _ _=>l2 z6 λu v=>fc&&(N[i]? ==some x)&&(N[j]? ==some y)&&(i != j)&&(sc.names.lookup x==some .local)&&(sc.names.lookup y==some .local)&&(py.line==px.line)&& !(y==x)&& !([u,v].all (foldedForSure 8))&& !([u,v].all (constantsAlone 8))&&mt S fc N sc a (.a [u,v])
 | .af c f o a,nd=>gx nd λy0=>tU y0 λz1 z2 e _=>dA z1 λx f' _=>(z2== .Add)&&((f==f')&&S.fs.contains (c,f)&&mt S fc N sc o (.e x)&&mt S fc N sc a (.e e))
 | .dd d k,nd=>gx nd λy0=>tD y0 λz1 _=>l1 z1 λz2=>dS z2 λx y _=>mt S fc N sc d (.e x)&&mt S fc N sc k (.e y)
 | .is a,nd=>pF nd λ_ x=>dh x&&mt S fc N sc a (.e x)
 | .st a,nd=>pF nd λ_ x=>dh x&&mt S fc N sc a (.e x)
 | .r1 a,nd=>pF nd λ_=>λy0=>iX y0 λx _ z1 _=>l1 z1 λy=>(x==("range":Str))&&S.bl.contains x&&fN sc x&&mt S fc N sc a (.e y)
 | .r2 a b,nd=>pF nd λ_=>λy0=>iX y0 λx _ z1 _=>l2 z1 λy z=>(x==("range":Str))&&S.bl.contains x&&fN sc x&&mt S fc N sc a (.e y)&&mt S fc N sc b (.e z)
 | .set i a,nd=>gx nd λy0=>ou y0 λz1 e _=>dN z1 λx p=>fc&&(N[i]? ==some x)&&(!mP e||sc.names.lookup x==some .cell)&&mt S fc N sc a (.e e)
 | .sc i _ tup nm cap it t e,nd=>gx nd λy0=>ou y0 λz1 z2 _=>dN z1 λx p=>dG z2 λel z3 scope p2=>l1 z3 λz4=>match z4 with|⟨tg,ite,ifs,as⟩=>fc&&(N[i]? ==some x)&&(sc.names.lookup x==some .local)&&(p.line==p2.line)&& !(scope.names.any λy=>y.1==x&&(y.2== .local||y.2== .cell))&&(as==0)&&yO tup tg nm&&sN N sc scope nm cap&&dh ite&&mt S fc N sc it (.i tg ite)&&mt S false (nm++cap.map Prod.snd) scope e (.e el)&&(match ifs with| []=>B8 t| [c]=>mt S false (nm++cap.map Prod.snd) scope t (.t c)|_=>false)
 | .un is a,nd=>gx nd λy0=>ou y0 λz1 e _=>dT z1 λes _ _=>fc&&mZ N is es&& !mP e&&(e.ctorIdx != 25)&&mt S fc N sc a (.e e)
 | .sf c f o a,nd=>gx nd λy0=>ou y0 λz1 e _=>dA z1 λx f' _=>(f==f')&&S.fs.contains (c,f)&& !mP e&&mt S fc N sc o (.e x)&&mt S fc N sc a (.e e)
 | .dp d k a,nd=>gx nd λy0=>ou y0 λz1 e _=>dS z1 λx y _=>!mP e&&mt S fc N sc d (.e x)&&mt S fc N sc k (.e y)&&mt S fc N sc a (.e e)
 | .sp l i a,nd=>gx nd λy0=>ou y0 λz1 e _=>dS z1 λx y _=>!mP e&&mt S fc N sc l (.e x)&&mt S fc N sc i (.e y)&&mt S fc N sc a (.e e)
 | .re a,nd=>gx nd λy0=>tR y0 λz1 _=>o1 z1 λe=>mt S fc N sc a (.e e)
 | .r0,nd=>gx nd λy0=>tR y0 λz1 _=>o0 z1 <|true
 | .aV t a b,nd=>gx nd λy0=>tI y0 λx y z _=>mt S fc N sc t (.t x)&&mt S fc N sc a (.b y)&&mt S fc N sc b (.b z)
 | .fo tup is it b,nd=>gx nd λy0=>tF y0 λtg x y z1 _=>l0 z1 <|fc&&dh x&&cond tup (dT tg λes _ _=>mZ N is es) (dN tg λz _=>l1 is λi=>N[i]? ==some z)&&mt S fc N sc it (.i tg x)&&mt S fc N sc b (.b y)
 | .ex a,nd=>gx nd λy0=>tE y0 λe _=>!mP e&&mt S fc N sc a (.e e)
 | .ra,nd=>match nd with| .s _=>true| .b _=>true|_=>false
 | .se a b,nd=>Ay nd λy0=>lc y0 λx y=>mt S fc N sc a (.s x)&&mt S fc N sc b (.b y)
 | .en,nd=>Ay nd λy0=>l0 y0 <|true
 | .sk c f a,nd=>cy nd λy0=>dF y0 λg es ks _=>dN g λx _=>l1 es λe=>l1 ks λk=>(x==("sorted":Str))&&(k.arg==some ("key":Str))&&(dY k.value λps b ls lp=>dA b λe' f' _=>(f'==f)&&(dN e' λv _=>decide (lp=S.lp)&&C8 ps v&&Cj v ls))&&fc&&decide (N=S.ln)&&S.bl.contains x&&fN sc x&&S.fs.contains (c,f)&&mt S fc N sc a (.e e)
section
variable {S:SI}{fc:Bool}{N:aB}{sc:Scope}
theorem c7{t:T}{x:Expr}(h:mt S fc N sc t (.e x)=true):dh x=true:=by
 cases t<;>first|exact(i9 h).1|exact aS h iQ
theorem gy{e:Expr}{env:Env}(h:dh e=true):starEach (e::es) env=(false,eval e env)::starEach es env:=by
 cases e<;>first|rfl|cases h
theorem Bs{i:Expr}(h:dh i=true):∀o v,subscripted i false o v=operate [o,v] (getItem o v):=by
 intro o v;cases i<;>first|rfl|cases h
theorem mW{op:CmpOp}{e:Expr}(h:dh e=true):behindInMarks op e=false:=by
 cases e<;>first|rfl|cases h
theorem yt{e:Expr}{env:Env}(h:dh e=true):∀x,foldedSetIterable e env x=pure x:=by
 intro x;cases e<;>first|rfl|cases h
theorem rQ{e:Expr}{tg:Option Expr}{l:Nat}{env:Env}(h:dh e=true)(a:mP e=false):swapsWith e tg l env=pure false:=by
 cases e<;>first|rfl|(cases a;done)|(cases h;done)
theorem pX{env:Env}(h:iJ o=false):attributeBase o m env (eval o env)=eval o env:=by
 cases o<;>first|rfl|skip
 rename_i f a ks p;cases f<;>first|rfl|skip
 cases a<;>first|rfl|skip
 cases ks<;>first|rfl|cases h
theorem Wl{e:Expr}{env:Env}(h:B9 e=false):∀a,isTrue e env a=(do let v<-a;standAt e.pos;holding [v] (truthy v)):=by
 intro w;cases e<;>first|rfl|cases h|skip
 rename_i o x p;cases o<;>first|rfl|cases h
theorem jR:∀{r:T} {xs:bb},mt S fc N sc r (.a xs)=true->xs.all dh=true
 |r,[],_=>rfl
 |r,x::xs,h=>by
  cases r<;>first|exact aS h iQ|skip
  have h:=i9 h;rw[fb,c7 h.1,jR h.2];rfl
theorem yh{env:Env}:∀{xs:bb},xs.all dh=true->starEach xs env=xs.map λe=>(false,eval e env)
 | [],_=>rfl
 |x::xs,h=>by
  rw[fb,aY]at h;rw[gy h.1,yh h.2];rfl
theorem rL{env:Env}{p:Pos}{xs:bb}(h:xs.all dh=true):(backTo p (starEach xs env)).any (·.1)=false:=by
 rw[yh h];unfold backTo;simp
theorem AW{env:Env}{p:Pos}{xs:bb}(h:xs.all dh=true):(backTo p (starEach xs env)).all (λx=>!x.1)=true:=by
 rw[yh h];unfold backTo;simp
theorem back_eq{env:Env}{p:Pos}{xs:bb}(h:xs.all dh=true):backTo p (starEach xs env)=xs.map λe=>(false,eval e env):=by
 rw[yh h];unfold backTo;simp[bR,Function.comp_def]
theorem LM{o:Expr}{a pos:Pos}{es:bb}{env:Env}(g:iJ o=false)(e:es.all dh=true)(i:es.length<29)(d:iZ a pos=true):
 eval (.Call (.Attribute o m a) es [] pos) env=(do
  let c<-eval o env
  standAt a.atName
  let(f,first) <-holding [c] (getMethod c m (do return (<-importBound o env).getD true))
  callWith pos f first (backTo pos (starEach es env)) (backToKw pos (keywordEach [] env))):=by
 have e1:eval (.Call (.Attribute o m a) es [] pos) env=(do
  let c<-attributeBase o m env (eval o env)
  standAt a.atName
  methodCall o m a pos env c (es.length+([]:List Keyword).length) (backTo pos (starEach es env)) (backToKw pos (keywordEach [] env))):=rfl
 rw[e1,pX g];have h:methodCallForm (es.length+([]:List Keyword).length) (backTo pos (starEach es env)) (backToKw pos (keywordEach [] env))=true:=by
  unfold methodCallForm;rw[AW e];have:es.length+0+0<30:=by omega
  simp[backToKw,keywordEach,this];omega
 have b:methodCallPos true o env a pos=pure pos:=by
  unfold methodCallPos;unfold iZ at d;rw[ah (by rw[d];rfl)]
 unfold methodCall;rw[h,b];rfl
end
structure Wd(P:Program)(w:World)(K:ag)(mg:bq)(base:Heap)(Γ:G)(k:Nat):Prop where
 bl:∀x∈Γ.S.bl,mg x=none
 gi:∀x i,Γ.S.gi.lookup x=some i->CQ mg x i
 gt:∀x l,Γ.S.gt.lookup x=some l->sV K mg x l
 tb:∀x∈Γ.S.tb,KTab P w K mg x (Γ.tb x)
 tt:∀x l,Γ.S.tt.lookup x=some l->qk P w K mg x l
 cl:∀i c,Γ.S.cl[i]? =some c->cI K (Γ.C i)/\mg c=some (.ref (Γ.C i))
 fs:∀c f,(c,f)∈Γ.S.fs->cI K (Γ.C c)/\aW K (Γ.C c) f
 fn:∀(i:Nat) d,Γ.S.fd[i]? =some d->d.kind=0->zU P w K mg base k d.name d.ps (Γ.fn i)
 me:∀(i:Nat) d,Γ.S.fd[i]? =some d->d.kind=1->cI K (Γ.C d.cls)/\tL P w K mg base (Γ.C d.cls) k d.name d.ps (Γ.fn i)
 mN:∀(i:Nat) d,Γ.S.fd[i]? =some d->d.kind=2->∃j,j+1<=k/\zV P w K mg base (Γ.C d.cls) j d.ps (Γ.mN i)
 ia:∀q∈Γ.ia,∃fd ps,PySem.W.keepIn K (.ref q.1)=true/\Binds K fd ps []/\dm P w K mg base fg k q.1 fd ps (fG K q.2)
structure OL(Γ:G)(X:Cx):Prop where
 q:X.env.qual++("<lambda>":Str)=Γ.S.lq
 cc:∃cc,X.env.code= .ref cc/\PySem.W.CodeHd X.base cc Γ.lP
 bt:X.base.BuiltinsAt X.mg Γ.lP
 gp:mainGlobals≠Γ.lP
structure fM(Γ:G)(k:Nat)(fc:Bool)(N:aB)(sc:Scope)(X:Cx):Prop where
 hN:X.N=N
 zJ:∀x∈N,qX X.env.scope x/\iY x=true
 gl:∀x,sc.names.lookup x=some .globalImplicit->Gl X x
 calm:X.calm=true
 room:aJ k X.A
 fn:fc=true->X.env.scope=sc/\N.Nodup/\(∀x∈N,Loc sc x)/\(∀x,X.fn x=true)/\PassesOwn (model X.prog X.w) X.A X.env X.xe/\X.env.blockKind= .function/\∀x,X.env.kindOf x=sc.names.lookup x
 lm:fc=true->N=Γ.S.ln->OL Γ X
def zW(X:Cx):bb->List au->Prop
 | [],ts=>ts= []
 |x::xs,ts=>∃t r,ts=t::r/\ai X x t/\zW X xs r
noncomputable def Good (a:G)(X:Cx)(t:T):Nd->Prop
 | .e x=>ai X x (tr a t).E
 | .t x=>d7 X x (tr a t).T
 | .a xs=>eV X xs (tr a t).A
 | .i tg x=>hG X tg x (tr a t).I
 | .p x=>qW X x (tr a t).P
 | .s x=>eI X x (tr a t).S
 | .b xs=>j5 X xs (tr a t).S
 | .l xs=>zW X xs (tr a t).L
section
variable {X:Cx}{Γ:G}{t:T}{r:au}{f:Expr->Bool}{nd:Nd}
theorem pV(e:tr Γ t=ex r)(b:∀x,f x=true->ai X x r)(h:cy nd f=true):Good Γ X t nd:=by
 cases nd<;>first|(cases h;done)|skip
 . show ai X _ (tr Γ t).E;rw[e];exact b _ (i9 h).2
 . rename_i x
   have a:(!B9 x&&f x)=true:=h;rw[aY,jd]at a;show d7 X _ (tr Γ t).T;rw[e];exact ZZ (b _ a.2) (Wl a.1)
theorem vi(e:tr Γ t=ex r)(a:∀x,f x=true->ai X x r/\d7 X x (m8 r))(h:ua nd f=true):Good Γ X t nd:=by
 cases nd<;>first|(cases h;done)|skip
 . show ai X _ (tr Γ t).E;rw[e];exact(a _ (i9 h).2).1
 . show d7 X _ (tr Γ t).T;rw[e];exact(a _ h).2
theorem ai.imp{e:Expr}{t t':au}(h:ai X e t)(i:∀a M Q,t' a M Q->t a M Q):ai X e t':=PE.imp h λσ0 H g h=>by
 obtain⟨a,M,Q,hs,d,c,b⟩:=h;exact⟨a,M,Q,hs,d,i _ _ _ c,b⟩
theorem eI.imp{e:Stmt}{t t':c9}(h:eI X e t)(i:∀D a M,t' D a M->t D a M):eI X e t':=PS.imp h λD0 g H h=>by
 obtain⟨a,M,D,hs,d,c,b⟩:=h;exact⟨a,M,D,hs,d,i _ _ _ c,b⟩
theorem Bt{e:Expr}:ai X e gz:=λpins s b H c I h=>by
 obtain⟨i,M,Q,hs,g,a,d⟩:=h;exact a.elim
theorem Vf{g:Value->Value->Sem Value}:cS X g (λ_ _ _ _=>False):=λpins s l H x y v u d I j k h=>by
 obtain⟨a,b,M,Q,ra,rb,i,c,e⟩:=h;exact c.elim
theorem Ys:∀o:Operator,cS X (binaryOp o) (jn o):=by
 intro o;cases o<;>first|exact RG|exact Rw|exact RA|exact RB|exact RF|exact Ry|exact Vf
theorem rU(a:X.A.units+64<cLine):∀o:CmpOp,cS X (compareOp o) (eC o):=by
 intro o;cases o<;>first|exact PF|exact PD|exact Px|exact Pw|exact RE a|exact Rz a|exact Pz|exact Yv|exact Py a|exact Yt a
theorem JV{o p:CmpOp}{b c:Expr}(h:dh c=true):lastMarks [o,p] [b,c]=false:=mW h
end
section
variable {X:Cx}
theorem qzk:cM X (.builtin "isinstance") (eF X.K Co):=by
 intro b s k H j us d I g h;obtain⟨rs,M,Q,i,f,c,e⟩:=h;unfold Co at c;split at c
 . rename_i a
   exact T2 b s k H j us d I g ⟨_,M,Q,i,f,⟨rfl,c⟩,e⟩
 . rename_i x t _
   by_cases l:t= "int"
   . subst l;exact V2 b s k H j us d I g ⟨_,M,Q,i,f,⟨rfl,c⟩,e⟩
   by_cases m:t= "bool"
   . subst m;exact Ux b s k H j us d I g ⟨_,M,Q,i,f,⟨rfl,c⟩,e⟩
   by_cases n:t= "str"
   . subst n;exact V1 b s k H j us d I g ⟨_,M,Q,i,f,⟨rfl,c⟩,e⟩
   by_cases o:t= "tuple"
   . subst o;exact T1 b s k H j us d I g ⟨_,M,Q,i,f,⟨rfl,c⟩,e⟩
   by_cases r:t= "list"
   . subst r;exact Uw b s k H j us d I g ⟨_,M,Q,i,f,⟨rfl,c⟩,e⟩
   . unfold DL at c
     rw[ae l,ae m,ae n,ae o,ae r]at c;exact c.elim
 . exact c.elim
theorem qzj:cM X (.builtin "len") (eF X.K B2):=by
 intro b s m H l us f I j h;obtain⟨rs,M,Q,k,i,c,g⟩:=h;unfold B2 at c;split at c
 . rename_i a
   split at c
   . rename_i n e
     exact GS b s m H l us f I j ⟨_,M,Q,k,i,by simp only[zj,e];exact c,g⟩
   . rename_i d e
     exact qzg b s m H l us f I j ⟨_,M,Q,k,i,⟨a,d,rfl,e,c⟩,g⟩
   . rename_i d e
     exact qzf b s m H l us f I j ⟨_,M,Q,k,i,⟨a,d,rfl,e,c⟩,g⟩
   . exact c.elim
 . exact GS b s m H l us f I j ⟨_,M,Q,k,i,c,g⟩
theorem YV:bootBuiltins "max" =some (.builtin "max"):=by decide+kernel
theorem UA:bootBuiltins "sorted" =some (.builtin "sorted"):=by decide+kernel
variable {x:Str}{p pos:Pos}{e:Expr}{es:bb}{t:bS}
theorem qzq(f:X.calm=true)(hx:Ad.contains x=true)(d:X.mg x=none)(c:Gl X x)(b:(x==("__debug__":Str))=false)(a:eV X (e::es) t)(h:(e::es).all dh=true):ai X (.Call (.Name x p) (e::es) [] pos) (jY (fy x) t):=by
 rw[fb,aY]at h;have s1:=gy (es:=es) (env:=X.env) h.1;have s2:=rL (env:=X.env) (p:=pos) h.2;have g:x= "len"∨x= "isinstance"∨x= "all"∨x= "max"∨x= "sorted"∨x= "ord"∨x= "any":=by simpa[Ad]using hx
 rcases g with rfl|rfl|rfl|rfl|rfl|rfl|rfl
 . exact p5 qzj d YW a c (by decide) b s1 s2
 . exact p5 qzk d Sa a c (by decide) b s1 s2
 . exact p5 (V6 f) d YY a c (by decide) b s1 s2
 . exact p5 (Rh f) d YV a c (by decide) b s1 s2
 . exact p5 (Zb f) d UA a c (by decide) b s1 s2
 . exact p5 Rg d YU a c (by decide) b s1 s2
 . exact p5 (V5 f) d YX a c (by decide) b s1 s2
theorem YS(h:X.calm=true)(hx:Af.contains x=true)(d:X.mg x=none)(c:Gl X x)(b:(x==("__debug__":Str))=false)(a:eV X (e::es) t)(g:(e::es).all dh=true):ai X (.Call (.Name x p) (e::es) [] pos) (jY (wZ x) t):=by
 rw[fb,aY]at g;have s1:=gy (es:=es) (env:=X.env) g.1;have s2:=rL (env:=X.env) (p:=pos) g.2;have f:x= "tuple"∨x= "list"∨x= "int":=by simpa[Af]using hx
 rcases f with rfl|rfl|rfl
 . exact BB Za d KQ a c (by decide) b s1 s2
 . exact BB qze d LP a c (by decide) b s1 s2
 . exact BB Ri d My a c (by decide) b s1 s2
theorem Z6(hx:["int","bool","str","tuple","list"].contains y=true)(b:X.mg (Str.ofString y)=none)(a:Gl X (Str.ofString y)):ai X (.Name (Str.ofString y) pos) (rC (.ty y)):=by
 have c:y= "int"∨y= "bool"∨y= "str"∨y= "tuple"∨y= "list":=by simpa using hx
 rcases c with rfl|rfl|rfl|rfl|rfl
 . exact Wc b a
 . exact Vu b a
 . exact Wb b a
 . exact TN b a
 . exact Vt b a
theorem Zg:rf C f Q=(λx M1=>match x with| .ref a=>∃b v,M1 a=some (.ins C b)/\b.lookup f=some v/\Q v M1|_=>False):=by
 funext x M1;cases x with
 |ref a=>
  refine propext ⟨λh=>?_,λ⟨b,v,e1,c,q⟩=>?_⟩
  . unfold rf at h
    simp only at h;split at h
    . rename_i g b e1
      obtain⟨rfl,d⟩:=h;split at d
      . rename_i v c;exact⟨b,v,e1,c,d⟩
      . exact d.elim
    . exact h.elim
  . unfold rf;simp only[e1,c];exact⟨trivial,q⟩
 |_=>rfl
theorem qy3(b:cI X.K C)(d:aW X.K C f)(c:ai X e ta)(a:iJ e=false):ai X (.Attribute e f pos) (Di C f ta):=ai.imp (Qv b d c (pX a)) λσ M Q h=>by
 unfold Di at h;rw[Zg]at h;exact h
theorem ZL(i:cI X.K C)(j:aW X.K C f)(g:ai X o ta)(k:ai X value tv)(hs:swapsWith value (some (.Attribute o f pos')) pos.line X.env=pure false):eI X (.Assign [.Attribute o f pos'] value pos) (Dj C f ta tv):=eI.imp (QF i j g k hs) λD c M h=>by
 unfold Dj at h;have:∀y,rj C f y (D.nx c)=(λx M2=>match x with| .ref a=>∃b,M2 a=some (.ins C b)/\b.length<1000/\D.nx c (put M2 a (.ins C (jZ f y b)))|_=>False):=λy=>by
  funext x M1;cases x with
  |ref a=>
   refine propext ⟨λh=>?_,λ⟨b,e1,q⟩=>?_⟩
   . unfold rj at h
     simp only at h;split at h
     . rename_i l b e1
       obtain⟨rfl,d⟩:=h;exact⟨b,e1,d⟩
     . exact h.elim
   . unfold rj;simp only[e1];exact⟨trivial,q⟩
  |_=>rfl
 simp only[this]at h;exact h
theorem MO{sp:bV}{t:bS}:pq C m sp t σ Q=(λx M1=>match x with| .ref a=>∃b,M1 a=some (.ins C b)/\b.lookup m=none/\t σ M1 λrs M2=>sp (.ref a::rs) M2 Q|_=>False):=by
 funext x M1;cases x with
 |ref a=>
  refine propext ⟨λh=>?_,λ⟨b,e1,c,q⟩=>?_⟩
  . unfold pq at h
    simp only at h;split at h
    . rename_i f b e1
      obtain⟨rfl,d⟩:=h;exact⟨b,e1,d⟩
    . exact h.elim
  . unfold pq;simp only[e1];exact⟨trivial,c,q⟩
 |_=>rfl
theorem X8{sp:bV}(F:tL X.prog X.w X.K X.mg X.base C k m ps sp)(c:cI X.K C)(f:aJ k X.A)(b:ai X o ta)(a:iJ o=false)(d:iZ apos pos=true):
 ai X (.Call (.Attribute o m apos) [] [] pos) (qI C m sp ta j0):=ai.imp (WQ F c f b (LM a rfl (by decide) d)) λσ M Q h=>by
 unfold qI at h;rw[MO]at h;exact h
theorem qyG{sp:bV}(F:tL X.prog X.w X.K X.mg X.base C k m ps sp)(c:cI X.K C)(l:aJ k X.A)(g:ai X o ta)(d:eV X (e::es) t)(f:iJ o=false)(a:(e::es).all dh=true)(i:(e::es).length<29)(j:iZ apos pos=true):
 ai X (.Call (.Attribute o m apos) (e::es) [] pos) (qI C m sp ta t):=by
 have b:=a;rw[fb,aY]at a;refine ai.imp (XD F c l g d (gy a.1) (rL a.2) (LM f b i j)) λσ M Q h=>?_
 unfold qI at h;rw[MO]at h;exact h
end
theorem Ce{S:SI}{sc:Scope}(h:mt S fc N sc r (.a [])=true):r= .e0:=by
 cases r<;>first|rfl|exact aS h iQ
section
variable {X:Cx}{C:Addr}
theorem WR{x:Str}{p pos:Pos}{sp:bV}(F:zV X.prog X.w X.K X.mg X.base C k ps sp)(y:aJ (k+1) X.A)(w:X.mg x=some (.ref C))(t:Gl X x)(f:(x==("__debug__":Str))=false):ai X (.Call (.Name x p) [] [] pos) (sF C sp j0):=by
 obtain⟨g,I,r,s,F⟩:=F.ex;refine PE.imp (UZ r F y t w s .nil qa f) λσ0 H E h=>?_
 obtain⟨J,M,Q,hs,j,z,u⟩:=h;refine λa b l m A=>?_
 have d:Ext H (upd H b (.own a)):=Ext.new m;have c:(upd H b (.own a)) a=none:=by rw[aE (cN A)];exact l
 have e:Ext H (upd (upd H b (.own a)) a (.ins C b [])):=d.trans (Ext.new c);refine⟨[.ref a],put M a (.ins C []),_,aa.cons (by simp only[Rep]) aa.nil,(j.new m).cV c ⟨b,[],rfl,rfl⟩,z a (j.free l),λrv M2 v n i o D r2=>?_⟩
 obtain⟨rfl,i⟩:=i;simp only[Rep]at r2;exact⟨r2,u _ M2 _ n i (e.trans o) D (by simp only[Rep])⟩
theorem gd{sc:Scope}{x:Str}(h:fN sc x=true):sc.names.lookup x=some .globalImplicit/\(x==("__debug__":Str))=false:=by
 unfold fN at h;rw[aY,eQ,jd]at h;exact h
theorem Y5{x:Str}(h:iY x=true):(x==("__debug__":Str))=false/\(x==("__classdict__":Str))=false:=by
 unfold iY at h
 rwa [aY,jd,jd]at h
theorem KA{tg e:Expr}{l:Nat}{env:Env}(h:dh e=true)(a:mP e=false):swapsWithSole [tg] e l env=pure false:=rQ h a
theorem mem_of[BEq α][LawfulBEq α]{a:α}{l:List α}(h:l.contains a=true):a∈l:=by simpa using h
theorem Xj{o i:Expr}{p:Pos}(h:dh i=true):∀v,assign (.Subscript o i p) X.env v=(do
 let a<-holding [v] (eval o X.env)
 let iv<-holding [v,a] (eval i X.env)
 standAt p
 holding [v,a,iv] (setItem a iv v)
 release [v,a,iv] []):=by intro v;cases i<;>first|rfl|cases h
theorem LA{K:ag}(h:up K (sP neg ss ta) σ0 H Q0):sX (sY K (zk K neg)) (up K ta) (up K (Om K ss)) σ0 H Q0:=by
 obtain⟨σ,M,Q,hs,hv,ht,hk⟩:=h;refine⟨σ,M,_,hs,hv,ht,λrx M1 x H1 q e1 v1 r1=>?_⟩
 refine⟨σ,M1,λy M2=>∃p,y= .ref p/\wo K p ss/\M2=M1,hs.ext e1,v1,λp hp=>⟨p,rfl,hp,rfl⟩,λry M2 y H2 q2 e2 v2 r2=>?_⟩
 obtain⟨p,rfl,hp,rfl⟩:=q2;exact⟨rx,.ref p,_,Q,Rep.ext e2 _ _ r1,r2,v2,⟨ss,hp,q.1,q.2⟩,hk.ext (e1.trans e2)⟩
theorem MV{op:CmpOp}{a:Expr}{x:Str}{p pos:Pos}(e:cS X (compareOp op) (zk X.K neg))(h:sV X.K X.mg x ss)(b:ai X a ta)(d:Gl X x)(c:(x==("__debug__":Str))=false):ai X (.Compare a [op] [.Name x p] pos) (sP neg ss ta)/\d7 X (.Compare a [op] [.Name x p] pos) (m8 (sP neg ss ta)):=
 ⟨PE.imp (LH e b (OA h d c) (mW rfl)) λ_ _ _ h=>LA h,PT.imp (LD e b (OA h d c) (mW rfl)) λσ0 H k h=>by
  obtain⟨j,M,Q,hs,i,g,f⟩:=h;exact LA ⟨j,M,_,hs,i,g,pT f⟩⟩
theorem ND{o e:Expr}{ap p:Pos}(h0:iJ o=false)(b:iZ ap p=true)(a:dh e=true):M1 X o m ap e p where
 base:=pX h0
 q9:=by rw[AW (by rw[fb,a];rfl)];rfl
 line:=b
 trees:=back_eq (by rw[fb,a];rfl)
end
section
variable {X:Cx}{Γ:G}{k:Nat}{fc:Bool}{N:aB}{sc:Scope}
theorem fM.var(O:fM Γ k fc N sc X){i:Nat}{x:Str}(h:N[i]? =some x):ai X (.Name x pos) (qv i):=by
 have m:=O.zJ x (jH h);have d:=Y5 m.2;exact rv i (by rw[O.hN];exact h) m.1 d.1 d.2
theorem fM.qG(O:fM Γ k true N sc X){i:Nat}{x:Str}{e:Expr}{pos a:Pos}(h:N[i]? =some x)(c:ai X e te)(hs:swapsWith e (some (.Name x a)) pos.line X.env=pure false):eI X (.Assign [.Name x a] e pos) (vW i te):=by
 obtain⟨b,g,f,d,_⟩:=O.fn rfl;exact sset i c (by rw[O.hN];exact g) (by rw[O.hN];exact h) (by rw[b];exact f x (jH h)) hs (.inl (d x))
theorem fM.gN(O:fM Γ k true N sc X){i:Nat}{x:Str}(h:N[i]? =some x):oI X (.Name x pos) (ja i):=by
 obtain⟨a,d,c,b,_⟩:=O.fn rfl;exact qyW i (by rw[O.hN];exact d) (by rw[O.hN];exact h) (by rw[a];exact c x (jH h)) (.inl (b x))
theorem J4(O:fM Γ k true N sc X):∀(is:List Nat) (es:bb),mZ N is es=true->oH X es (nj is)/\(assignEach es X.env).length=is.length/\(assignEach es X.env).findIdx? (·.1)=none
 | [],[],_=>⟨LF,rfl,rfl⟩
 | [],_::_,h=>by simp[mZ]at h
 |i::is,[],h=>by simp[mZ]at h
 |i::is,e::es,h=>by
  cases e<;>first|(simp[mZ]at h;done)|skip
  rename_i x p;simp only[mZ,aY,eQ]at h;obtain⟨d,l,j,g,_⟩:=O.fn rfl;obtain⟨a,b,c⟩:=J4 O is es h.2;have f:(assignEach (.Name x p::es) X.env)=(false,assign (.Name x p) X.env)::assignEach es X.env:=rfl;refine⟨K1 (yC (i:=i) (by rw[O.hN];exact l) (by rw[O.hN];exact h.1) (by rw[d];exact j x (jH h.1)) (.inl (g x))) a,by rw[f,cQ,b];rfl,by rw[f,List.findIdx?_cons,c];rfl⟩
theorem gT(O:fM Γ k true N sc X){is:List Nat}(h:mZ N is es=true):oI X (.Tuple es j pos) (wu is):=by
 obtain⟨a,b,c⟩:=J4 O is es h;exact Q9 O.calm a rfl b c
theorem yx{nm:aB}{s:Shared}(O:fM Γ k fc N sc X)(hs:sN N sc scope nm cap=true):
 fM Γ k false (nm++cap.map Prod.snd) scope (cW X scope cl C (nm++cap.map Prod.snd) s H fp):=by
 unfold sN at hs;simp only[aY,dw,eQ]at hs;obtain⟨⟨⟨⟨⟨⟨⟨a,_⟩,_⟩,_⟩,_⟩,c⟩,_⟩,b⟩:=hs;refine⟨rfl,λx hx=>⟨?_,b x hx⟩,λx h=>Pa h,O.calm,O.room,(λh=>by cases h),λh=>by cases h⟩
 rcases eS.mp hx with hx|hx
 . exact .inl (lookup_relabel_local (c x hx))
 . obtain⟨p,d,rfl⟩:=aP.mp hx
   exact .inr (Jp (a p d).1.2)
theorem NT{x:Str}(h:cf sc x=true):sc.names.lookup x=some .cell∨sc.names.lookup x=some .free:=by
 unfold cf at h
 rwa [oF,eQ,eQ]at h
theorem Nx{tup:Bool}{tg:Expr}{nm:aB}(h:yO tup tg nm=true):vY tup tg nm:=by
 unfold yO at h;unfold vY;split at h
 . simpa using h
 . simpa using h
 . cases h
structure BL(X:Cx)(N:aB)(sc scope:Scope)(nm:aB)(cap:List (Nat×Str)):Prop where
 fu:∀p∈cap,N[p.1]? =some p.2/\scope.names.lookup p.2=some .free/\(sc.names.lookup p.2=some .cell∨sc.names.lookup p.2=some .free)
 eD:∀y∈scope.names,y.2= .free->(sc.names.lookup y.1=some .cell∨sc.names.lookup y.1=some .free)
 bD:∀y∈scope.names,y.2≠.cell
 bH:scope.kind= .function
 cj:∀y∈scope.names,y.2= .local->scope.names.lookup y.1=some .local
 hx:∀x∈nm,scope.names.lookup x=some .local
 jQ:(nm++cap.map Prod.snd).Nodup
theorem Ko{nm:aB}(hs:sN N sc scope nm cap=true):BL X N sc scope nm cap:=by
 unfold sN at hs;simp only[aY,dw,eQ,fU]at hs;obtain⟨⟨⟨⟨⟨⟨⟨a,i⟩,f⟩,g⟩,h⟩,c⟩,l⟩,j⟩:=hs;refine⟨λp d=>⟨(a p d).1.1,(a p d).1.2,NT (a p d).2⟩,λy b e=>?_,λy b e=>?_,g,λy b e=>?_,c,l⟩
 . have:=i y b
   rw[e]at this;exact NT (by simpa using this)
 . have:=f y b
   rw[e]at this;simp at this
 . have:=h y b
   rw[e]at this;simpa using this
end
section
variable {Γ:G}{k:Nat}{X:Cx}{fc:Bool}{N:aB}{sc:Scope}
theorem qxx{p:Pos}{x:Str}{l:Nat}(O:fM Γ k true N sc X)(h:sc.names.lookup x=some .cell):swapsWith (.ListComp el gs scope p) (some (.Name x px)) l X.env=pure false:=by
 obtain⟨_,_,_,_,_,b,a⟩:=O.fn rfl;show(pure (X.env.blockKind== .function&&X.env.kindOf x==some .local&&px.line==p.line&& !(scope.names.any λ(n,k)=>n==x&&(k== .local||k== .cell))):Sem Bool)=_
 rw[a,h,show((some NameKind.cell:Option NameKind)==some .local)=false from by decide]
 simp
theorem qxw{scope:Scope}{p:Pos}{x:Str}{a:Pos}{l:Nat}(O:fM Γ k true N sc X)(h:sc.names.lookup x=some .local)(e:a.line=p.line)(b:(scope.names.any λy=>y.1==x&&(y.2== .local||y.2== .cell))=false):swapsWith (.ListComp el gs scope p) (some (.Name x a)) l X.env=pure true:=by
 obtain⟨_,_,_,_,_,c,d⟩:=O.fn rfl;show(pure (X.env.blockKind== .function&&X.env.kindOf x==some .local&&a.line==p.line&& !(scope.names.any λ(n,k)=>n==x&&(k== .local||k== .cell))):Sem Bool)=_
 rw[d,h,c,e];have:(scope.names.any λ(n,k)=>n==x&&(k== .local||k== .cell))=false:=b
 rw[this];simp
theorem Xy{f d tg:Expr}{nm:aB}{tup md:Bool}{pos iM:Pos}(O:fM Γ k true N sc X)(i)(c:BL X N sc scope nm cap)(U:vY tup tg nm)(hi:hG X tg d ti)
 (L:∀x C s H A,qy (cW X scope x C (nm++cap.map Prod.snd) s H A) ifs tt) (F:∀x C s H A,ai (cW X scope x C (nm++cap.map Prod.snd) s H A) f te) (hs:∀v,foldedSetIterable d X.env v=pure v) (l:N[i]? =some y)
 (R:swapsWith (.ListComp f [⟨tg,d,ifs,0⟩] scope pos) (some (.Name y py)) iM.line X.env=pure true):
 eI X (.Assign [.Name y py] (.ListComp f [⟨tg,d,ifs,0⟩] scope pos) iM) (vW i (rZ (fv tup nm.length) md ti (cap.map Prod.fst) tt te)):=by
 obtain⟨m,nd,hl,hf,_⟩:=O.fn rfl;intro g s u H D0 I h;obtain⟨σ,M,D,n,hv,ht,hd⟩:=h;rw[exec_Assign_Name_used _ _ _ _ R];refine aj (wpAny_standAt (aj ?_));show wpAny _ _ (do let _<-comprehension (.ListComp f [⟨tg,d,ifs,0⟩] scope pos) scope X.env _ (newList []) false (eval d X.env) (some (assign (.Name y py) X.env))) _ _ s
 refine aj (gw (KO (PP:=λ_ s'=>∃t w,Inv X g t w s'/\D0.nx t w) cap U O.calm hi L F m O.hN c.fu c.eD c.bD c.bH c.cj c.hx c.jQ hs I (Q0:=λv w=>D0.nx (u.set i (some v)) w) ⟨σ,M,_,n,hv,ht,λrx M1 v H1 q e1 v1 r1=>hd.nx _ M1 _ H1 q e1 v1 ((n.ext e1).set r1 i)⟩ ?_) (λ_ s' hq=>aI (aI hq)) λ_ _ e=>e)
 intro D C s5 m5 H5 hn W q hC hL hS j Q;have J:Inv X g u H5 s5:=W s5.heap (Heap.SameBut.refl ..);refine wpAny_assign_Name (J9 J (by rw[O.hN];exact nd) (by rw[O.hN];exact l) (by rw[m];exact hl y (jH l)) (v:=.ref D) rfl (λs6 I6 Y=>?_) (.inl (hf y)))
 obtain⟨a,Y,ha⟩:=Y;have E:C≠a:=by
  rcases ha with rfl|e
  . exact hL
  . exactλz=>j y a e z.symm
 obtain⟨o,es,ep,ho,r⟩:=hn;refine⟨m5,⟨o,es,ep,Y.extBut _ _ E ho,r⟩,λh' Z=>⟨_,H5,Inv.turned (t':=s6.toks) (it:=C) I6 (λb o hb e=>Z.extBut b o hb e) hC hL (.inr hS) j Q,q⟩⟩
theorem XJ{elt iter tg:Expr}{nm:aB}{tup md:Bool}(O:fM Γ k true N sc X)(c:BL X N sc scope nm cap)(htg:vY tup tg nm)(hi:hG X tg iter ti)
 (hif:∀cl C s H fp,qy (cW X scope cl C (nm++cap.map Prod.snd) s H fp) ifs tt) (hel:∀cl C s H fp,ai (cW X scope cl C (nm++cap.map Prod.snd) s H fp) elt te) (hs:∀v,foldedSetIterable iter X.env v=pure v):
 ai X (.ListComp elt [⟨tg,iter,ifs,0⟩] scope pos) (rZ (fv tup nm.length) md ti (cap.map Prod.fst) tt te):=by
 obtain⟨hsc,nd,hl,hf,_⟩:=O.fn rfl;intro pins s σ0 H Q0 I hw;rw[eval_ListComp];exact KO cap htg O.calm hi hif hel hsc O.hN c.fu c.eD c.bD c.bH c.cj c.hx c.jQ hs I hw (use:=none) λD C s5 m5 H5 hn inv q hC hL hS hce hpi=>⟨m5,hn,λh' sb=>⟨.ref D,H5,inv h' sb,rfl,q⟩⟩
end
section
variable {X:Cx}{Γ:G}{t:T}{nd:Nd}
theorem KY{op:BoolOp}{vs:bb}{p:Pos}{t:dJ}(h:d7 X (.BoolOp op vs p) t):nI X (.BoolOp op vs p) t:=λwhole a s b H Q I w=>h a s b H Q I w
theorem yF{f g:Expr->Bool}(a:∀x,f x=true->ai X x (tr Γ t).E)(b:∀x,g x=true->d7 X x (tr Γ t).T)(h:ub nd f g=true):Good Γ X t nd:=by
 cases nd<;>first|(cases h;done)|exact b _ h|exact a _ (i9 h).2
theorem Y0(a:∀x,f x=true->eI X x (tr Γ t).S)(h:gx nd f=true):Good Γ X t nd:=by
 cases nd<;>first|(cases h;done)|exact a _ h
theorem M5(a:∀x,f .a x=true->eV X x (tr Γ t).A)(b:∀x,f .l x=true->zW X x (tr Γ t).L)(h:Ax nd f=true):Good Γ X t nd:=by
 cases nd<;>first|(cases h;done)|exact a _ h|exact b _ h
theorem sv(a:∀tg x,f tg x=true->hG X tg x (tr Γ t).I)(h:pF nd f=true):Good Γ X t nd:=by
 cases nd<;>first|(cases h;done)|exact a _ _ h
theorem MY(a:∀x,f x=true->qW X x (tr Γ t).P)(h:Az nd f=true):Good Γ X t nd:=by
 cases nd<;>first|(cases h;done)|exact a _ h
theorem MZ(a:∀x,f x=true->j5 X x (tr Γ t).S)(h:Ay nd f=true):Good Γ X t nd:=by
 cases nd<;>first|(cases h;done)|exact a _ h
theorem QE{st:Stmt}:eI X st (λ_ _ _=>False):=λpins s b H c I h=>by
 obtain⟨f,M,D,hs,e,a,d⟩:=h;exact a.elim
theorem ZK{st:List Stmt}:j5 X st (λ_ _ _=>False):=λpins s b H c I h=>by
 obtain⟨f,M,D,hs,e,a,d⟩:=h;exact a.elim
end
theorem qxy{x y:Str}{c d pt b:Pos}{kt j:Nat}{u v:Expr}{env:Env}(e:env.blockKind= .function)(hx:env.kindOf x=some .local)(i:env.kindOf y=some .local)(h:d.line=c.line)(k:¬y=x)(a:[u,v].all dh=true)(g:[u,v].all (foldedForSure 8)=false)(f:[u,v].all (constantsAlone 8)=false):
 swappedStores [.Tuple [.Name x c,.Name y d] kt pt] (.Tuple [u,v] j b) env=pure (some [x,y]):=by
 unfold swappedStores;have en:([x,y]:aB).eraseDups.length=2:=by
  have:(y==x)=false:=by simpa using k
  simp[List.eraseDups_cons,this]
 simp only[fb,List.all_nil,Bool.and_true,aY]at a;simp[e,hx,i,h,g,f,en,show∀(x:Str)(p:Pos),(Expr.Name x p).pos=p from fun _ _=>rfl];rintro (z|z)
 . split at z
   . cases a.1
   . cases z
 . split at z
   . cases a.2
   . cases z
theorem qzu{v:Str}(h:C8 ps v=true):∃an p,ps=⟨[],[⟨v,an,p⟩],none,[],[],none,[]⟩:=by
 unfold C8 at h;simp only[aY,List.isEmpty_iff,Option.isNone_iff_eq_none]at h;obtain⟨⟨⟨⟨⟨⟨i,j⟩,k⟩,l⟩,m⟩,n⟩,o⟩:=h;obtain⟨a,b,c,d,e,f,g⟩:=ps;cases i;cases j;cases k;cases l;cases m;cases n;refine gf (C:=λb=>∃an p,(⟨[],b,none,[],[],none,[]⟩:Arguments)=⟨[],[⟨v,an,p⟩],none,[],[],none,[]⟩) o λy r=>?_
 obtain⟨u,s,t⟩:=y;obtain rfl:=gh r;exact⟨s,t,rfl⟩
theorem qzd{sc:Scope}{env:Env}(h:∀y∈sc.names,y.2≠.free):closureFor sc env=pure []:=by
 unfold closureFor;have:∀(l:List (Str×NameKind)) (cs:List (Str×Addr)),(∀y∈l,y.2≠.free)->(forIn l cs λx r=>do
  let(name,kind):=x
  if(kind== .free)=true then do
   let y<-cellOf env name
   pure (ForInStep.yield ((name,y)::r))
  else pure (ForInStep.yield r):Sem (List (Str×Addr)))=pure cs:=by
  intro l
  induction l with
  |nil=>intro cs _;rfl
  |cons y l ih=>
   intro cs a;rw[tj];have:(y.2==NameKind.free)=false:=by simpa using a y iR
   simp only[this,jI,if_false,pure_bind];exact ih cs λz b=>a z (gv _ b)
 have e:=this sc.names [] h;simp only[]at e ⊢
 first
  |(rw[e];rfl)
  |(simp only[bind_pure];exact e)
theorem bind1{v:Str}{an:Option Expr}{p:Pos}{sc:Scope}(name qual)(body)(pm cd ct u):bindArgs (PySem.W.kla_fn name qual ⟨[],[⟨v,an,p⟩],none,[],[],none,[]⟩ body sc [] pm cd ct) ⟨[u],[]⟩=pure [(v,u)]:=by
 have e:([(v,u)]:List (Str×Value)).lookup v=some u:=by simp
 unfold bindArgs;simp[seqItems?,PySem.W.kla_fn,e];rfl
theorem GH{v:Str}{an:Option Expr}{p:Pos}{sc:Scope}(h:Cj v sc=true):yU v ⟨[],[⟨v,an,p⟩],none,[],[],none,[]⟩ sc/\∀env:Env,closureFor sc env=pure []:=by
 unfold Cj iY at h;simp only[aY,dw,eQ,bne_iff_ne,jd]at h;obtain⟨⟨⟨⟨⟨c,b⟩,d⟩,e⟩,f⟩,g,i⟩:=h;exact⟨⟨bind1,c,λy a=>(b y a).1,d,e,f,g⟩,λ_=>qzd λy a=>(b y a).2⟩
theorem JK{sc:Scope}{t:T}(O:fM Γ k false N sc X)(W:Wd X.prog X.w X.K X.mg X.base Γ k)
 (e:∀{a:Bool} {N:aB} {sc:Scope} {X:Cx},fM Γ k a N sc X->Wd X.prog X.w X.K X.mg X.base Γ k->∀{d},mt Γ.S a N sc t d=true->Good Γ X t d)
 (h:(match ifs with| []=>B8 t| [c]=>mt Γ.S false N sc t (.t c)|_=>false)=true):qy X ifs (tr Γ t).T:=by
 split at h
 . revert h
   exactλh=>di h λi=>T.b.elim t i λb h=>by cases b<;>first|exact Qd|cases h
 . exact Qc (e O W h)
 . cases h
set_option hygiene false in
local macro_rules
 | `(tactic|walk_at "g0")=>`(tactic|(intro fc N sc X O W nd h))
 | `(tactic|walk_at "gE")=>`(tactic|(walk_at "g0";refine pV rfl (fun x hx=>?_) h))
 | `(tactic|walk_at "gS")=>`(tactic|(walk_at "g0";refine Y0 (fun x hx=>?_) h))
 | `(tactic|walk_at "ga")=>`(tactic|simp only[aY,eQ]at hx)
theorem sound:∀(t:T) {fc:Bool} {N:aB} {sc:Scope} {X:Cx},fM Γ k fc N sc X->Wd X.prog X.w X.K X.mg X.base Γ k->∀{nd},mt Γ.S fc N sc t nd=true->Good Γ X t nd:=by
 intro t
 induction t with
 |v i=>
  walk_at "gE";refine gq hx λ_ _ hx=>?_
  exact O.var (by simpa using hx)
 |i n=>
  walk_at "gE";refine yX hx λm _ _ hx=>?_
  obtain rfl:=gh hx;exact ri
 |s n=>
  walk_at "gE";refine yX hx λm _ _ hx=>?_
  obtain rfl:=gh hx;exact rs
 |b n=>
  walk_at "gE";refine yX hx λm _ _ hx=>?_
  obtain rfl:=gh hx;exact rb
 |n=>
  walk_at "gE";refine yX hx λ_ _ _ hx=>?_
  obtain rfl:=gh hx;exact rn
 |g x0=>
  walk_at "gE";refine gq hx λ_ _ hx=>?_
  walk_at "ga";obtain⟨⟨rfl,h1⟩,h2⟩:=hx;obtain⟨h2,h3⟩:=gd h2;obtain⟨i,hi⟩:=zR.mp h1;rw[hi];exact rgi (W.gi _ _ hi) (O.gl _ h2) h3
 |ty x0=>
  walk_at "gE";refine gq hx λ_ _ hx=>?_
  walk_at "ga";obtain⟨⟨⟨rfl,h1⟩,h2⟩,h3⟩:=hx;exact Z6 h1 (W.bl _ (mem_of h2)) (O.gl _ (gd h3).1)
 |op o a b iha ihb=>
  walk_at "gE";refine qzb hx λ_ _ _ _ hx=>?_
  walk_at "ga";obtain⟨⟨rfl,h1⟩,h2⟩:=hx;exact rop (Ys o) (iha O W h1) (ihb O W h2)
 |cm o a b iha ihb=>
  walk_at "g0";refine vi rfl (λx hx=>?_) h
  refine vD hx λ_ _ _ _ hx=>?_
  walk_at "ga";obtain⟨⟨rfl,h1⟩,h2⟩:=hx;exact⟨Rj (rU O.room.units o) (iha O W h1) (ihb O W h2) (mW (c7 h2)),Z1 (rU O.room.units o) (iha O W h1) (ihb O W h2) (mW (c7 h2))⟩
 |ch o p a b c iha ihb ihc=>
  walk_at "g0";refine vi rfl (λx hx=>?_) h
  refine N4 hx λ_ z1 z2 _ hx=>?_
  refine sD hx λ_ _ hx=>?_
  refine sD hx λ_ _ hx=>?_
  walk_at "ga";obtain⟨⟨⟨⟨rfl,rfl⟩,h1⟩,h2⟩,h3⟩:=hx;exact⟨XM (rU O.room.units _) (rU O.room.units _) (iha O W h1) (ihb O W h2) (ihc O W h3) (JV (c7 h3)),We (rU O.room.units _) (rU O.room.units _) (iha O W h1) (ihb O W h2) (ihc O W h3) (JV (c7 h3))⟩
 |an a b iha ihb=>
  walk_at "g0";refine yF (λx hx=>?_) (λx hx=>?_) h
  . refine yV hx λz1 z2 p hx=>?_
    refine qg hx λhx=>?_
    refine iI hx λx z3 hx=>?_
    refine iI hx λy r hx=>?_
    simp only[aY]at hx;have h1:=iha O W hx.1;have h2:=ihb O W hx.2;cases r with
    |nil=>exact Nr h1 (Hb (h2:ai X y _))
    |cons z r=>exact Nr h1 h2
  . refine yV hx λz1 z2 p hx=>?_
    refine qg hx λhx=>?_
    refine iI hx λx z3 hx=>?_
    refine iI hx λy r hx=>?_
    simp only[aY]at hx;have h1:=iha O W hx.1;have h2:=ihb O W hx.2;cases r with
    |nil=>exact zG (rand h1 (ZF (h2:d7 X y _)))
    |cons z r=>exact zG (rand h1 (KY h2))
 |or a b iha ihb=>
  walk_at "g0";refine yF (λx hx=>?_) (λx hx=>?_) h
  . refine yV hx λz1 z2 p hx=>?_
    refine qg hx λhx=>?_
    refine iI hx λx z3 hx=>?_
    refine iI hx λy r hx=>?_
    simp only[aY]at hx;have h1:=iha O W hx.1;have h2:=ihb O W hx.2;cases r with
    |nil=>exact Ha h1 (Hb (h2:ai X y _))
    |cons z r=>exact Ha h1 h2
  . refine yV hx λz1 z2 p hx=>?_
    refine qg hx λhx=>?_
    refine iI hx λx z3 hx=>?_
    refine iI hx λy r hx=>?_
    simp only[aY]at hx;have h1:=iha O W hx.1;have h2:=ihb O W hx.2;cases r with
    |nil=>exact zG (OB h1 (Qs (h2:d7 X y _)))
    |cons z r=>exact zG (OB h1 (KY h2))
 |no a iha=>
  walk_at "g0";refine yF (λx hx=>?_) (λx hx=>?_) h
  . refine NZ hx λz1 _ _ hx=>?_
    refine qg hx λhx=>?_
    exact Z2 (iha O W hx)
  . refine NZ hx λz1 _ _ hx=>?_
    refine qg hx λhx=>?_
    exact Z0 (iha O W hx)
 |ie t a b iht iha ihb=>
  walk_at "gE";refine qza hx λ_ _ _ _ hx=>?_
  walk_at "ga";obtain⟨⟨h1,h2⟩,h3⟩:=hx;exact rif (iht O W h1) (iha O W h2) (ihb O W h3)
 |tu a iha=>
  walk_at "gE";refine vU hx λ_ _ _ hx=>?_
  exact Qp (iha O W hx)
 |ll a iha=>
  walk_at "gE";refine N0 hx λ_ _ hx=>?_
  exact Qu (iha O W hx)
 |lm a iha=>
  walk_at "gE";refine N0 hx λ_ _ hx=>?_
  exact Qt (iha O W hx)
 |e0=>
  walk_at "g0";refine M5 (λx hx=>?_) (λx hx=>?_) h
  . refine gR hx λ_=>?_
    exact zx
  . refine gR hx λ_=>?_
    rfl
 |ec a r iha ihr=>
  walk_at "g0";refine M5 (λx hx=>?_) (λx hx=>?_) h
  . refine iI hx λ_ _ hx=>?_
    have hx:=i9 hx;exact sI (iha O W hx.1) (ihr O W hx.2) (gy (c7 hx.1))
  . refine iI hx λ_ _ hx=>?_
    have hx:=i9 hx;exact⟨_,_,rfl,iha O W hx.1,ihr O W hx.2⟩
 |ix a b iha ihb=>
  walk_at "gE";refine qi hx λ_ _ _ hx=>?_
  walk_at "ga";obtain⟨h1,h2⟩:=hx;exact rix (iha O W h1) (ihb O W h2) (Bs (c7 h2))
 |sl a l h0 iha ihl ihh=>
  walk_at "gE";refine qi hx λ_ z1 _ hx=>?_
  refine qy8 hx λ_ _ z2 _ hx=>?_
  refine BV hx λhx=>?_
  walk_at "ga";obtain⟨⟨h1,h2⟩,h3⟩:=hx;exact rsl (iha O W h1) (ihl O W h2) (ihh O W h3)
 |p0=>
  walk_at "g0";refine MY (λx hx=>?_) h
  refine BV hx λhx=>?_
  exact qyl
 |p1 a iha=>
  walk_at "g0";refine MY (λx hx=>?_) h
  refine NI hx λ_ hx=>?_
  exact qyi (iha O W hx)
 |fl c f a iha=>
  walk_at "gE";refine vV hx λ_ _ _ hx=>?_
  walk_at "ga";obtain⟨⟨⟨rfl,h1⟩,h2⟩,h3⟩:=hx;exact qy3 (W.fs _ _ (mem_of h1)).1 (W.fs _ _ (mem_of h1)).2 (iha O W h3) (by simpa using h2)
 |ca f a iha=>
  walk_at "gE";refine jV hx λx p es p' hx=>?_
  simp only[aY]at hx;obtain⟨⟨h1,h2⟩,h3⟩:=hx;cases e:Γ.S.fd[f]? with
  |none=>rw[e]at h1;cases h1
  |some d=>
  rw[e]at h1;simp only[aY,eQ]at h1;obtain⟨h1,rfl⟩:=h1;obtain⟨h2,h4⟩:=gd h2;cases es with
  |nil=>
   have:=Ce h3;subst this;exact WS (W.fn f d e h1) O.room (O.gl _ h2) h4
  |cons z es=>
   have ho:=jR h3;rw[fb,aY]at ho;exact XO (W.fn f d e h1) O.room (iha O W h3) (O.gl _ h2) h4 (gy ho.1) (rL ho.2)
 |me f o a iho iha=>
  walk_at "g0";cases ef:Γ.S.fd[f]? with
  |none=>
   refine pV (r:=gz) (by show ex _=_;rw[ef]) (λx hx=>Bt) h
  |some d=>
   refine pV (r:=qI (Γ.C d.cls) d.name (Γ.fn f) (tr Γ o).E (tr Γ a).A) (by show ex _=_;rw[ef]) (λx hx=>?_) h
   refine p6 hx λx m ap es p hx=>?_
   rw[ef]at hx;simp only[aY,eQ,fU]at hx;obtain⟨⟨⟨⟨⟨⟨h1,rfl⟩,h2⟩,h3⟩,h4⟩,h5⟩,h6⟩:=hx;have W1:=W.me f d ef h1;cases es with
   |nil=>
    have:=Ce h6;subst this;exact X8 W1.2 W1.1 O.room (iho O W h5) (by simpa using h2) h3
   |cons z es=>exact qyG W1.2 W1.1 O.room (iho O W h5) (iha O W h6) (by simpa using h2) (jR h6) h4 h3
 |mk f a iha=>
  walk_at "g0";cases ef:Γ.S.fd[f]? with
  |none=>
   refine pV (r:=gz) (by show ex _=_;rw[ef]) (λx hx=>Bt) h
  |some d=>
   refine pV (r:=sF (Γ.C d.cls) (Γ.mN f) (tr Γ a).A) (by show ex _=_;rw[ef]) (λx hx=>?_) h
   refine jV hx λx p es p' hx=>?_
   rw[ef]at hx;walk_at "ga";obtain⟨⟨⟨h1,h1'⟩,h2⟩,h3⟩:=hx;obtain⟨h2,h4⟩:=gd h2;obtain⟨j,hj,F⟩:=W.mN f d ef h1;have C1:=W.cl _ _ h1';cases es with
   |nil=>
    have:=Ce h3;subst this;exact WR F (O.room.mono hj) C1.2 (O.gl _ h2) h4
   |cons z es=>
    have ho:=jR h3;rw[fb,aY]at ho;exact XF F (O.room.mono hj) C1.2 (iha O W h3) (O.gl _ h2) h4 (gy ho.1) (rL ho.2)
 |bf f a iha=>
  walk_at "gE";refine jV hx λx p es p' hx=>?_
  walk_at "ga";obtain⟨⟨⟨⟨⟨rfl,h1⟩,h2⟩,h3⟩,h4⟩,h5⟩:=hx;obtain⟨h3,h6⟩:=gd h3;cases es with
  |nil=>cases h4
  |cons z es=>exact qzq O.calm h1 (W.bl _ (mem_of h2)) (O.gl _ h3) h6 (iha O W h5) (jR h5)
 |bt f a iha=>
  walk_at "gE";refine jV hx λx p es p' hx=>?_
  walk_at "ga";obtain⟨⟨⟨⟨⟨rfl,h1⟩,h2⟩,h3⟩,h4⟩,h5⟩:=hx;obtain⟨h3,h6⟩:=gd h3;cases es with
  |nil=>cases h4
  |cons z es=>exact YS O.calm h1 (W.bl _ (mem_of h2)) (O.gl _ h3) h6 (iha O W h5) (jR h5)
 |ap o a iho iha=>
  walk_at "gE";refine p6 hx λ_ _ _ z1 _ hx=>?_
  refine gf hx λ_ hx=>?_
  walk_at "ga";obtain⟨⟨⟨⟨rfl,h1⟩,h2⟩,h3⟩,h4⟩:=hx;exact WT (iho O W h3) (iha O W h4) (pX (by simpa using h1)) (by rw[AW (jR h4)];rfl) h2 (gy (by have:=jR h4;rw[fb,aY]at this;exact this.1)) rfl
 |dg d k0 ihd ihk=>
  walk_at "gE";refine qi hx λ_ _ _ hx=>?_
  walk_at "ga";obtain⟨h1,h2⟩:=hx;exact Z5 (m7 O.room) (ihd O W h1) (ihk O W h2) (Bs (c7 h2))
 |dn neg k0 d ihk ihd=>
  walk_at "g0";refine vi rfl (λx hx=>?_) h
  refine vD hx λ_ _ _ _ hx=>?_
  walk_at "ga";obtain⟨⟨h0,h1⟩,h2⟩:=hx;have g1:=ihk O W h1;have g2:=ihd O W h2;cases neg with
  |true=>rw[ah rfl]at h0;subst h0;exact⟨Wj (m7 O.room) g1 g2 (mW (c7 h2)),Ur (m7 O.room) g1 g2 (mW (c7 h2))⟩
  |false=>rw[ae (by decide)]at h0;subst h0;exact⟨Qb (m7 O.room) g1 g2 (mW (c7 h2)),Z4 (m7 O.room) g1 g2 (mW (c7 h2))⟩
 |d1 d k0 ihd ihk=>
  walk_at "gE";refine p6 hx λ_ _ _ z1 _ hx=>?_
  refine gf hx λ_ hx=>?_
  walk_at "ga";obtain⟨⟨⟨⟨rfl,h1⟩,h2⟩,h3⟩,h4⟩:=hx;exact XZ (m7 O.room) (ihd O W h3) (ihk O W h4) (ND (by simpa using h1) h2 (c7 h4))
 |dk=>
  walk_at "gE";refine N3 hx λz1 z2 _ hx=>?_
  refine gR hx λhx=>?_
  refine gR hx λhx=>?_
  exact ZE
 |dt=>
  walk_at "gE";refine N3 hx λz1 z2 _ hx=>?_
  refine gR hx λhx=>?_
  refine gR hx λhx=>?_
  exact XI
 |ic neg a x0 iha=>
  walk_at "g0";cases ef:Γ.S.gt.lookup x0 with
  |none=>
   refine vi (r:=gz) (by show ex _=_;rw[ef]) (λx hx=>?_) h
   refine vD hx λ_ _ z1 _ hx=>?_
   refine gq hx λ_ _ hx=>?_
   rw[ef]at hx;simp at hx
  |some ss=>
   refine vi (r:=sP neg ss (tr Γ a).E) (by show ex _=_;rw[ef]) (λx hx=>?_) h
   refine vD hx λ_ _ z1 _ hx=>?_
   refine gq hx λ_ _ hx=>?_
   walk_at "ga";obtain⟨⟨⟨⟨h0,rfl⟩,_⟩,h2⟩,h3⟩:=hx;obtain⟨h2,h4⟩:=gd h2;have g:=iha O W h3;cases neg with
   |true=>rw[ah rfl]at h0;subst h0;exact MV (WD O.room.units) (W.gt _ _ ef) g (O.gl _ h2) h4
   |false=>rw[ae (by decide)]at h0;subst h0;exact MV (RC O.room.units) (W.gt _ _ ef) g (O.gl _ h2) h4
 |tx x0 a iha=>
  walk_at "gE";refine qi hx λz1 _ _ hx=>?_
  refine gq hx λ_ _ hx=>?_
  walk_at "ga";obtain⟨⟨⟨rfl,h1⟩,h2⟩,h3⟩:=hx;exact Qq (W.tb _ (mem_of h1)) (iha O W h3) (Bs (c7 h3)) (O.gl _ (gd h2).1) (gd h2).2
 |tg x0 a iha=>
  walk_at "g0";cases ef:Γ.S.tt.lookup x0 with
  |none=>refine pV (r:=gz) (by show ex _=_;rw[ef]) (λx hx=>Bt) h
  |some l=>
   refine pV (r:=yA l (tr Γ a).E) (by show ex _=_;rw[ef]) (λx hx=>?_) h
   refine p6 hx λz1 _ _ z2 _ hx=>?_
   refine gq hx λ_ _ hx=>?_
   refine gf hx λ_ hx=>?_
   walk_at "ga";obtain⟨⟨⟨⟨⟨rfl,rfl⟩,_⟩,h2⟩,h3⟩,h4⟩:=hx;obtain⟨h2,h5⟩:=gd h2;exact Wf (m7 O.room) (W.tt _ _ ef) (iha O W h4) (ND rfl h3 (c7 h4)) (O.gl _ h2) h5
 |tn x0 a iha=>
  walk_at "g0";refine yF (λx hx=>by cases hx) (λx hx=>?_) h
  refine vD hx λ_ _ z1 _ hx=>?_
  refine gq hx λ_ _ hx=>?_
  walk_at "ga";obtain⟨⟨⟨⟨rfl,rfl⟩,h1⟩,h2⟩,h3⟩:=hx;obtain⟨h2,h5⟩:=gd h2;exact TQ (W.tb _ (mem_of h1)) (iha O W h3) (O.gl _ h2) h5
 |cv i a iha=>
  walk_at "gE";refine jV hx λx p es p' hx=>?_
  walk_at "ga";obtain⟨⟨h1,h2⟩,h3⟩:=hx;cases es with
  |nil=>cases h2
  |cons z es=>
   have ho:=jR h3;rw[fb,aY]at ho;exact XN Γ.ia (λq hq=>by obtain⟨fd,ps,a1,a2,a3⟩:=W.ia q hq;exact⟨fd,ps,k,O.room,a1,a2,a3⟩) (O.var h1) (iha O W h3) (gy ho.1) (rL ho.2)
 |lr a b iha ihb=>
  walk_at "gE";refine jV hx λ_ _ z1 _ hx=>?_
  refine gf hx λz2 hx=>?_
  refine jV hx λ_ _ z3 _ hx=>?_
  refine sD hx λ_ _ hx=>?_
  walk_at "ga";obtain⟨⟨⟨⟨⟨⟨⟨rfl,rfl⟩,h1⟩,h2⟩,h3⟩,h4⟩,h5⟩,h6⟩:=hx;have s1:=gy (es:=[]) (env:=X.env) (c7 h6);have s2:=λr=>gy (es:=r) (env:=X.env) (c7 h5)
  exact XG (W.bl _ (mem_of h1)) (W.bl _ (mem_of h2)) O.calm (iha O W h5) (ihb O W h6) (O.gl _ (gd h3).1) (O.gl _ (gd h4).1) (by rw[s2,s1];rfl) s1 (s2 _) s1 rfl
 |cp md tup nm cap it t e ihi iht ihe=>
  walk_at "gE";refine N2 hx λel z1 scope p hx=>?_
  refine gf hx λz2 hx=>?_
  obtain⟨tg,ite,ifs,as⟩:=z2;walk_at "ga";obtain⟨⟨⟨⟨⟨⟨⟨rfl,rfl⟩,h1⟩,h2⟩,h3⟩,h4⟩,h5⟩,h6⟩:=hx;exact XJ O (Ko h2) (Nx h1) (ihi O W h4) (λcl C s H fp=>JK (yx O h2) W iht h6) (λcl C s H fp=>ihe (yx O h2) W h5) (yt h3)
 |iv a iha=>
  walk_at "g0";refine sv (λtg x hx=>?_) h
  refine p6 hx λ_ _ _ z1 _ hx=>?_
  refine gR hx λhx=>?_
  walk_at "ga";obtain⟨⟨⟨rfl,h1⟩,h2⟩,h3⟩:=hx;exact qyP (iha O W h3) (pX (by simpa using h1)) h2
 |im a iha=>
  walk_at "g0";refine sv (λtg x hx=>?_) h
  refine p6 hx λx m ap z p hx=>?_
  refine gR hx λhx=>?_
  walk_at "ga";obtain⟨⟨⟨⟨h0,rfl⟩,h1⟩,h2⟩,h3⟩:=hx;exact Expr.Tuple.elim tg h0 λ_ _ _=>Zr (iha O W h3) (pX (by simpa using h1)) h2
 |lv md a iha=>
  walk_at "gE";refine jV hx λ_ _ z1 _ hx=>?_
  refine gf hx λz2 hx=>?_
  refine p6 hx λ_ _ _ z3 _ hx=>?_
  refine gR hx λhx=>?_
  walk_at "ga";obtain⟨⟨⟨⟨⟨⟨rfl,rfl⟩,h1⟩,h2⟩,h3⟩,h4⟩,h5⟩:=hx;exact rlv (W.bl _ (mem_of h1)) O.calm (iha O W h5) (O.gl _ (gd h2).1) (pX (by simpa using h3)) h4
 |pr i j a iha=>
  walk_at "gS";refine pZ hx λz1 z2 pos hx=>?_
  refine vU hx λz3 kt pt hx=>?_
  refine sD hx λz4 z5 hx=>?_
  refine gq hx λx px hx=>?_
  refine gq hx λy py hx=>?_
  refine vU hx λz6 k2 pt2 hx=>?_
  refine sD hx λu v hx=>?_
  simp only[aY,eQ,bne_iff_ne,ne_eq]at hx;obtain⟨⟨⟨⟨⟨⟨⟨⟨⟨⟨rfl,h1⟩,h2⟩,h3⟩,h4⟩,h5⟩,h6⟩,h7⟩,h8⟩,h9⟩,h10⟩:=hx;obtain⟨hsc,nd,hl,hf,_,hb,hk⟩:=O.fn rfl;exact QC O.calm (by rw[O.hN];exact nd) (by rw[O.hN];exact h1) (by rw[O.hN];exact h2) h3 (by rw[hsc];exact h4) (by rw[hsc];exact h5) (iha O W h10) (qxy hb (by rw[hk];exact h4) (by rw[hk];exact h5) h6 (by simpa using h7) (jR h10) ((jd _).mp h8) ((jd _).mp h9))
 |af c f o a iho iha=>
  walk_at "gS";refine qxi hx λz1 z2 _ _ hx=>?_
  refine vV hx λ_ _ _ hx=>?_
  refine qg hx λhx=>?_
  walk_at "ga";obtain⟨⟨⟨rfl,h1⟩,h2⟩,h3⟩:=hx;exact saf (W.fs _ _ (mem_of h1)).1 (W.fs _ _ (mem_of h1)).2 (iho O W h2) (iha O W h3)
 |dd d k0 ihd ihk=>
  walk_at "gS";refine qxr hx λz1 _ hx=>?_
  refine gf hx λz2 hx=>?_
  refine qi hx λ_ _ _ hx=>?_
  simp only[aY]at hx;exact XY (m7 O.room) (ihd O W hx.1) (ihk O W hx.2)
 |is a iha=>
  walk_at "g0";refine sv (λtg x hx=>?_) h
  simp only[aY]at hx;exact RJ (iha O W hx.2)
 |st a iha=>
  walk_at "g0";refine sv (λtg x hx=>?_) h
  simp only[aY]at hx;exact RI (iha O W hx.2)
 |r1 a iha=>
  walk_at "g0";refine sv (λtg x hx=>?_) h
  refine jV hx λ_ _ z1 _ hx=>?_
  refine gf hx λ_ hx=>?_
  walk_at "ga";obtain⟨⟨⟨rfl,h1⟩,h2⟩,h3⟩:=hx;have s1:=gy (es:=[]) (env:=X.env) (c7 h3);exact Zo (W.bl _ (mem_of h1)) (iha O W h3) (O.gl _ (gd h2).1) s1 s1
 |r2 a b iha ihb=>
  walk_at "g0";refine sv (λtg x hx=>?_) h
  refine jV hx λ_ _ z1 _ hx=>?_
  refine sD hx λ_ _ hx=>?_
  walk_at "ga";obtain⟨⟨⟨⟨rfl,h1⟩,h2⟩,h3⟩,h4⟩:=hx;have s1:=gy (es:=[]) (env:=X.env) (c7 h4);have s2:=λr=>gy (es:=r) (env:=X.env) (c7 h3)
  exact Xp (W.bl _ (mem_of h1)) (iha O W h3) (ihb O W h4) (O.gl _ (gd h2).1) (by rw[s2,s1];rfl) s1 (s2 _) s1
 |set i a iha=>
  walk_at "gS";refine pZ hx λz1 e p' hx=>?_
  refine gq hx λx p hx=>?_
  simp only[aY,eQ,oF]at hx;obtain⟨⟨⟨rfl,h1⟩,h2⟩,h3⟩:=hx;rcases h2 with h2|h2
  . exact O.qG h1 (iha O W h3) (rQ (c7 h3) (by simpa using h2))
  . by_cases hc:mP e=true
    . cases e<;>first|(cases hc;done)|skip
      exact O.qG h1 (iha O W h3) (qxx O h2)
    . exact O.qG h1 (iha O W h3) (rQ (c7 h3) (by simpa using hc))
 |sc i md tup nm cap it t e ihi iht ihe=>
  walk_at "gS";refine pZ hx λz1 z2 p3 hx=>?_
  refine gq hx λx p hx=>?_
  refine N2 hx λel z3 scope p2 hx=>?_
  refine gf hx λz4 hx=>?_
  obtain⟨tg,ite,ifs,as⟩:=z4;walk_at "ga";obtain⟨⟨⟨⟨⟨⟨⟨⟨⟨⟨⟨rfl,h1⟩,h2⟩,h3⟩,h4⟩,rfl⟩,h5⟩,h6⟩,h7⟩,h8⟩,h9⟩,h10⟩:=hx;exact Xy O i (Ko h6) (Nx h5) (ihi O W h8) (λcl C s H fp=>JK (yx O h6) W iht h10) (λcl C s H fp=>ihe (yx O h6) W h9) (yt h7) h1 (qxw O h2 h3 (by simpa using h4))
 |un is a iha=>
  walk_at "gS";refine pZ hx λz1 e p' hx=>?_
  refine vU hx λes j p hx=>?_
  simp only[aY]at hx;obtain⟨⟨⟨⟨rfl,h1⟩,h2⟩,h3⟩,h4⟩:=hx;have hw:swappedStores [.Tuple es j p] e X.env=pure none:=by cases e<;>first|rfl|cases h3
  exact Fb (iha O W h4) (gT O h1) (KA (c7 h4) (by simpa using h2)) hw rfl
 |sf c f o a iho iha=>
  walk_at "gS";refine pZ hx λz1 _ _ hx=>?_
  refine vV hx λ_ _ _ hx=>?_
  walk_at "ga";obtain⟨⟨⟨⟨rfl,h1⟩,h2⟩,h3⟩,h4⟩:=hx;exact ZL (W.fs _ _ (mem_of h1)).1 (W.fs _ _ (mem_of h1)).2 (iho O W h3) (iha O W h4) (rQ (c7 h4) (by simpa using h2))
 |dp d k0 a ihd ihk iha=>
  walk_at "gS";refine pZ hx λz1 _ _ hx=>?_
  refine qi hx λ_ _ _ hx=>?_
  walk_at "ga";obtain⟨⟨⟨h1,h2⟩,h3⟩,h4⟩:=hx;exact XX (m7 O.room) (ihd O W h2) (ihk O W h3) (iha O W h4) (rQ (c7 h4) (by simpa using h1))
 |sp l i a ihl ihi iha=>
  walk_at "gS";refine pZ hx λz1 _ _ hx=>?_
  refine qi hx λ_ _ _ hx=>?_
  walk_at "ga";obtain⟨⟨⟨h1,h2⟩,h3⟩,h4⟩:=hx;exact Fb (iha O W h4) (Ra (ihl O W h2) (ihi O W h3) qyt (Xj (c7 h3))) (KA (c7 h4) (by simpa using h1)) rfl rfl
 |re a iha=>
  walk_at "gS";refine Nz hx λz1 _ hx=>?_
  refine NI hx λ_ hx=>?_
  exact Qz (iha O W hx)
 |r0=>
  walk_at "gS";refine Nz hx λz1 _ hx=>?_
  refine BV hx λhx=>?_
  exact ZI
 |aV t a b iht iha ihb=>
  walk_at "gS";refine qxn hx λ_ _ _ _ hx=>?_
  walk_at "ga";obtain⟨⟨h1,h2⟩,h3⟩:=hx;exact sif (iht O W h1) (iha O W h2) (ihb O W h3)
 |fo tup is it b ihi ihb=>
  walk_at "gS";refine qxo hx λtg x y z1 p hx=>?_
  refine gR hx λhx=>?_
  simp only[aY]at hx;obtain⟨⟨⟨⟨rfl,h1⟩,h2⟩,h3⟩,h4⟩:=hx;have hp:=(O.fn rfl).2.2.2.2.1;have g3:=ihi O W h3;revert g3;cases tup with
  |true=>exact vU h2 λes _ _ h2 g3=>E9 hp O.calm g3 (gT O h2) (ihb O W h4) (yt h1)
  |false=>
   refine gq h2 λz _ h2=>?_
   exact gf h2 λi h2 g3=>E9 hp O.calm g3 (O.gN (by simpa using h2)) (ihb O W h4) (yt h1)
 |ex a iha=>
  walk_at "gS";refine qxp hx λ_ _ hx=>?_
  walk_at "ga";obtain⟨h1,h2⟩:=hx;exact ZM (iha O W h2) (rQ (c7 h2) (by simpa using h1))
 |ra=>
  intro fc N sc X O W nd h;cases nd<;>first|exact QE|exact ZK|exact aS h iQ
 |se a b iha ihb=>
  walk_at "g0";refine MZ (λx hx=>?_) h
  refine iI hx λ_ _ hx=>?_
  walk_at "ga";obtain⟨h1,h2⟩:=hx;exact ZN (t:=(tr Γ a).S) (u:=(tr Γ b).S) (iha O W h1) (ihb O W h2)
 |en=>
  walk_at "g0";refine MZ (λx hx=>?_) h
  refine gR hx λhx=>?_
  exact QD
 |sk c f a iha=>
  walk_at "gE";refine B4 hx λg es ks _ hx=>?_
  refine gq hx λx _ hx=>?_
  refine gf hx λe hx=>?_
  refine gf hx λk hx=>?_
  obtain⟨k1,k2,k3⟩:=k;simp only[aY,fU,eQ]at hx;obtain⟨⟨⟨⟨⟨⟨⟨⟨rfl,rfl⟩,hy⟩,hf⟩,hN⟩,h2⟩,h3⟩,h4⟩,h5⟩:=hx;refine qy7 (C:=λz=>ai X (.Call (.Name _ _) [e] [⟨_,z,k3⟩] _) _) hy λps b ls lp hy=>?_
  refine vV hy λe' f' _ hy=>?_
  obtain⟨hy0,hz⟩:=i9 hy;obtain rfl:=gh hy0;refine gq hz λv _ hy=>?_
  simp only[aY,fU]at hy;obtain⟨⟨rfl,hy1⟩,hy2⟩:=hy;obtain⟨an,p,rfl⟩:=qzu hy1;obtain⟨h3,h6⟩:=gd h3;obtain⟨lq,⟨cc,lc,lh⟩,lb,lg⟩:=O.lm hf hN;exact XB (iha O W h5) (W.bl _ (mem_of h2)) (O.gl _ h3) (W.fs _ _ (mem_of h4)).1 (W.fs _ _ (mem_of h4)).2 (GH hy2).1 O.room.depth lc lh lb lg rfl ((GH (an:=an) (p:=p) hy2).2 _) lq (gy (c7 h5))
structure iV where
 S:SI
 tb:Str->bT
 C:Nat->Addr
 cv:List (Addr×Nat)
 lP:Addr:=0
noncomputable def iV.G (p:iV)(f f':Nat->bV):G:=⟨p.S,p.tb,p.C,f,f',p.cv.map λq=>(q.1,f q.2),p.lP⟩
def GZ(b:G)(d:FD):bV:=λrs M Q=>rs.length=d.ps.length/\(tr b d.body).S { nx:=λ_ a=>Q .aq a,rt:=Q } (i6 d.N rs) M
def BU(p:iV)(f a:Nat->bV)(i:Nat):bV:=match p.S.fd[i]? with
 |some d=>GZ (p.G f a) d
 |none=>λ_ _ _=>False
def qm(p:iV):Nat->(Nat->bV)×(Nat->bV)
 |0=>(λ_ _ _ _=>False,λ_ _ _ _=>False)
 |n+1=>(BU p (qm p n).1 (qm p n).2,(qm p n).1)
def aw(p:iV)(n:Nat):Nat->bV:=(qm p n).1
def iV.Gn(p:iV)(n:Nat):R.G:=p.G (aw p n) (qm p n).2
theorem KC{p:iV}{n i:Nat}(h:p.S.fd[i]? =some d):aw p (n+1) i=GZ (p.Gn n) d:=by
 show BU p _ _ i=_;unfold BU;rw[h];rfl
structure jO(K:ag)(mg:bq)(S:SI)(C:Nat->Addr)(lP:Addr)(d:FD)(g:Addr)(fd:FuncData):Prop where
 ex:∃(qual:Str) (st:Stmt),(d.N=S.ln->qual++(".<locals>.":Str)++("<lambda>":Str)=S.lq/\∃cc,fd.code= .ref cc/\∀h:Heap,K.In h->PySem.W.CodeHd h cc lP)/\tH K d.name qual st g fd/\rO d.N d.ps (fP st)/\MG d.N (fP st)/\mt S true d.N (fP st) d.body (.b (pW st))=true
 bd:Binds K fd d.ps []
 k0:d.kind=0->mg d.name=some (.ref g)
 k1:d.kind=1->cI K (C d.cls)/\Meth K (C d.cls) d.name g
 k2:d.kind=2->Mk K (C d.cls) g
structure Hd(P:Program)(w:World)(K:ag)(mg:bq)(p:iV):Prop where
 bl:∀x∈p.S.bl,mg x=none
 gi:∀x i,p.S.gi.lookup x=some i->CQ mg x i
 gt:∀x l,p.S.gt.lookup x=some l->sV K mg x l
 tb:∀x∈p.S.tb,KTab P w K mg x (p.tb x)
 tt:∀x l,p.S.tt.lookup x=some l->qk P w K mg x l
 cl:∀(i:Nat) c,p.S.cl[i]? =some c->cI K (p.C i)/\mg c=some (.ref (p.C i))
 fs:∀c f,(c,f)∈p.S.fs->cI K (p.C c)/\aW K (p.C c) f
 fns:∀(i:Nat) d,p.S.fd[i]? =some d->∃g fd,jO K mg p.S p.C p.lP d g fd
 lm:∀(i:Nat) d,p.S.fd[i]? =some d->d.N=p.S.ln->mainGlobals≠p.lP/\∀h:Heap,K.In h->h.BuiltinsAt mg p.lP
 cv:∀q∈p.cv,∃d,p.S.fd[q.2]? =some d/\d.kind=0/\mg d.name=some (.ref q.1)
section
variable {P:Program}{w:World}{K:ag}{mg:bq}{p:iV}{base:Heap}
theorem K6{g:Addr}:dm P w K mg base fg k g fd ps (fG K λ_ _ _=>False) where
 len:=λvs H Q E h=>by obtain⟨rs,M,c,_,_,h,_⟩:=h;exact h.elim
 run:=λA a s H b us vs Q E _ _ _ _ h=>by obtain⟨rs,M,c,_,_,h,_⟩:=h;exact h.elim
theorem Zt{n:Nat}(H:Hd P w K mg p)(L:∀(i:Nat) d g fd,p.S.fd[i]? =some d->jO K mg p.S p.C p.lP d g fd->dm P w K mg base fg (n+1) g fd d.ps (fG K (aw p n i))/\dm P w K mg base fg n g fd d.ps (fG K ((qm p n).2 i))):Wd P w K mg base (p.Gn n) (n+1) where
 bl:=H.bl
 gi:=H.gi
 gt:=H.gt
 tb:=H.tb
 tt:=H.tt
 cl:=H.cl
 fs:=H.fs
 fn:=λi d e a=>by
  obtain⟨g,fd,F⟩:=H.fns i d e;obtain⟨q,st,_,b,_⟩:=F.ex;exact⟨g,fd,F.k0 a,b.kp,F.bd,(L i d g fd e F).1⟩
 me:=λi d e a=>by
  obtain⟨g,fd,F⟩:=H.fns i d e;exact⟨(F.k1 a).1,⟨g,fd,(F.k1 a).2,F.bd,(L i d g fd e F).1⟩⟩
 mN:=λi d e a=>by
  obtain⟨g,fd,F⟩:=H.fns i d e;exact⟨n,aN _,⟨g,fd,F.k2 a,F.bd,(L i d g fd e F).2⟩⟩
 ia:=λq h=>by
  obtain⟨q0,c,rfl⟩:=aP.mp h;obtain⟨d,e,a,f⟩:=H.cv q0 c;obtain⟨g,fd,F⟩:=H.fns q0.2 d e;have:=(F.k0 a).symm.trans f;cases this;obtain⟨q,st,_,b,_⟩:=F.ex;exact⟨fd,d.ps,b.kp,F.bd,(L q0.2 d _ fd e F).1⟩
theorem As(H:Hd P w K mg p)(kb:K.In base):∀(n:Nat) (i:Nat) d g fd,p.S.fd[i]? =some d->jO K mg p.S p.C p.lP d g fd->dm P w K mg base fg (n+1) g fd d.ps (fG K (aw p n i))/\dm P w K mg base fg n g fd d.ps (fG K ((qm p n).2 i))
 |0,i,d,g,fd,e,F=>⟨K6,K6⟩
 |n+1,i,d,g,fd,e,F=>by
  refine⟨?_,(As H kb n i d g fd e F).1⟩;rw[KC e];obtain⟨qual,st,L1,F1,S1,N1,m1⟩:=F.ex;refine ZD F1 S1 (λrs M Q h=>h.1) (λcdv hcd A outer s H0 E hr=>?_) λrs M Q h=>h.2
  have O:fM (p.Gn n) (n+1) true d.N (fP st) (oh fg P w K mg base d.N qual (fP st) g cdv A outer s H0 E).rB:=by
   refine⟨rfl,λx hx=>⟨?_,?_⟩,λx h=>h,rfl,hr,λ_=>⟨rfl,N1.nd,N1.loc,λ_=>rfl,PassesOwn.never,?_,λx=>rfl⟩,λ_ hN=>?_⟩
   . exact(N1.loc x hx).elim .inl λz=>.inr (.inl z)
   . have:=N1.iY x hx
     unfold iY;rw[this.1,this.2];rfl
   . show(if(fP st).kind.isAnnotationScope then ScopeKind.function else(fP st).kind)=_
     rw[S1.kind];rfl
   . obtain⟨l1,cc,l2,l3⟩:=L1 hN
     obtain⟨l4,l5⟩:=H.lm i d e hN;exact⟨l1,⟨cc,hcd.symm.trans l2,l3 _ kb⟩,l5 _ kb,l4⟩
  exact sound d.body O (Zt H (As H kb n)) m1
end
end R
namespace HD
open PySem PySem.W PyProof.Rows
noncomputable def Z8 (p:Program)(i:Nat):Stmt:=p.main.body.getD i (.Pass ⟨0,0,0,0⟩)
noncomputable def sub (s:Stmt)(i:Nat):Stmt:=match s with
 | .ClassDef (body:=b) ..=>b.getD i (.Pass ⟨0,0,0,0⟩)
 |s=>s
noncomputable def GQ (s:Stmt):Arguments:=match s with
 | .FunctionDef (args:=a) ..=>a
 |_=>default
def sS(s:Stmt):List Stmt:=match s with
 | .FunctionDef (body:=b) ..=>b
 |_=>[]
def GP(s:Stmt):Scope:=match s with
 | .FunctionDef (scope:=c) ..=>c
 |_=>default
noncomputable abbrev e1 (P:Params) (x:String) (t:Tok) (v:Value):DictEntry:=⟨PyData.keyHash P x,.str x t,v⟩
noncomputable abbrev eM (es:List DictEntry) (n:Nat):Obj:=⟨.type "dict",none,.dict es.toArray n,#[]⟩
noncomputable abbrev cD (vs:ak):Obj:=⟨.none,none,.fields vs.toArray,#[]⟩
noncomputable abbrev DE (vs:ak):Obj:=⟨.type "code",none,.fields vs.toArray,#[]⟩
noncomputable abbrev tup (xs:ak):Obj:=⟨.type "tuple",none,.seq xs.toArray 0,#[]⟩
noncomputable abbrev ig (n q:String) (s:Stmt) (a cd:Value):Obj:=⟨.type "function",none,.func { name:=n,qualname:=q,params:=GQ s,body:=.stmts (sS s),scope:=GP s,globals:=3,closure:=[],defaults:=.none,kwdefaults:=.none,doc:=.none,pyModule:=a,annotations:=none,code:=cd,closureTuple:=.none,builtins:=0 },#[]⟩
noncomputable abbrev jb (n q:String) (s:Stmt):Obj:=⟨.none,none,.func { name:=n,qualname:=q,params:=GQ s,body:=.stmts (sS s),scope:=GP s,globals:=0,closure:=[],defaults:=.none,kwdefaults:=.none,doc:=.none,pyModule:=.none,annotations:=none,code:=.none,closureTuple:=.none,builtins:=0 },#[]⟩
structure DF where
 n:String
 q:String
 s:Stmt
 a:Nat
 t:Nat
 l:Nat
 c:Nat
 xs:List String
 pm:Value
noncomputable def df (n q:String)(s:Stmt)(a t l c:Nat)(xs:List String)(b:Value):DF:=⟨n,q,s,a,t,l,c,xs,b⟩
noncomputable def Mm:Nat->List String->ak
 |_,[]=>[]
 |t,x::xs=>.str x t::Mm (t+1) xs
noncomputable def DF.co (d:DF):Obj:=DE [.str d.n d.t,.str d.q (d.t+1),.str "/claim/cut.py" (d.t+2),.int d.l 0,.int d.c 0,.int 0 0,.int 0 0,.int 3 0,.ref d.a,.bool true,.int 181 0,.ref (d.a+1),.none,.ref (d.a+2),.ref (d.a+3),.ref (d.a+4),.int (d.t+3+d.xs.length:Nat) 0,.int d.l 0,.str "/claim/cut.py" (d.t+4+d.xs.length)]
noncomputable def DF.fn (d:DF):Obj:=ig d.n d.q d.s d.pm (.ref (d.a+5))
noncomputable def DF.objs (d:DF):List Obj:=[tup [],cD [],tup (Mm (d.t+3) d.xs),tup [],jb d.n d.q d.s,d.co,d.fn]
noncomputable def treeOf (l:List Obj):BT:=(l.foldl (λ(x:BT×Nat) o=>(x.1.ins x.2 o,x.2+1)) (.nil,0)).1
theorem M6{tb:String->Option Builtin}{p:Program}{an:cK}{b:Nat}:∀{n m:Nat} {s s':SharedT} {t t':Thread} {r:Option (SharedT×Thread)},
 segGoT tb p w n₀ an b n s t=some (s',t')->segGoT tb p w n₀ an b m s' t'=r->segGoT tb p w n₀ an b (n+m) s t=r
 |0,m,s,s',t,t',r,h,k=>by
  simp only[segGoT,j7,Prod.mk.injEq]at h;obtain⟨rfl,rfl⟩:=h;rw[jf];exact k
 |n+1,m,s,s',t,t',r,h,k=>by
  have e:n+1+m=(n+m)+1:=by omega
  rw[e];simp only[segGoT]at h ⊢;split at h
  . cases h
  . rename_i a
    split at h
    . cases h
    . rename_i c
      split at h
      . rename_i d f hs
        exact M6 h k
      . cases h
theorem Li{tb:String->Option Builtin}{p:Program}{an:cK}{b:Nat}:∀{n m:Nat} {s s':SharedT} {t t':Thread} {r:Flow×SharedT×Code×Pos},
 segGoT tb p w n₀ an b n s t=some (s',t')->segRunT tb p w n₀ an b m s' t'=some r->segRunT tb p w n₀ an b (n+m) s t=some r
 |0,m,s,s',t,t',r,h,k=>by
  simp only[segGoT,j7,Prod.mk.injEq]at h;obtain⟨rfl,rfl⟩:=h;rw[jf];exact k
 |n+1,m,s,s',t,t',r,h,k=>by
  have e:n+1+m=(n+m)+1:=by omega
  rw[e];simp only[segGoT]at h;simp only[segRunT];split at h
  . cases h
  . rename_i a
    split at h
    . cases h
    . rename_i c
      split at h
      . rename_i d f hs
        exact Li h k
      . cases h
theorem KD{tb:String->Option Builtin}{p:Program}{an:cK}{b:Nat}(k:Nat):∀{n:Nat} {s:SharedT} {t:Thread} {r:Flow×SharedT×Code×Pos},
 segRunT tb p w n₀ an b n s t=some r->segRunT tb p w n₀ an b (n+k) s t=some r
 |0,s,t,r,h=>by cases h
 |n+1,s,t,r,h=>by
  have e:n+1+k=(n+k)+1:=by omega
  rw[e];simp only[segRunT]at h ⊢;split at h
  . exact h
  . rename_i a
    split at h
    . cases h
    . rename_i c
      split at h
      . exact KD k h
      . cases h
def Rn(p:Program)(w:World)(b:Nat)(an:cK)(c:Code)(F:List Frame)(m:Nat)(x:Sem α)(ps:Pos)(s:SharedT)(a:α)(d:Pos)(e:SharedT):Prop:=
 ∀(K:α->Sem Fin) (H:Value->Sem Fin) (lv:ak->ak),∃n,n<=m/\segGoT treeTable p w b an 1 n s ⟨x.wrap K H id lv,c,ps,F⟩=some (e,⟨K a,c,d,F⟩)
section
variable {α β:Type}{p:Program}{w:World}{n₀:Nat}{an:cK}{c:Code}{F:List Frame}{m m1 m2:Nat}{ps ps1 ps2 ps':Pos}{s s1 s2 s':SharedT}
theorem Rn.more{x:Sem α}{a:α}(h:Rn p w n₀ an c F m1 x ps s a ps' s')(e:m1<=m):Rn p w n₀ an c F m x ps s a ps' s':=λK H lv=>by
 obtain⟨n,b,h⟩:=h K H lv;exact⟨n,bQ b e,h⟩
theorem f9{a:α}:Rn p w n₀ an c F m (pure a) ps s a ps s:=λK H lv=>⟨0,jN _,rfl⟩
theorem cz{x:Sem α}{a:α}{b:β}(e:Rn p w n₀ an c F m1 x ps s a ps1 s1)(g:Rn p w n₀ an c F m2 (f a) ps1 s1 b ps2 s2):Rn p w n₀ an c F (m1+m2) (x >>= f) ps s b ps2 s2:=λK H lv=>by
 obtain⟨h,l1,e1⟩:=e (λa=>(f a).wrap K H id lv) H lv
 obtain⟨i,l2,d⟩:=g K H lv;refine⟨h+i,Nat.add_le_add l1 l2,?_⟩;rw[Sem.bind_eq_wrap',Sem.wrap_wrap];exact M6 e1 d
theorem WO{x:Sem α}{a:α}{vs:ak}(h:Rn p w n₀ an c F m x ps s a ps' s'):Rn p w n₀ an c F m (x.keep vs) ps s a ps' s':=λK H lv=>by
 obtain⟨n,l,e⟩:=h K H (λr=>lv (vs++r))
 refine⟨n,l,?_⟩;rw[Sem.keep_eq_wrap,Sem.wrap_wrap];exact e
theorem uK{x:Sem α}{a:α}{vs:ak}(h:Rn p w n₀ an c F m x ps s a ps' s'):Rn p w n₀ an c F m (holding vs x) ps s a ps' s':=by
 unfold holding;split
 . exact h
 . exact WO h
theorem jv{x:Sem α}{a:α}{n:Nat}(h:∀(K:α->Sem Fin) (H:Value->Sem Fin) (lv:ak->ak),segGoT treeTable p w n₀ an 1 n s ⟨x.wrap K H id lv,c,ps,F⟩=some (s',⟨K a,c,ps',F⟩)):Rn p w n₀ an c F n x ps s a ps' s':=
 λK H lv=>⟨n,aN _,h K H lv⟩
theorem mapOf{f g:α->β}:∀{l:List α},l.map f=l.map g->∀i∈l,f i=g i:=λh=>List.map_inj_left.mp h
theorem XC{b:Type}{l:List b}{g:b->Nat}{x:b->Sem α}{a:α}(h:∀(K:α->Sem Fin) (H:Value->Sem Fin) (lv:ak->ak),l.map (λi=>segGoT treeTable p w n₀ an 1 (g i) s ⟨(x i).wrap K H id lv,c,ps,F⟩)=l.map λ_=>some (s',⟨K a,c,ps',F⟩)):∀i∈l,Rn p w n₀ an c F (g i) (x i) ps s a ps' s':=
 λi hi=>jv λK H lv=>mapOf (h K H lv) i hi
theorem A9{b:β}:∀{xs:List α},(∀x∈xs,Rn p w n₀ an c F m (f x b) ps s (.yield b) ps s)->Rn p w n₀ an c F (m*xs.length) (forIn xs b f) ps s b ps s
 | [],_=>by rw[List.forIn_nil];exact f9
 |x::xs,h=>by
  rw[tj];have a:=h x (iR ..);have d:=A9 (xs:=xs) λy g=>h y (gv _ g)
  have e:m*(x::xs).length=m+m*xs.length:=by rw[cQ,Nat.mul_succ,Nat.add_comm]
  rw[e];exact cz a d
end
section
variable {p:Program}{w:World}{n₀:Nat}{an:cK}{c:Code}{F:List Frame}{ps:Pos}{s:SharedT}{m L:Nat}
theorem TC{a:Addr}{st:ak}(b:st.length<=L)(d:Rn p w n₀ an c F m (eqIsQuiet 8 (.ref a)) ps s true ps s)
 (hs:∀v∈st,Rn p w n₀ an c F m (eqIsQuiet 8 v) ps s true ps s):Rn p w n₀ an c F (m+m*L) (tableMayTell (.ref a) st) ps s false ps s:=by
 unfold tableMayTell;split
 . exact f9
 . refine Rn.more (cz d (m2:=m*st.length) ?_) (Nat.add_le_add_left (Nat.mul_le_mul_left _ b) _)
   rw[ae (by decide)]
   refine Rn.more (cz (m2:=0) (A9 (m:=m) λv e=>?_) ?_) (aN _)
   . refine Rn.more (cz (m2:=0) (hs v e) ?_) (aN _)
     rw[ae (by decide)]
     exact f9
   . exact f9
theorem find_none{d a:Addr}{es:Array DictEntry}(hL:es.size<=L)(rn_rule:∀t,Rn p w n₀ an c F 1 (rule t) ps s () ps s)
 (hd:Rn p w n₀ an c F 1 (dictEntries d none) ps s es ps s) (he:Rn p w n₀ an c F 1 (dictEpoch d none) ps s ep ps s)
 (hq:Rn p w n₀ an c F m (eqIsQuiet 8 (.ref a)) ps s true ps s)
 (hk:∀e∈es.toList,(∃b:Addr,e.key= .ref b/\b≠a)/\Rn p w n₀ an c F m (eqIsQuiet 8 e.key) ps s true ps s/\Rn p w n₀ an c F m (eqBool e.key (.ref a)) ps s false ps s):
 Rn p w n₀ an c F (1+((m+m*L)+(m+3)*L)) (dictFind d (.ref a) h) ps s none ps s:=by
 unfold dictFind;refine uK ?_;dsimp only[keyPart];refine cz hd ?_;have hp:∀i∈placesWithHash es.size (λi=>Option.map (λx=>x.hash) es[i]?) h,i<es.size:=λi hi=>by
  unfold placesWithHash at hi;exact jL.mp (eR.mp hi).1
 have hpl:(placesWithHash es.size (λi=>Option.map (λx=>x.hash) es[i]?) h).length<=L:=by
  unfold placesWithHash;refine bQ (kc _ _) ?_;rw[zP];exact hL
 generalize placesWithHash es.size (λi=>Option.map (λx=>x.hash) es[i]?) h=places at hp hpl ⊢
 have hst:∀v∈List.filterMap (λi=>Option.map (λx=>x.key) es[i]?) places,∃e∈es.toList,v=e.key:=λv hv=>by
  obtain⟨i,hi,e⟩:=wB.mp hv;obtain⟨x,hx,rfl⟩:=Option.map_eq_some_iff.mp e;exact⟨x,Array.mem_toList_iff.mpr (Array.mem_of_getElem? hx),rfl⟩
 have hsl:(List.filterMap (λi=>Option.map (λx=>x.key) es[i]?) places).length<=L:=bQ (List.length_filterMap_le _ _) hpl
 generalize List.filterMap (λi=>Option.map (λx=>x.key) es[i]?) places=stored at hst hsl ⊢
 have hno:∀e∈es.toList,(e.key==Value.ref a)=false:=λe h1=>by
  obtain⟨⟨b,h2,h3⟩,_⟩:=hk e h1;rw[h2];exact oB.mpr λq=>h3 (Value.ref.inj q)
 rw[ae (by simp[carriedByValue])]
 rw[ae (by
  rw[<-Array.any_toList,Bool.not_eq_true,List.any_eq_false];intro e h1;rw[hno e h1];simp)]
 rw[ae (by
  intro q;have q:=gh q;obtain⟨e,h1,h2⟩:=hst (.ref a) (by rw[q];exact iR ..)
  have:=hno e h1;rw[<-h2]at this;simp at this)]
 refine cz (TC hsl hq λv hv=>?_) ?_
 . obtain⟨e,h1,rfl⟩:=hst v hv
   exact(hk e h1).2.1
 rw[ae (by simp)]
 refine Rn.more (cz (m2:=0) (A9 (m:=m+3) λi hi=>?_) ?_) (Nat.mul_le_mul_left _ hpl)
 . have hi':=hp i hi
   have hg:es[i]? =some es[i]:=Array.getElem?_eq_getElem hi';rw[hg];dsimp only;split
   . obtain⟨_,_,hb⟩:=hk es[i] (Array.mem_toList_iff.mpr (Array.getElem_mem hi'))
     refine Rn.more (cz he (cz (m2:=2) hb (cz (m2:=1) he ?_))) (by omega)
     rw[ae (by simp),ae (by decide)]
     refine Rn.more (cz (m2:=0) (rn_rule _) ?_) (aN _);rw[ae (by simp)]
     exact f9
   . exact f9
 . exact f9
end
section
variable {α β:Type}{p:Program}{w:World}{n₀:Nat}{an:cK}{c:Code}{F:List Frame}{ps ps1 ps2:Pos}{s s1 s2:SharedT}{m m1 m2 m3 mf mu:Nat}
theorem VP{i:Int}(a:∀t,Rn p w n₀ an c F 1 (rule t) ps s () ps s):Rn p w n₀ an c F 1 (pyHashByItsType.reduced i) ps s (reduceHash i) ps s:=by
 unfold pyHashByItsType.reduced reduceHash;split
 . exact f9
 . exact Rn.more (cz (m2:=0) (a _) f9) (aN _)
theorem VO{a:Addr}{i:Int}{t:Tok}(f:∀x,Rn p w n₀ an c F 1 (rule x) ps s1 () ps s1)(d:Rn p w n₀ an c F m1 (cRoomFor "hash" [.ref a]) ps s () ps s)
 (b:Rn p w n₀ an c F m2 (specialOf (.ref a) "__hash__") ps s (some (.builtin "tuple.__hash__")) ps s)
 (e:∀E,Rn p w n₀ an c F m3 (callSpecialIfBoundUnlessNone? (.ref a) "__hash__" E) ps s (some (.int i t)) ps s1):Rn p w n₀ an c F (m1+(m2+(m2+(m3+1)))) (pyHash (.ref a)) ps s (reduceHash i) ps s1:=by
 unfold pyHash;dsimp only;unfold pyHashByItsType;refine cz d (cz b ?_);rw[ae (by decide)]
 refine cz b ?_;rw[ae (by decide)]
 refine cz (e _) ?_;exact VP f
theorem V7{d a:Addr}{v:Value}(f:∀x,Rn p w n₀ an c F 1 (rule x) ps s1 () ps s1)(e:Rn p w n₀ an c F m1 (pyHash (.ref a)) ps s h ps s1)(b:Rn p w n₀ an c F mf (dictFind d (.ref a) h) ps s1 none ps s1)
 (g:Rn p w n₀ an c F mu (updateDictKeys d (λx=>x.push ⟨h,.ref a,v⟩) none) ps s1 () ps s2):Rn p w n₀ an c F (m1+(mf+(1+mu))) (dictSet d (.ref a) v) ps s () ps s2:=by
 unfold dictSet;refine uK (cz e ?_);unfold dictSetHashed;refine uK (cz b ?_);exact cz (f _) g
theorem Wg{x:α}{b:β}(a:Rn p w n₀ an c F m1 (f x b) ps s (.yield b) ps1 s1)(d:Rn p w n₀ an c F m2 (forIn xs b f) ps1 s1 b ps2 s2):Rn p w n₀ an c F (m1+m2) (forIn (x::xs) b f) ps s b ps2 s2:=by
 rw[tj];exact cz a d
theorem WN{b:β}:Rn p w n₀ an c F 0 (forIn [] b f) ps s b ps s:=by
 rw[List.forIn_nil];exact f9
theorem Z3{x y:Sem α}{a:α}(e:x=y)(h:Rn p w n₀ an c F m y ps s a ps1 s1):Rn p w n₀ an c F m x ps s a ps1 s1:=e ▸ h
end
section
theorem Wz{q:Program}{loose i:aB}{Xt:Shared->Bool}{h:Heap}{d:Drawn}{k:Nat}{os:OsState}
 (a:PyProof.Rows.seen (List.map (λx=>x.name) (recsOf q)) (ownsOf q) [] ⟨h,#[],d,k,os⟩=expectedOf q) (b:h.bltView=bltViewBooted)
 (c:h.keysOk (looseW q loose) (List.map (λx=>x.name) (recsOf q)) (List.map (λx=>x.fst) (litsOf q)) (List.map (λx=>x.name) (clssOf q (looseW q loose)))=true)
 (l:h.accountedOkI i=true) (j:(h.isNs mainGlobals&&h.isNs builtinsNs)=true) (m:tablesOk q h=true) (n:Xt ⟨h,#[],d,k,os⟩=true)
 (e:tabsOk q ⟨h,#[],d,k,os⟩=true) (f:pinSeenD q (drecsOf q) ⟨h,#[],d,k,os⟩=pinGoodD (drecsOf q)) (g:plainSeenE q (looseW q loose) ⟨h,#[],d,k,os⟩=plainGoodE q (looseW q loose)) (o:plainSeenD q loose ⟨h,#[],d,k,os⟩=plainGoodD q loose)
 (r:wideSeen q ⟨h,#[],d,k,os⟩=wideGood q) (s:clsSeenW q loose ⟨h,#[],d,k,os⟩=clsGoodW q loose):openSeen q loose i Xt true ⟨h,#[],d,k,os⟩=openGood q loose:=by
 rw[aY]at j;unfold openSeen openGood;dsimp only;rw[a,b,c,l,j.1,j.2,m,n,e,f,g,o,r,s];rfl
end
end HD
namespace R
open PySem PySem.Spec PyProof.Rows L2
def Ca:Stmt->Bool
 | .FunctionDef ..=>true
 |_=>false
structure FA where
 n:String
 q:String
 s:Stmt
 g:Addr
 c:Addr
 pm:Value
noncomputable def FA.fn (D:FA):Obj:=HD.ig D.n D.q D.s D.pm (.ref D.c)
noncomputable def fdOf (D:FA):FuncData:=PySem.W.fnOf D.n D.q (L8 D.s) (pW D.s) (fP D.s) .none .none .none D.pm none (.ref D.c) .none
theorem qy2{D:FA}(h:Ca D.s=true):D.fn=⟨.type "function",none,.func (fdOf D),#[]⟩:=by
 unfold FA.fn fdOf;cases e:D.s<;>rw[e]at h<;>first|rfl|cases h
theorem Y1{K:ag}{D:FA}(h:Ca D.s=true)(l:K.lookup D.g=some D.fn)(c:PySem.W.codeIn K (.ref D.c) D.q=true)(k:PySem.W.keepIn K (.ref D.g)=true):tH K D.n D.q D.s D.g (fdOf D):=
 ⟨⟨_,_,_,_,_,_,_,_,_,rfl,by rw[l,qy2 h],c⟩,k⟩
def Ck(o:Option NameKind):Bool:=match o with
 |some .local=>true
 |some .cell=>true
 |_=>false
theorem WJ(h:Ck o=true):o=some .local∨o=some .cell:=by
 unfold Ck at h;split at h
 . exact .inl rfl
 . exact .inr rfl
 . cases h
def qy0:NameKind->Bool
 | .free=>false
 |_=>true
noncomputable def Bz (N ps:aB)(sc:Scope):Bool:=(match sc.kind with| .function=>true|_=>false)&& !sc.isCoroutine&& !sc.isGenerator&&decide N.Nodup&&decide (N.take ps.length=ps)&&sc.names.all (λy=>qy0 y.2)&&N.all (λx=>Ck (sc.names.lookup x)&& !(x==("__debug__":Str))&& !(x==("__classdict__":Str)))
theorem Vs{sc:Scope}(h:Bz N ps sc=true):rO N ps sc/\MG N sc:=by
 unfold Bz at h;simp only[aY,jd,fU,dw]at h;obtain⟨⟨⟨⟨⟨⟨d,e⟩,f⟩,b⟩,c⟩,g⟩,a⟩:=h;have l:∀x∈N,sc.names.lookup x=some .local∨sc.names.lookup x=some .cell:=λx hx=>WJ (a x hx).1.1
 refine⟨⟨?_,e,f,b,c,λx hx=>l x ?_,λy i=>?_⟩,⟨b,l,λx hx=>⟨(a x hx).1.2,(a x hx).2⟩⟩⟩
 . revert d;cases sc.kind<;>simp
 . rw[<-c]at hx;exact List.mem_of_mem_take hx
 . have:=g y i
   intro z;rw[z]at this;cases this
def sR:Option (cK)->Bool
 |some none=>true
 |_=>false
theorem Ly(h:sR o=true):o=some none:=by
 unfold sR at h;split at h
 . rfl
 . cases h
noncomputable def zv (i:Int):Option (cK)->Bool
 |some (some (.int j _))=>j==i
 |_=>false
theorem Xm{i:Int}(h:zv i o=true):∃t,o=some (some (.int i t)):=by
 unfold zv at h;split at h
 . rename_i j t;exact⟨t,by rw[gh h]⟩
 . cases h
def oo(a:Addr):Option (cK)->Bool
 |some (some (.ref b))=>b==a
 |_=>false
theorem vk{a:Addr}(h:oo a o=true):o=some (some (.ref a)):=by
 unfold oo at h;split at h
 . rw[gh h]
 . cases h
noncomputable def Cm:Option (cK)->Bool
 |some (some (.builtin "object.__setattr__"))=>true
 |_=>false
theorem Xn(h:Cm o=true):o=some (some (.builtin "object.__setattr__")):=by
 unfold Cm at h;split at h
 . rfl
 . cases h
noncomputable def yR:aB->ak->Bool
 | [],[]=>true
 |x::xs,.str y _::ys=>(x==y)&&yR xs ys
 |_,_=>false
theorem Lf:∀{a:aB} {vs:ak},yR a vs=true->Vals (a.map V.str) vs
 | [],[],_=>.nil
 |x::xs,.str y t::ys,h=>by
  unfold yR at h;rw[aY]at h;cases gh h.1;exact .cons ⟨t,rfl⟩ (Lf h.2)
noncomputable def zd (K:ag)(b:aB):Option (cK)->Bool
 |some (some (.ref a))=>match K.lookup a with
  |some ⟨.type "tuple",_,.seq ab _,_⟩=>decide (ab.size<=100)&&yR b ab.toList
  |_=>false
 |_=>false
theorem X3{K:ag}{x:Str}(X:K.In h)(G:h.Ns mainGlobals mg)(e:zd K ss (PySem.W.nsIn K mainGlobals x)=true):sV K mg x ss:=by
 unfold zd at e;split at e
 . rename_i a b
   split at e
   . rename_i ab n d sl c
     rw[aY,fU]at e;exact Wk (nG X G b) c (bQ e.1 (by decide)) (Lf e.2)
   . cases e
 . cases e
noncomputable def qx (K:ag)(C:Addr):Bool:=wG K C Str.empty&&zN K C&&PySem.W.plainOver K C&&Cm (PySem.W.findIn K (.ref C) "__setattr__")
theorem BM{K:ag}(h:qx K C=true):cI K C:=by
 unfold qx at h;simp only[aY]at h;exact⟨h.1.1.1,h.1.1.2,h.1.2,Xn h.2⟩
noncomputable def yw (K:ag)(c P:Addr):Bool:=match K.lookup c with
 |some ⟨.type "code",_,.fields (vs:Array Value),_⟩=>(match(vs[11]?:cK)with|some (.ref b)=>b==P|_=>false)&&(match vs.getD 18 .none with| .str _ _=>true|_=>false)&&(match vs.getD 7 .none with| .int _ _=>true|_=>false)&&(match vs.getD 9 .none with| .bool _=>true|_=>false)&&(match vs.getD 10 .none with| .int _ _=>true|_=>false)&& !(c==P)
 |_=>false
theorem Kq{K:ag}{c P:Addr}(e:yw K c P=true)(X:K.In h):PySem.W.CodeHd h c P:=by
 unfold yw at e;split at e
 . rename_i d vs sl t
   simp only[aY]at e;obtain⟨⟨⟨⟨⟨e1,f⟩,g⟩,i⟩,j⟩,r⟩:=e;have y:c≠P:=by simpa using r
   split at e1
   . rename_i b k
     have a:b=P:=gh e1;subst a;have s:vs.getD 11 .none= .ref b:=by simp only[Array.getD_eq_getD_getElem?];rw[k];rfl
     split at f
     . rename_i l z u
       split at g
       . rename_i m A v
         split at i
         . rename_i n w
           split at j
           . rename_i o C x
             exact⟨_,vs,l,z,m,A,n,o,C,X _ _ t,rfl,rfl,k,s,u,v,w,x,y⟩
           . cases j
         . cases i
       . cases g
     . cases f
   . cases e1
 . cases e
noncomputable def Ae (K:ag)(a:Addr):Bool:=match PySem.W.nsIn K mainGlobals "__builtins__" with
 |some (some (.ref bm))=>!(bm==builtinsNs)&& !(bm==mainGlobals)&& !(bm==a)&&(match K.lookup bm with
  |some ⟨.type "module",some n,.plain,_⟩=>n==builtinsNs
  |_=>false)
 |_=>false
theorem qzo{K:ag}(b:K.In h0)(G:h0.Ns mainGlobals mg)(e:Ae K lP=true)(X:K.In h):h.BuiltinsAt mg lP:=by
 unfold Ae at e;split at e
 . rename_i c g
   simp only[aY]at e;obtain⟨⟨⟨e1,d⟩,f⟩,a⟩:=e;split at a
   . rename_i n sl i
     cases gh a;exact⟨c,_,nG b G g,by simpa using e1,by simpa using d,by simpa using f,X _ _ i,rfl,rfl,rfl⟩
   . cases a
 . cases e
noncomputable def GG (K:ag)(S:SI)(a:Addr)(d:FD)(D:FA):Bool:=!(decide (d.N=S.ln))||(decide ((D.q:Str)++(".<locals>.":Str)++("<lambda>":Str)=S.lq)&&yw K D.c a)
noncomputable def sS (K:ag)(S:SI)(C:Nat->Addr)(a:Addr)(d:FD)(D:FA):Bool:=GG K S a d D&&Ca D.s&&PySem.W.codeIn K (.ref D.c) D.q&&PySem.W.keepIn K (.ref D.g)&&Bz d.N d.ps (fP D.s)&&decide (d.name=(D.n:Str))&&
 (match d.kind with
  |0=>oo D.g (PySem.W.nsIn K mainGlobals d.name)
  |1=>qx K (C d.cls)&&oo D.g (PySem.W.findIn K (.ref (C d.cls)) d.name)&&PySem.W.isFn K (.ref D.g)
  |2=>PySem.W.makesIn K (C d.cls)&&oo D.g (PySem.W.findIn K (.ref (C d.cls)) "__init__")&&PySem.W.isFn K (.ref D.g)&&PySem.W.keepIn K (.ref (C d.cls))
  |_=>false)
theorem Zs{K:ag}{S:SI}(X:K.In h)(G:h.Ns mainGlobals mg)(b:sS K S C lP d D=true)(l:K.lookup D.g=some D.fn)(m:mt S true d.N (fP D.s) d.body (.b (pW D.s))=true)
 (c:∀us:ak,us.length=d.ps.length->bindArgs (fdOf D) ⟨us,[]⟩=pure (d.ps.zip us)):jO K mg S C lP d D.g (fdOf D):=by
 unfold sS at b;simp only[aY,fU]at b;obtain⟨⟨⟨⟨⟨⟨b0,b1⟩,b2⟩,b3⟩,b4⟩,b5⟩,b6⟩:=b;obtain⟨e,f⟩:=Vs b4;have lm:d.N=S.ln->(D.q:Str)++(".<locals>.":Str)++("<lambda>":Str)=S.lq/\∃a,(fdOf D).code= .ref a/\∀h:Heap,K.In h->PySem.W.CodeHd h a lP:=λz=>by
  unfold GG at b0;rw[z]at b0;simp only[decide_true,Bool.not_true,Bool.false_or,aY,fU]at b0;exact⟨b0.1,D.c,rfl,λh X=>Kq b0.2 X⟩
 refine⟨⟨D.q,D.s,lm,b5 ▸ Y1 b1 l b2 b3,e,f,m⟩,.all c,λk=>?_,λk=>?_,λk=>?_⟩
 . rw[k]at b6;exact nG X G (vk b6)
 . rw[k]at b6
   simp only[aY]at b6;exact⟨BM b6.1.1,⟨vk b6.1.2,b6.2,b3⟩⟩
 . rw[k]at b6
   simp only[aY]at b6;exact⟨b6.1.1.1,vk b6.1.1.2,b6.1.2,b6.2⟩
theorem rV{l:List α}(h:l.all f=true){x:α}(hx:x∈l):f x=true:=dw.mp h x hx
theorem BK{f g:α->β}:∀{l:List α},l.map f=l.map g->∀{x:α},x∈l->f x=g x
 |y::l,h,x,hx=>by
  rw[bU,bU]at h;injection h with a b
  rcases fw.mp hx with rfl|hx
  . exact a
  . exact BK b hx
theorem lookup_mem{x:Str}:∀{l:List (Str×β)},l.lookup x=some y->(x,y)∈l
 |(k,z)::l,h=>by
  unfold List.lookup at h;split at h
  . rename_i e
    cases h;rw[gh e];exact .head _
  . exact .tail _ (lookup_mem h)
def xo(l:List (Str×Addr)):bT:=l.map λp=>(.inr p.1,.ref p.2)
def Dp(l:List (Str×Addr)):List (Key×V):=l.map λp=>(.inr p.1,.ref p.2)
theorem GI:∀l:List (Str×Addr),KV (Dp l) ((l.map λp=>(p.1,Value.ref p.2)).map λp=>((Sum.inr p.1:Key),p.2))
 | []=>.nil
 |(x,a)::r=>.cons ⟨rfl,rfl⟩ (GI r)
theorem Mp{K:ag}:∀l:List (Str×Addr),aF K H (xo l) (Dp l)
 | []=>rfl
 |p::r=>⟨V.ref p.2,Dp r,rfl,by simp only[Rep],Mp r⟩
theorem UW{P:Program}{K:ag}{x:Str}{a:Addr}{l:List (Str×Addr)}
 (c:mg x=some (.ref a)) (lk:K.lookup a=some ⟨.type "dict",none,.dict es ep,#[]⟩) (b:(a==sysModules)=false) (e:vQ w es.toList (l.map λp=>(p.1,Value.ref p.2))) (d:(l.map Prod.fst).Nodup):KTab P w K mg x (xo l):=
 Ls c lk b e (by rw[bR];exact d) ⟨rfl,rfl,rfl⟩ (GI l) λH=>Mp l
theorem qyV{P:Program}{K:ag}{p:iV}(X:K.In h)(G:h.Ns mainGlobals mg)
 (bl:(p.S.bl.all λx=>sR (PySem.W.nsIn K mainGlobals x))=true) (gi:(p.S.gi.all λx=>zv x.2 (PySem.W.nsIn K mainGlobals x.1))=true) (gt:(p.S.gt.all λx=>zd K x.2 (PySem.W.nsIn K mainGlobals x.1))=true)
 (cl:(p.S.cl.zipIdx.all λx=>qx K (p.C x.2)&&oo (p.C x.2) (PySem.W.nsIn K mainGlobals x.1))=true) (fs:(p.S.fs.all λx=>qx K (p.C x.1)&&sR (PySem.W.findIn K (.ref (p.C x.1)) x.2))=true)
 (tb:∀x∈p.S.tb,KTab P w K mg x (p.tb x)) (tt:∀x l,p.S.tt.lookup x=some l->qk P w K mg x l) (j:∀d∈p.S.fd,∃g fd,jO K mg p.S p.C p.lP d g fd) (lm:∀(i:Nat) d,p.S.fd[i]? =some d->d.N=p.S.ln->mainGlobals≠p.lP/\∀h:Heap,K.In h->h.BuiltinsAt mg p.lP)
 (cv:∀q∈p.cv,∃d,p.S.fd[q.2]? =some d/\d.kind=0/\oo q.1 (PySem.W.nsIn K mainGlobals d.name)=true):Hd P w K mg p where
 bl:=λx hx=>PySem.W.mg_none_of X G (Ly (rV bl hx))
 gi:=λx i hx=>by
  obtain⟨t,e⟩:=Xm (rV gi (lookup_mem hx));exact⟨t,nG X G e⟩
 gt:=λx l hx=>X3 X G (rV gt (lookup_mem hx))
 tb:=tb
 tt:=tt
 cl:=λi c hi=>by
  have:=rV cl (x:=(c,i)) (List.mk_mem_zipIdx_iff_getElem?.mpr hi);rw[aY]at this;exact⟨BM this.1,nG X G (vk this.2)⟩
 fs:=λc f hx=>by
  have:=rV fs hx;rw[aY]at this;exact⟨BM this.1,Ly this.2⟩
 fns:=λi d hi=>j d (jH hi)
 lm:=lm
 cv:=λq k=>by
  obtain⟨d,a,b,c⟩:=cv q k;exact⟨d,a,b,nG X G (vk c)⟩
noncomputable def gY (K:ag)(S:SI)(C:Nat->Addr)(a:Addr)(n:Nat)(l:List (FD×FA)):Bool:=l.all λx=>sS K S C a x.1 x.2&&decide (x.1.ps.length=n)&&mt S true x.1.N (fP x.2.s) x.1.body (.b (pW x.2.s))
def GV:Nat->(ak->Prop)->Prop
 |0,p=>p []
 |n+1,p=>∀v,GV n λl=>p (v::l)
theorem gQ:∀{n:Nat} {p:ak->Prop},GV n p->∀us,us.length=n->p us
 |0,_,h,[],_=>h
 |_+1,_,h,v::us,e=>gQ (h v) us (Nat.succ.inj e)
abbrev uT(l:List (FD×FA))(n:Nat):Prop:=∀us:ak,us.length=n->l.map (λx=>bindArgs (fdOf x.2) ⟨us,[]⟩)=l.map λx=>pure (x.1.ps.zip us)
abbrev gJ(K:ag)(l:List (FD×FA)):Prop:=l.map (λx=>K.lookup x.2.g)=l.map λx=>some x.2.fn
noncomputable def fD (d:HD.DF):FA:=⟨d.n,d.q,d.s,d.a+6,d.a+5,d.pm⟩
theorem il{K:ag}{S:SI}{n:Nat}{l:List (FD×FA)}(X:K.In h)(G:h.Ns mainGlobals mg)(b:gY K S C lP n l=true)(k:gJ K l)(u:uT l n):∀x∈l,jO K mg S C lP x.1 x.2.g (fdOf x.2):=λx hx=>by
 have:=rV b hx;simp only[aY,fU]at this;exact Zs X G this.1.1 (BK k hx) this.2 λus a=>BK (u us (a.trans this.1.2)) hx
theorem Y2{K:ag}{S:SI}{l:List (FD×FA)}(e:S.fd=l.map (·.1))(h:∀x∈l,jO K mg S C lP x.1 x.2.g (fdOf x.2)):∀d∈S.fd,∃g fd,jO K mg S C lP d g fd:=λd a=>by
 rw[e]at a;obtain⟨x,hx,rfl⟩:=aP.mp a;exact⟨_,_,h x hx⟩
theorem i5{P:α->Prop}{a b:List α}(c:∀x∈a,P x)(d:∀x∈b,P x):∀x∈a++b,P x:=λx hx=>(eS.mp hx).elim (c x) (d x)
section
variable {P:Program}{w:World}{K:ag}{mg:bq}
def Al:TK->ak->Bool
 | [],[]=>true
 |k::ks,v::vs=>zt k v&&Al ks vs
 |_,_=>false
theorem Lb:∀{k:TK} {l:ak},Al k l=true->ItemsAre (optKind P w) k l
 | [],[],_=>.nil
 |_::_,_::_,h=>.cons (i9 h).1 (Lb (i9 h).2)
 | [],_::_,h=>by cases h
 |_::_,[],h=>by cases h
def GK(y:Str):Value->Bool
 | .str z _=>y==z
 |_=>false
noncomputable def Cf:List (TK×Str)->List (TK×Addr×Value)->Bool
 | [],[]=>true
 |(k,y)::r,(k',_,v)::r'=>decide (k=k')&&GK y v&&Cf r r'
 |_,_=>false
theorem Mg:∀{l:List (TK×Str)} {xs:List (TK×Addr×Value)},Cf l xs=true->wm l xs
 | [],[],_=>trivial
 |(k,y)::r,(k',_,v)::r',h=>by
  obtain⟨b,c⟩:=i9 h;obtain⟨d,a⟩:=i9 b;refine⟨j9 d,?_,Mg c⟩;cases v<;>first|(cases a;done)|skip
  rename_i z t;exact⟨t,by rw[show y=z by simpa[GK]using a]⟩
 | [],_::_,h=>by cases h
 |_::_,[],h=>by cases h
def oA(ks:List (Option Str)):TK:=ks.map (Option.map Sum.inr)
noncomputable def zc (kt:List (List (Option Str)))(vt:ak)(a:Addr):List (TK×Addr×Value):=(List.range kt.length).map λk=>(oA (kt.getD k []),a+1+k,vt.getD k .none)
theorem US{x:Str}{a:Addr}{kt:List (List (Option Str))}{vt:ak}{tk:List (ak)}{hx:Option Str->Int}(h:mg x=some (.ref a))(l:K.lookup a=some D)(d:(a==sysModules)=false)
 (c:D=⟨.type "dict",none,.dict ((List.range kt.length).map λk=>(⟨reduceHash (Builtin.Tuple.tupleHashOf ((kt.getD k []).map hx)),.ref (a+1+k),vt.getD k .none⟩:DictEntry)).toArray kt.length,#[]⟩) (g:∀o:Option Str,hx o=xr w (o.map Sum.inr))
 (j:((List.range kt.length).map λk=>K.lookup (a+1+k))=(List.range kt.length).map λk=>some (HD.tup (tk.getD k [])))
 (f:((List.range kt.length).all λk=>Al (oA (kt.getD k [])) (tk.getD k []))=true) (i:((zc kt vt a).map (·.1)).Nodup) (m:Cf kvs (zc kt vt a)=true):qk P w K mg x kvs:=by
 subst c;refine UT (xs:=zc kt vt a) h l d ⟨rfl,rfl,rfl⟩ ?_ (λy n=>?_) i (Mg m)
 . unfold zc
   rw[bR];refine nv λk _=>?_
   have e:(kt.getD k []).map hx=(oA (kt.getD k [])).map (xr w):=by unfold oA;rw[bR];exact nv λo _=>g o
   show(⟨reduceHash (Builtin.Tuple.tupleHashOf ((kt.getD k []).map hx)),_,_⟩:DictEntry)=_;rw[e];rfl
 . obtain⟨k,b,rfl⟩:=aP.mp n
   exact⟨_,_,_,List.map_inj_left.mp j k b,rfl,rfl,Lb (dw.mp f k b)⟩
end
theorem U9{x y:Str}{t l:α}(h:List.lookup x [(y,t)]=some l):x=y/\l=t:=by
 rw[nE]at h
 by_cases z:x=y
 . subst z;rw[beq_self_eq_true]at h;cases h;exact⟨rfl,rfl⟩
 . rw[show(x==y)=false by simpa using z]at h;cases h
open PySem.W
noncomputable def sG (P:Addr)(pos:Pos)(q:Str):RM:=λb=>if b=P then some (.tb P pos q)else none
theorem K2{P:Addr}{q:Str}:sG P pos q P=some (.tb P pos q):=ah rfl
theorem U8{P b:Addr}{q:Str}(h:b≠P):sG P pos q b=none:=ae h
theorem T9{K:Frag}{Y a T c:Addr}{q:Str}{x:Str}{sp:bV}{f:Shared}{vs:ak}{ns:List Int}
 (KX:K.In f.heap) (hT:K.lookup T=none) (gT:f.heap.get? T=some (tabObj #[])) (C:CodeHd f.heap c T) (Q:f.heap.Ns mainGlobals mg) (g:f.heap.Ns builtinsNs mb) (hbb:∀x:Str,x≠"__name__"->mb x=bootBuiltins x) (O:f.heap.NoLimit) (hg:f.gens= #[])
 (I:f.heap.get? a=some { cls:=.type "list",data:=.seq vs.toArray }) (hi:IntsAre vs ns) (hl:ns.length<=sizeLine) (hr:aJ k callerA)
 (F:∀l:Heap,K.In l->l.Ns mainGlobals mg->dm PR w K mg l fg k Y fd [x] (fG K sp)) (E:∀s u,BindsTo s fd ⟨[u],[]⟩ [(x,u)])
 (hsp:sp [.ls (ns.map RV.int)] (sG T pos q) λv U=>v= .bl true/\U T=some (.tb T pos q)):
 codeAny (model PR w) callerA (.call (.ref Y) ⟨[.ref a],[]⟩) (λr t=>r= .ok (.ret (.bool true))/\OldK f.heap t.heap/\t.os=f.os/\AllBare t.gens) f:=by
 have rv:=L2.bC hi;have R:=hi.length;have X:a≠T:=λz=>by rw[z,gT]at I;cases I
 have A:∀H:Hp,H T=some (.ext (fS T pos none))->Fz K H a (ns.map V.int)->cJ PR w H f.heap->(∀b,H b≠none->b=T∨b=a/\∃o u,H a=some (.aZ o u))->(H a≠none->K.lookup a=none)->
  codeAny (model PR w) callerA (.call (.ref Y) ⟨[.ref a],[]⟩) (λr t=>r= .ok (.ret (.bool true))/\OldK f.heap t.heap/\t.os=f.os/\AllBare t.gens) f:=by
  intro H hHT hS av hA hK;have nd:∀{b:Addr} {o:Obj} {M:Array DictEntry} {L:Nat},f.heap.get? b=some o->o.data= .dict M L->H b=none:=λ{b o M L} e d=>by
   cases z:H b with
   |none=>rfl
   |some u=>
    rcases hA b (by rw[z];simp)with y|⟨y,_⟩
    . rw[y,gT]at e;cases e;cases d
    . rw[y,I]at e;cases e
      have d':Data.seq vs.toArray _=Data.dict M L:=d;cases d'
  have n:∀{b:Addr} {m:bq},f.heap.Ns b m->(iK f.heap H).Ns b m:=λ{b m} ⟨o,M,L,e,d,r⟩=>⟨o,M,L,AY e (nd e d),d,r⟩
  have N:K.In (iK f.heap H):=λb o e=>AY (KX b o e) (by
   cases z:H b with
   |none=>rfl
   |some u=>
    rcases hA b (by rw[z];simp)with y|⟨y,_⟩
    . rw[y,hT]at e;cases e
    . rw[y,hK (by rw[<-y,z];simp)]at e;cases e)
  have hM:Mod K mg (iK f.heap H):=⟨N,n Q,⟨mb,n g,hbb⟩,let⟨mc,h1,h2⟩:=O;⟨mc,n h1,h2⟩⟩;have e0:fW PR w K mg (iK f.heap H) callerA [] f H:=⟨rfl,hM,λb o e=>LL e,Nat.le_of_eq (Kk _ _),trivial,λb g=>aS (show b∈([]:List Addr)from g) (by simp),av,.of_eq hg⟩
  have up:fG K sp [.ref a] H (λv W=>v= .bl true/\∃o,W T=some (.ext (fS T pos o))) λ_ _ _=>False:=by
   refine⟨[.ls (ns.map RV.int)],sG T pos q,λv U=>v= .bl true/\U T=some (.tb T pos q),aa.cons (by simp only[Rep];exact⟨a,_,rfl,hS,AL ns⟩) aa.nil,λb o e=>?_,hsp,λrv U v W z _ w' r=>?_⟩
   . by_cases g:b=T
     . subst g;rw[K2]at e;cases e;exact⟨_,hHT,.inl rfl⟩
     . rw[U8 g]at e;cases e
   . obtain⟨rfl,z⟩:=z
     obtain⟨ho,e1,e2⟩:=w' T _ z;simp only[Rep]at r;rcases e2 with rfl|⟨c',_,_,_,rfl,_⟩
     . exact⟨r,none,e1⟩
     . exact⟨r,some c',e1⟩
  refine codeAny_mono ((F _ N (n Q)).run callerA [] f H ⟨[.ref a],[]⟩ [.ref a] [.ref a] _ _ hr e0 (E f (.ref a)) (.cons rfl .nil) up) λr t h=>?_
  cases r with
  |error e=>exact False.elim h
  |ok fl=>
   cases fl with
   |next=>exact False.elim h
   |brk=>exact False.elim h
   |cont=>exact False.elim h
   |ret u=>
    obtain⟨v,W,os,J,un,D,r',q',o,hT'⟩:=h;subst q';obtain rfl:u=Value.bool true:=r';have Z:fS T pos o t.heap:=(D T _ hT').1;refine⟨rfl,⟨λb ob e=>?_,λb ob e=>un.there b ob e (by simp)⟩,os,J⟩
    cases z:H b with
    |none=>exact .inl (un.keep b ob e z (by intro z;exact aS (show b∈([]:List Addr)from z) (by simp)) (by simp))
    |some u=>
     rcases hA b (by rw[z];simp)with rfl|⟨rfl,ob',u',j⟩
     . rw[gT]at e;cases e
       refine .inr (.inl ⟨(C.tab gT).isCodeTable,rfl,#[],match o with|none=>#[]|some c=>#[rawInt pos.line,rawInt pos.col,.ref c],rfl,?_⟩)
       cases o<;>exact Z
     . have z2:=un.aK b ob' u' j
       have e1:=(av b _ j).1;rw[e]at e1;cases e1;exact .inl (D b _ z2).1
 cases hk:K.lookup a with
 |some o=>
  have e:=KX a o hk;rw[I]at e;cases e;refine A (λb=>if b=T then some (.ext (fS T pos none))else none) (ah rfl) (.inr ⟨_,vs.toArray,_,hk,rfl,rfl,rfl,by rw[dW,R];exact hl,by simpa using rv⟩) (λb u z=>?_) (λb z=>?_) λz=>aS (ae X) z
  . by_cases g:b=T
    . subst g;have j:=(ah rfl).symm.trans z;cases j;exact Bx gT
    . have j:=(ae g).symm.trans z;cases j
  . by_cases g:b=T
    . exact .inl g
    . exact aS (ae g) z
 |none=>
  refine A (λb=>if b=T then some (.ext (fS T pos none))else if b=a then some (.aZ { cls:=.type "list",data:=.seq vs.toArray } (.lst (ns.map V.int)))else none) (ah rfl) (.inl ⟨_,(ae X).trans (ah rfl)⟩) (λb u z=>?_) (λb z=>?_) λ_=>hk
  . by_cases g:b=T
    . subst g;have j:=(ah rfl).symm.trans z;cases j;exact Bx gT
    . by_cases i:b=a
      . have j:=((ae g).trans (ah i)).symm.trans z
        cases j;subst i;exact⟨I,by rw[ba];exact hl,vs,_,rv,I⟩
      . have j:=((ae g).trans (ae i)).symm.trans z;cases j
  . by_cases g:b=T
    . exact .inl g
    . by_cases i:b=a
      . exact .inr ⟨i,_,_,(ae X).trans (ah rfl)⟩
      . exact aS ((ae g).trans (ae i)) z
theorem jK{l:OpenLaw}{n k:Nat}{q:Program}{loose:aB}{d:DefRec}{K:Params->Frag}{sp:bV}{x:Str}{T c:Addr}
 (U:l.most=some n) (A:n<=sizeLine) (y:d.params.defaults= []) (W:aJ k callerA)
 (N:∀w h,YP w h->(K w.params).In h/\h.get? T=some (tabObj #[])) (M:∀p,(K p).lookup T=none) (J:∀p h,(K p).In h->CodeHd h c T)
 (F:∀w i m h,(K w.params).In h->h.Ns mainGlobals i->i d.name=some (.ref m)->
  ∃t:FuncData,(∀s u,BindsTo s t ⟨[u],[]⟩ [(x,u)])/\
   ∀b:Heap,(K w.params).In b->b.Ns mainGlobals i->dm l.prog w (K w.params) i b fg k m t [x] (fG (K w.params) sp))
 (C:∀ns:List Int,ns.length<=n->sp [.ls (ns.map RV.int)] (sG T pos lq) λv H=>v= .bl true/\H T=some (.tb T pos lq)):
 WalkO q loose XP YP l.row.toRowW d [] (λf vs=>PySem.call f vs):=by
 refine Att.dZ U y λw D E i mb m o pm cd I a vs ns G Y Z X Q z j g e R=>?_
 obtain⟨r,gT⟩:=N w _ Y;obtain⟨t,O,L⟩:=F w i m _ r G.T.g z;exact T9 r (M _) gT (J _ _ r) G.T.g G.T.b G.T.builtins G.T.nolimit R j g (bQ e A) W L O (C ns e)
end R
namespace H12
open PySem PySem.W PyProof.Rows HD
variable(P:Params)
abbrev p:=PySem.Challenge.pw_lentgate_k12_told_as_lost
abbrev body:=behindTheImports p
abbrev top(i:Nat):Stmt:=Z8 p i
noncomputable def env:Env:={ scope:=p.main.scope,locals:=mainNs,globals:=mainNs,cells:=[],code:=.ref 13,frame:=some 14 }
def cd:Code:=.body body env
def ann:cK:=some (.ref 6)
def q0:Pos:=⟨0,0,0,0⟩
noncomputable def B:List Frame:=[topFrame q0]
abbrev wf(w:World)(b:Bool):World:=w.withFollow "special-get-raises" b
noncomputable section
abbrev DV:Value:=.str "__main__" 164
abbrev eX:Value:=.str "lentgate.ends" 194
abbrev rD:Value:=.str "lentgate.forms" 475
abbrev rF:Value:=.str "lentgate.lines" 565
abbrev jo:Value:=.str "lentgate.rules" 711
abbrev gM:Value:=.str "lentgate.pool" 794
abbrev d8:Value:=.str "lentgate.talks" 894
abbrev cw:Value:=.str "lentgate.gate" 1101
abbrev jq:Value:=.str "law_lentgate_k12_told_as_lost" 1436
noncomputable def cO (n q:Str)(a:Nat)(L k f:Int)(r:Nat)(b:Bool)(z:Value):Obj:=DE [.str n a,.str q (a+1),.str "/claim/cut.py" (a+2),.int L 0,.int k 0,.int 0 0,.int 0 0,.int f 0,.ref r,.bool b,.int 181 0,.ref (r+1),.none,.none,.none,z,.int ((a+3:Nat):Int) 0,.int L 0,.str "/claim/cut.py" (a+4)]
noncomputable def cC (n:Str)(a:Nat)(L:Int)(r:Nat):Obj:=cO n n a L 0 0 r false .none
noncomputable def cF (n q:Str)(a:Nat)(L k:Int)(r:Nat):Obj:=cO n q a L k 3 r true (.ref (r+2))
noncomputable def mJ (b:Nat)(v:Value):Obj:=⟨.type "frame",none,.plain,#[some (.ref (b+3)),some (.ref 3),some (.ref b),none,some v,none,some (.ref 0)]⟩
noncomputable def DC (n:Str)(bs rs:ak)(k:Nat)(c:ak)(x:cK)(a b:Nat)(w:String):Obj:=⟨.type "type",none,.cls { name:=n,bases:=bs,mro:=.ref (k+1)::rs,ns:=k,qualname:=n,hasDict:=true,slotNames:=[],subclasses:=c,abstract:=false,collection:=none,hasDel:=false },#[x,none,some (.str n a),some (.str n b),some (.builtin w),some (.bool true)]⟩
noncomputable def tP (n:Str)(k a:Nat):Obj:=DC n [.type "object"] [.type "object"] k [] none a (a+8) "object.__new__"
noncomputable def oO (n:Str)(b:Value)(rs:ak)(k:Nat)(c:ak)(x a:Nat):Obj:=DC n [b] (rs++ [.type "ValueError",.type "Exception",.type "BaseException",.type "object"]) k c (some (.ref x)) a (a+8) "ValueError.__new__"
noncomputable def gD (t r:Nat):Obj:=⟨.type "getset_descriptor",none,.fields #[.str "__dict__" t,.ref r,.builtin "function.__dict__",.builtin "function.__dict__#set"],#[]⟩
noncomputable def gW (t r:Nat):Obj:=⟨.type "getset_descriptor",none,.fields #[.str "__weakref__" t,.ref r,.builtin "ExceptionGroup.__weakref__",.none],#[]⟩
noncomputable def sU (r:Nat):Obj:=⟨.type "super",none,.fields #[.ref r,.ref r,.ref r],#[]⟩
noncomputable def iS (r:Nat):Obj:=⟨.type "builtin_function_or_method",none,.fields #[.builtin "object.__init_subclass__",.ref r],#[]⟩
noncomputable def DU (c:Int)(l:List (Int×Nat)):ak:=l.flatMap λx=>[.int x.1 0,.int c 0,.ref x.2]
noncomputable def t7 (l:List (Int×Nat)):Obj:=⟨.none,none,.fields (DU 4 l).toArray,#[]⟩
noncomputable def rE (l:List (String×Nat×Nat)):List DictEntry:=l.map λx=>e1 P x.1 x.2.1 (.ref x.2.2)
noncomputable def nB (v:Value)(n:Str)(t:Nat)(L:Int)(l:List (String×Nat×Nat))(a b:Nat):Obj:=eM ([e1 P "__module__" t v,e1 P "__qualname__" (t+2) (.str n (t+1)),e1 P "__firstlineno__" (t+4) (.int L (t+3))]++rE P l++ [e1 P "__static_attributes__" a (.ref b)]) (l.length+4)
noncomputable def nA (v:Value)(t:Nat)(L:Int)(l:List (String×Nat×Nat))(a b:Nat)(es:List DictEntry)(k:Nat):Obj:=eM ([e1 P "__module__" t v,e1 P "__firstlineno__" (t+4) (.int L (t+3))]++rE P l++ [e1 P "__static_attributes__" a (.ref b)]++es) k
noncomputable def nF (v:Value)(t:Nat)(L:Int)(l:List (String×Nat×Nat))(a b:Nat):Obj:=nA P v t L l a b [e1 P "__dict__" (a+2) (.ref (b+3)),e1 P "__weakref__" (a+4) (.ref (b+4)),e1 P "__doc__" (a+5) .none] 4
noncomputable def ns:List DictEntry:=[e1 P "__name__" 165 jq,e1 P "__doc__" 166 (.none),e1 P "__package__" 167 (.none),e1 P "__loader__" 168 (.builtin "__main__.__loader__#opaque"),e1 P "__spec__" 169 (.none),e1 P "__annotations__" 170 (.ref 6),e1 P "__builtins__" 171 (.ref 4),e1 P "__file__" 173 (.str "/claim/cut.py" 172),e1 P "__cached__" 174 (.none),e1 P "_wall" 193 (.ref 21),e1 P "GREATEST_HOUSE" 197 (.int 99 196),e1 P "GREATEST_DOOR" 199 (.int 9999 198),e1 P "GREATEST_PLACE" 201 (.int 1000000 200),e1 P "GREATEST_TICKS" 203 (.int 1000000 202),e1 P "GREATEST_RULE" 205 (.int 1000000 204),e1 P "MOST_SIGNS" 207 (.int 40 206),e1 P "FIRST_SIGN" 209 (.int 32 208),e1 P "LAST_SIGN" 211 (.int 126 210),e1 P "PERCENT_SIGN" 213 (.int 37 212),e1 P "KINDS" 216 (.ref 22),e1 P "NOTE_WORDS" 218 (.ref 23),e1 P "LINE_WORDS" 223 (.ref 24),e1 P "is_whole" 230 (.ref 31),e1 P "is_whole_within" 239 (.ref 38),e1 P "is_house" 246 (.ref 45),e1 P "is_door" 253 (.ref 52),e1 P "is_place" 260 (.ref 59),e1 P "is_outer_place" 267 (.ref 66),e1 P "is_ticks" 274 (.ref 73),e1 P "is_kind" 281 (.ref 80),e1 P "is_word" 289 (.ref 87),e1 P "is_sign" 297 (.ref 94),e1 P "is_text" 303 (.ref 99),e1 P "is_letter" 312 (.ref 106),e1 P "is_out" 326 (.ref 113),e1 P "is_come" 339 (.ref 120),e1 P "is_lost" 351 (.ref 127),e1 P "is_wait" 358 (.ref 134),e1 P "is_rule" 370 (.ref 141),e1 P "is_unrule" 377 (.ref 148),e1 P "DEEDS" 390 (.ref 149),e1 P "name_of" 397 (.ref 156),e1 P "is_deed" 406 (.ref 163),e1 P "GateError" 426 (.ref 173),e1 P "NoForm" 442 (.ref 186),e1 P "NoDeed" 458 (.ref 198),e1 P "NoRule" 474 (.ref 210),e1 P "LENDINGS" 480 (.ref 213),e1 P "SIEVES" 484 (.ref 214),e1 P "PICKS" 487 (.ref 215),e1 P "WIDEST_STEP" 489 (.int 199 488),e1 P "GREATEST_MOST" 491 (.int 200 490),e1 P "GREATEST_TIME" 493 (.int 1000000 492),e1 P "TIME_AT" 512 (.ref 216),e1 P "is_pool" 520 (.ref 223),e1 P "is_times" 526 (.ref 228),e1 P "is_form" 541 (.ref 235),e1 P "holder_of" 555 (.ref 242),e1 P "time_of" 564 (.ref 249),e1 P "LINE_STEPS" 677 (.ref 250),e1 P "BREAKABLE" 683 (.ref 265),e1 P "note_state" 691 (.ref 272),e1 P "line_state" 700 (.ref 279),e1 P "next_state" 710 (.ref 286),e1 P "Rules" 793 (.ref 338),e1 P "Pool" 893 (.ref 411),e1 P "Talk" 930 (.ref 432),e1 P "Talks" 1100 (.ref 552),e1 P "talk_row" 1114 (.ref 563),e1 P "Gate" 1435 (.ref 765),e1 P "_law_cell" 1445 (.ref 776),e1 P "_law_well" 1453 (.ref 783),e1 P "_law_take" 1464 (.ref 790),e1 P "_law_wide" 1476 (.ref 797),e1 P "_law_bag_at" 1485 (.ref 804),e1 P "_law_a_world" 1491 (.ref 809),e1 P "_law_lost" 1514 (.ref 816),e1 P "_law_wrote" 1533 (.ref 823),e1 P "_law_came" 1551 (.ref 830),e1 P "law" 1557 (.ref 835)]
noncomputable def tb:ak:=DU 0 [(1,20),(17,30),(19,37),(21,44),(23,51),(25,58),(27,65),(29,72),(31,79),(33,86),(37,93),(40,98),(44,105),(46,112),(51,119),(56,126),(61,133),(63,140),(70,147),(73,155),(77,162),(84,169),(86,182),(88,194),(90,206),(100,222),(102,227),(107,234),(116,241),(124,248),(130,271),(134,278),(138,285),(143,292),(171,348),(215,421),(222,442),(305,562),(308,569),(479,775),(483,782),(487,789),(497,796),(502,803),(508,808),(512,815),(533,822),(545,829),(554,834)]
noncomputable abbrev Ah:=df "_wall" "_wall" (top 0) 15 187 1 1 ["k"] DV
noncomputable abbrev xa:=df "is_whole" "is_whole" (top 14) 25 224 17 1 ["thing"] eX
noncomputable abbrev xb:=df "is_whole_within" "is_whole_within" (top 15) 32 231 19 3 ["thing","least","greatest"] eX
noncomputable abbrev xc:=df "is_house" "is_house" (top 16) 39 240 21 1 ["thing"] eX
noncomputable abbrev xf:=df "is_door" "is_door" (top 17) 46 247 23 1 ["thing"] eX
noncomputable abbrev xg:=df "is_place" "is_place" (top 18) 53 254 25 1 ["thing"] eX
noncomputable abbrev xh:=df "is_outer_place" "is_outer_place" (top 19) 60 261 27 1 ["thing"] eX
noncomputable abbrev xi:=df "is_ticks" "is_ticks" (top 20) 67 268 29 1 ["thing"] eX
noncomputable abbrev xj:=df "is_kind" "is_kind" (top 21) 74 275 31 1 ["thing"] eX
noncomputable abbrev xk:=df "is_word" "is_word" (top 22) 81 282 33 2 ["kind","thing"] eX
noncomputable abbrev xl:=df "is_sign" "is_sign" (top 23) 88 290 37 1 ["sign","at"] eX
noncomputable abbrev km:=df "is_letter" "is_letter" (top 25) 100 304 44 3 ["kind","word","text"] eX
noncomputable abbrev kn:=df "is_out" "is_out" (top 26) 107 313 46 1 ["parts","kind","house","door","place","far","word","text"] eX
noncomputable abbrev kq:=df "is_come" "is_come" (top 27) 114 327 51 1 ["parts","kind","place","far","number","word","text"] eX
noncomputable abbrev kr:=df "is_lost" "is_lost" (top 28) 121 340 56 1 ["parts","teller","kind","number","place","far"] eX
noncomputable abbrev ku:=df "is_wait" "is_wait" (top 29) 128 352 61 1 ["parts"] eX
noncomputable abbrev kA:=df "is_rule" "is_rule" (top 30) 135 359 63 1 ["parts","kind","number","place","house","door"] eX
noncomputable abbrev oQ:=df "is_unrule" "is_unrule" (top 31) 142 371 70 1 ["parts"] eX
noncomputable abbrev kC:=df "name_of" "name_of" (top 33) 150 391 73 1 ["thing"] eX
noncomputable abbrev kD:=df "is_deed" "is_deed" (top 34) 157 398 77 1 ["thing","name","has_parts"] eX
noncomputable abbrev kE:=df "is_pool" "is_pool" (top 48) 217 513 100 2 ["low","high"] rD
noncomputable abbrev kF:=df "is_form" "is_form" (top 50) 229 527 107 1 ["thing","low","high","lending","sieve","pick","most","renew","times"] rD
noncomputable abbrev kG:=df "holder_of" "holder_of" (top 51) 236 542 116 2 ["form","inner","kind","house","door","place","far","lending"] rD
noncomputable abbrev kH:=df "time_of" "time_of" (top 52) 243 556 124 2 ["form","state","times"] rD
noncomputable abbrev kI:=df "note_state" "note_state" (top 56) 266 684 130 2 ["state","word"] rF
noncomputable abbrev kJ:=df "line_state" "line_state" (top 57) 273 692 134 3 ["state","side","word"] rF
noncomputable abbrev kK:=df "next_state" "next_state" (top 58) 280 701 138 4 ["kind","state","side","word"] rF
noncomputable abbrev kL:=df "__init__" "Rules.__init__" (sub (top 60) 0) 294 725 145 1 ["self"] jo
noncomputable abbrev kM:=df "tell" "Rules.tell" (sub (top 60) 1) 301 732 149 6 ["self","kind","number","place","house","door","told"] jo
noncomputable abbrev oT:=df "stands" "Rules.stands" (sub (top 60) 2) 308 745 155 2 ["self","k"] jo
noncomputable abbrev oU:=df "drop" "Rules.drop" (sub (top 60) 3) 315 753 158 2 ["self","k"] jo
noncomputable abbrev kN:=df "door_for" "Rules.door_for" (sub (top 60) 4) 322 761 161 4 ["self","kind","number","place","rule_kind","rule_number","rule_place","house","door","fits_place"] jo
noncomputable abbrev oW:=df "listed" "Rules.listed" (sub (top 60) 5) 329 777 168 1 ["self"] jo
noncomputable abbrev kO:=df "__init__" "Pool.__init__" (sub (top 62) 0) 350 808 173 3 ["self","low","high"] gM
noncomputable abbrev kQ:=df "has" "Pool.has" (sub (top 62) 1) 357 817 180 2 ["self","number"] gM
noncomputable abbrev kU:=df "is_free" "Pool.is_free" (sub (top 62) 2) 364 825 183 3 ["self","number","moment"] gM
noncomputable abbrev kW:=df "from_mark" "Pool.from_mark" (sub (top 62) 3) 371 834 188 1 ["self"] gM
noncomputable abbrev kX:=df "picked" "Pool.picked" (sub (top 62) 4) 378 841 191 4 ["self","pick","door","moment","number"] gM
noncomputable abbrev kY:=df "take" "Pool.take" (sub (top 62) 5) 385 852 199 2 ["self","number"] gM
noncomputable abbrev kZ:=df "give" "Pool.give" (sub (top 62) 6) 392 860 205 3 ["self","number","until"] gM
noncomputable abbrev k7:=df "__init__" "Talk.__init__" (sub (top 64) 0) 423 908 217 5 ["self","inner","number","state","over"] d8
noncomputable abbrev k8:=df "__init__" "Talks.__init__" (sub (top 65) 0) 444 943 224 2 ["self","form"] d8
noncomputable abbrev k9:=df "of_inner" "Talks.of_inner" (sub (top 65) 1) 451 951 233 2 ["self","inner"] d8
noncomputable abbrev lj:=df "of_outer" "Talks.of_outer" (sub (top 65) 2) 458 959 236 5 ["self","kind","number","place","far"] d8
noncomputable abbrev lu:=df "living" "Talks.living" (sub (top 65) 4) 470 976 244 1 ["self"] d8
noncomputable abbrev oX:=df "is_living" "Talks.is_living" (sub (top 65) 5) 477 983 247 2 ["self","talk"] d8
noncomputable abbrev lx:=df "number_of" "Talks.number_of" (sub (top 65) 6) 484 991 250 2 ["self","inner"] d8
noncomputable abbrev oY:=df "holder_at" "Talks.holder_at" (sub (top 65) 7) 491 999 253 2 ["self","number"] d8
noncomputable abbrev oZ:=df "lent_until" "Talks.lent_until" (sub (top 65) 9) 503 1013 259 2 ["self","number"] d8
noncomputable abbrev lz:=df "lend" "Talks.lend" (sub (top 65) 10) 510 1021 262 3 ["self","number","inner","holder"] d8
noncomputable abbrev lA:=df "end_lend" "Talks.end_lend" (sub (top 65) 11) 517 1031 268 3 ["self","number","moment"] d8
noncomputable abbrev lD:=df "begin" "Talks.begin" (sub (top 65) 12) 524 1040 273 4 ["self","inner","number","state","kind","house","door","place","far","talk"] d8
noncomputable abbrev lE:=df "lead" "Talks.lead" (sub (top 65) 13) 531 1056 281 3 ["self","talk","state"] d8
noncomputable abbrev lF:=df "end" "Talks.end" (sub (top 65) 14) 538 1065 288 3 ["self","talk","moment","kind","house","door","place","far","number"] d8
noncomputable abbrev lG:=df "talk_row" "talk_row" (top 67) 557 1103 305 1 ["talk","kind","house","door","place","far"] cw
noncomputable abbrev lJ:=df "__init__" "Gate.__init__" (sub (top 68) 0) 571 1127 310 2 ["self","form"] cw
noncomputable abbrev lL:=df "deed" "Gate.deed" (sub (top 68) 1) 578 1135 319 2 ["self","deed","answer"] cw
noncomputable abbrev lM:=df "out" "Gate.out" (sub (top 68) 2) 585 1144 326 8 ["self","kind","house","door","place","far","word","text"] cw
noncomputable abbrev lQ:=df "come" "Gate.come" (sub (top 68) 3) 592 1158 329 7 ["self","kind","place","far","number","word","text"] cw
noncomputable abbrev lR:=df "lost" "Gate.lost" (sub (top 68) 4) 599 1171 332 6 ["self","teller","kind","number","place","far"] cw
noncomputable abbrev lS:=df "wait" "Gate.wait" (sub (top 68) 5) 606 1183 335 2 ["self","ticks"] cw
noncomputable abbrev lU:=df "rule" "Gate.rule" (sub (top 68) 6) 613 1191 338 6 ["self","kind","number","place","house","door"] cw
noncomputable abbrev o6:=df "unrule" "Gate.unrule" (sub (top 68) 7) 620 1203 341 2 ["self","k"] cw
noncomputable abbrev lV:=df "moment" "Gate.moment" (sub (top 68) 8) 627 1211 344 1 ["self"] cw
noncomputable abbrev lW:=df "free" "Gate.free" (sub (top 68) 9) 634 1218 347 1 ["self"] cw
noncomputable abbrev lX:=df "rests" "Gate.rests" (sub (top 68) 12) 651 1237 356 1 ["self"] cw
noncomputable abbrev o7:=df "rules" "Gate.rules" (sub (top 68) 13) 658 1244 359 1 ["self"] cw
noncomputable abbrev o8:=df "book" "Gate.book" (sub (top 68) 14) 665 1251 362 1 ["self"] cw
noncomputable abbrev lY:=df "answered" "Gate.answered" (sub (top 68) 15) 672 1258 365 3 ["self","name","parts","kind","place","far","number","word","text"] cw
noncomputable abbrev lZ:=df "sent" "Gate.sent" (sub (top 68) 16) 679 1273 380 2 ["self","parts","kind","house","door","place","far","word","text","answer","number"] cw
noncomputable abbrev ma:=df "lead_out" "Gate.lead_out" (sub (top 68) 17) 686 1290 388 3 ["self","inner","word","talk","state"] cw
noncomputable abbrev mh:=df "begin_out" "Gate.begin_out" (sub (top 68) 18) 693 1301 398 3 ["self","inner","state","number"] cw
noncomputable abbrev ml:=df "picked_for" "Gate.picked_for" (sub (top 68) 19) 700 1311 410 2 ["self","door","pool","now"] cw
noncomputable abbrev mm:=df "come_in" "Gate.come_in" (sub (top 68) 20) 707 1321 416 6 ["self","kind","place","far","number","word","talk"] cw
noncomputable abbrev mn:=df "lead_in" "Gate.lead_in" (sub (top 68) 21) 714 1334 424 3 ["self","talk","word","kind","house","door","place","far","state","renew"] cw
noncomputable abbrev o9:=df "sifted" "Gate.sifted" (sub (top 68) 22) 721 1350 434 4 ["self","kind","place","number","holder"] cw
noncomputable abbrev pb:=df "lets_note_in" "Gate.lets_note_in" (sub (top 68) 23) 728 1361 442 3 ["self","place","number","sieve"] cw
noncomputable abbrev mq:=df "come_by_rule" "Gate.come_by_rule" (sub (top 68) 24) 735 1371 446 6 ["self","kind","place","far","number","word","to","house","door","state","inner"] cw
noncomputable abbrev mv:=df "told_lost" "Gate.told_lost" (sub (top 68) 25) 742 1388 460 2 ["self","parts","teller","kind","number","place","far","talk"] cw
noncomputable abbrev mw:=df "rule_told" "Gate.rule_told" (sub (top 68) 26) 749 1402 467 2 ["self","parts","kind","number","place","house","door"] cw
noncomputable abbrev pd:=df "rule_dropped" "Gate.rule_dropped" (sub (top 68) 27) 756 1415 473 2 ["self","k"] cw
noncomputable abbrev mx:=df "_law_cell" "_law_cell" (top 70) 770 1438 479 2 ["script","k"] jq
noncomputable abbrev mz:=df "_law_well" "_law_well" (top 71) 777 1446 483 2 ["cell","turn"] jq
noncomputable abbrev mB:=df "_law_take" "_law_take" (top 72) 784 1454 487 2 ["bag","many","found","p","n"] jq
noncomputable abbrev mC:=df "_law_wide" "_law_wide" (top 73) 791 1465 497 3 ["bag","lending","sieve","low","times","pick"] jq
noncomputable abbrev mD:=df "_law_bag_at" "_law_bag_at" (top 74) 798 1477 502 2 ["cells","k","bag"] jq
noncomputable abbrev mE:=df "_law_lost" "_law_lost" (top 76) 810 1492 512 3 ["bag","gate","world","doors","places","fars","rows","kind","outer","bend","row","same","teller","due","looks","found","again"] jq
noncomputable abbrev mF:=df "_law_wrote" "_law_wrote" (top 77) 817 1515 533 4 ["bag","own","gate","world","doors","places","fars","kind","house","door","place","far","found"] jq
noncomputable abbrev mG:=df "_law_came" "_law_came" (top 78) 824 1534 545 5 ["bag","own","gate","world","beyond","doors","places","fars","kind","place","far","found"] jq
noncomputable def v7:Obj:=tup []
def v13:Obj:=cC "<module>" 182 1 11
noncomputable def v14:Obj:=⟨.type "frame",none,.plain,#[some (.ref 13),some (.ref 3),some (.ref 3),none,some DV,none,some (.ref 0)]⟩
noncomputable def OI:Obj:=tup [.str "note" 214,.str "line" 215]
noncomputable def OJ:Obj:=tup [.str "say" 217]
noncomputable def OK:Obj:=tup [.str "open" 219,.str "say" 220,.str "close" 221,.str "break" 222]
noncomputable def v8:Obj:=⟨.none,none,.fields #[],#[]⟩
noncomputable def Qa:Obj:=jb "is_text" "is_text" (top 24)
def E6:Obj:=cF "is_text" "is_text" 298 40 1 95
noncomputable def E5:Obj:=ig "is_text" "is_text" (top 24) eX (.ref 98)
def qK:Obj:=eM (rE P [("out",378,113),("come",379,120),("lost",380,127),("wait",381,134),("rule",382,141),("unrule",383,148)]) 6
noncomputable def E4:Obj:=tup [.type "ValueError"]
noncomputable def fR:Obj:=⟨.type "builtin_function_or_method",none,.fields #[.builtin "type.__prepare__",.type "type"],#[]⟩
def E3:Obj:=nB P (.str "lentgate.errors" 407) "GateError" 416 84 [] 421 171
def FJ:Obj:=cC "GateError" 411 84 167
def FI:Obj:=mJ 166 (.str "lentgate.errors" 407)
def FH:Obj:=nA P (.str "lentgate.errors" 407) 416 84 [] 421 171 [e1 P "__weakref__" 423 (.ref 174),e1 P "__doc__" 424 (.none)] 3
def P9:Obj:=oO "GateError" (.type "ValueError") [] 172 [] 164 409
def FG:Obj:=gW 422 173
def FF:Obj:=sU 173
def FE:Obj:=iS 173
def P8:Obj:=oO "GateError" (.type "ValueError") [] 172 [.ref 186] 164 409
noncomputable def sL:Obj:=tup [.ref 173]
def FC:Obj:=nB P (.str "lentgate.errors" 407) "NoForm" 434 86 [] 439 184
def Fy:Obj:=cC "NoForm" 429 86 180
def Fx:Obj:=mJ 179 (.str "lentgate.errors" 407)
def Fw:Obj:=nA P (.str "lentgate.errors" 407) 434 86 [] 439 184 [e1 P "__doc__" 440 (.none)] 2
def Fv:Obj:=oO "NoForm" (.ref 173) [.ref 173] 185 [] 177 427
def Fu:Obj:=sU 186
def Ft:Obj:=iS 186
def P7:Obj:=oO "GateError" (.type "ValueError") [] 172 [.ref 186,.ref 198] 164 409
def Fs:Obj:=nB P (.str "lentgate.errors" 407) "NoDeed" 450 88 [] 455 196
def Fq:Obj:=cC "NoDeed" 445 88 192
def Fp:Obj:=mJ 191 (.str "lentgate.errors" 407)
def Fo:Obj:=nA P (.str "lentgate.errors" 407) 450 88 [] 455 196 [e1 P "__doc__" 456 (.none)] 2
def Fn:Obj:=oO "NoDeed" (.ref 173) [.ref 173] 197 [] 189 443
def Fl:Obj:=sU 198
def Fj:Obj:=iS 198
def Fi:Obj:=oO "GateError" (.type "ValueError") [] 172 [.ref 186,.ref 198,.ref 210] 164 409
def Fh:Obj:=nB P (.str "lentgate.errors" 407) "NoRule" 466 90 [] 471 208
def Fg:Obj:=cC "NoRule" 461 90 204
def Ff:Obj:=mJ 203 (.str "lentgate.errors" 407)
def Fe:Obj:=nA P (.str "lentgate.errors" 407) 466 90 [] 471 208 [e1 P "__doc__" 472 (.none)] 2
def Fd:Obj:=oO "NoRule" (.ref 173) [.ref 173] 209 [] 201 459
def Gp:Obj:=sU 210
def Gm:Obj:=iS 210
noncomputable def Gk:Obj:=tup [.str "door" 477,.str "place" 478,.str "talk" 479]
noncomputable def Gj:Obj:=tup [.str "all" 481,.str "place" 482,.str "talk" 483]
noncomputable def Gi:Obj:=tup [.str "next" 485,.str "keep" 486]
noncomputable def qL:Obj:=eM [e1 P "note" 494 (.int 0 495),e1 P "asked" 496 (.int 1 497),e1 P "called" 498 (.int 1 499),e1 P "up" 500 (.int 2 501),e1 P "near" 502 (.int 2 503),e1 P "far" 504 (.int 2 505)] 6
noncomputable def P6:Obj:=jb "is_times" "is_times" (top 49)
def Gh:Obj:=cF "is_times" "is_times" 521 102 1 224
noncomputable def Gg:Obj:=ig "is_times" "is_times" (top 49) rD (.ref 227)
noncomputable def Gf:Obj:=tup [.str "house" 567,.none,.str "open" 568]
noncomputable def Ge:Obj:=tup [.str "house" 570,.str "asked" 571,.str "open" 572]
noncomputable def Gb:Obj:=tup [.str "house" 574,.str "called" 575,.str "open" 576]
noncomputable def Ga:Obj:=tup [.str "house" 578,.str "up" 579,.str "say" 580]
noncomputable def F0:Obj:=tup [.str "house" 582,.str "far" 583,.str "say" 584]
noncomputable def FZ:Obj:=tup [.str "house" 586,.str "up" 587,.str "close" 588]
noncomputable def FY:Obj:=tup [.str "house" 590,.str "far" 591,.str "close" 592]
noncomputable def FX:Obj:=tup [.str "far" 594,.none,.str "open" 595]
noncomputable def FW:Obj:=tup [.str "far" 597,.str "called" 598,.str "open" 599]
noncomputable def FV:Obj:=tup [.str "far" 601,.str "asked" 602,.str "open" 603]
noncomputable def FU:Obj:=tup [.str "far" 605,.str "up" 606,.str "say" 607]
noncomputable def FT:Obj:=tup [.str "far" 609,.str "near" 610,.str "say" 611]
noncomputable def FR:Obj:=tup [.str "far" 613,.str "up" 614,.str "close" 615]
noncomputable def FQ:Obj:=tup [.str "far" 617,.str "near" 618,.str "close" 619]
noncomputable def FP:Obj:=tup [.str "asked" 678,.str "called" 679,.str "up" 680,.str "near" 681,.str "far" 682]
noncomputable def Og:List (String×Nat×Nat):=[("__init__",731,300),("tell",744,307),("stands",752,314),("drop",760,321),("door_for",776,328),("listed",783,335)]
def FO:Obj:=nB P jo "Rules" 720 143 Og 786 336
def P5:Obj:=t7 [(145,299),(149,306),(155,313),(158,320),(161,327),(168,334)]
def FN:Obj:=cC "Rules" 715 143 290
def FL:Obj:=mJ 289 jo
noncomputable def FK:Obj:=tup [.str "many_told" 784,.str "standing" 785]
def D7:Obj:=nF P jo 720 143 Og 786 336
def D6:Obj:=tP "Rules" 337 713
def D5:Obj:=gD 787 338
def D4:Obj:=gW 789 338
def D3:Obj:=sU 338
def D2:Obj:=iS 338
noncomputable def Oe:List (String×Nat×Nat):=[("__init__",816,356),("has",824,363),("is_free",833,370),("from_mark",840,377),("picked",851,384),("take",859,391),("give",868,398),("resting",874,403),("many_free",880,408)]
def D1:Obj:=nB P gM "Pool" 803 171 Oe 886 409
def P4:Obj:=t7 [(173,355),(180,362),(183,369),(188,376),(191,383),(199,390),(205,397),(209,402),(212,407)]
def DZ:Obj:=cC "Pool" 798 171 346
def DY:Obj:=mJ 345 gM
noncomputable def P2:Obj:=jb "resting" "Pool.resting" (sub (top 62) 7)
def DX:Obj:=cF "resting" "Pool.resting" 869 209 2 399
noncomputable def Ez:Obj:=ig "resting" "Pool.resting" (sub (top 62) 7) gM (.ref 402)
noncomputable def P1:Obj:=jb "many_free" "Pool.many_free" (sub (top 62) 8)
def Ey:Obj:=cF "many_free" "Pool.many_free" 875 212 2 404
noncomputable def Ex:Obj:=ig "many_free" "Pool.many_free" (sub (top 62) 8) gM (.ref 407)
noncomputable def Ew:Obj:=tup [.str "high" 881,.str "low" 882,.str "mark" 883,.str "taken" 884,.str "until" 885]
def Eu:Obj:=nF P gM 803 171 Oe 886 409
def Et:Obj:=tP "Pool" 410 796
def Es:Obj:=gD 887 411
def Er:Obj:=gW 889 411
def Ep:Obj:=sU 411
def Eo:Obj:=iS 411
noncomputable def Od:List (String×Nat×Nat):=[("__init__",918,429)]
def En:Obj:=nB P d8 "Talk" 903 215 Od 923 430
def P0:Obj:=t7 [(217,428)]
def Em:Obj:=cC "Talk" 898 215 419
def El:Obj:=mJ 418 d8
noncomputable def Ek:Obj:=tup [.str "inner" 919,.str "number" 920,.str "over" 921,.str "state" 922]
def Ej:Obj:=nF P d8 903 215 Od 923 430
def Ei:Obj:=tP "Talk" 431 896
def Eh:Obj:=gD 924 432
def Eg:Obj:=gW 926 432
def Ef:Obj:=sU 432
def Ee:Obj:=iS 432
noncomputable def Oc:List (String×Nat×Nat):=[("__init__",950,450),("of_inner",958,457),("of_outer",969,464),("is_with",975,469),("living",982,476),("is_living",990,483),("number_of",998,490),("holder_at",1006,497),("held",1012,502),("lent_until",1020,509),("lend",1030,516),("end_lend",1039,523),("begin",1055,530),("lead",1064,537),("end",1079,544),("pass_by",1085,549)]
def Ed:Obj:=nB P d8 "Talks" 938 222 Oc 1093 550
noncomputable def PZ:Obj:=t7 [(224,449),(233,456),(236,463),(241,468),(244,475),(247,482),(250,489),(253,496),(256,501),(259,508),(262,515),(268,522),(273,529),(281,536),(288,543),(299,548)]
def Ec:Obj:=cC "Talks" 933 222 440
def Eb:Obj:=mJ 439 d8
noncomputable def PY:Obj:=jb "is_with" "Talks.is_with" (sub (top 65) 3)
def Ea:Obj:=cF "is_with" "Talks.is_with" 970 241 3 465
noncomputable def D9:Obj:=ig "is_with" "Talks.is_with" (sub (top 65) 3) d8 (.ref 468)
noncomputable def PX:Obj:=jb "held" "Talks.held" (sub (top 65) 8)
def D8:Obj:=cF "held" "Talks.held" 1007 256 2 498
noncomputable def E2:Obj:=ig "held" "Talks.held" (sub (top 65) 8) d8 (.ref 501)
noncomputable def Qk:Obj:=jb "pass_by" "Talks.pass_by" (sub (top 65) 15)
def E1:Obj:=cF "pass_by" "Talks.pass_by" 1080 299 2 545
noncomputable def EZ:Obj:=ig "pass_by" "Talks.pass_by" (sub (top 65) 15) d8 (.ref 548)
noncomputable def EY:Obj:=tup [.str "by_inner" 1086,.str "by_number" 1087,.str "form" 1088,.str "holders" 1089,.str "now" 1090,.str "numbers" 1091,.str "pool" 1092]
def EX:Obj:=nF P d8 938 222 Oc 1093 550
def EW:Obj:=tP "Talks" 551 931
def EV:Obj:=gD 1094 552
def EU:Obj:=gW 1096 552
def ET:Obj:=sU 552
def ES:Obj:=iS 552
noncomputable def Ob:List (String×Nat×Nat):=[("__init__",1134,577),("deed",1143,584),("out",1157,591),("come",1170,598),("lost",1182,605),("wait",1190,612),("rule",1202,619),("unrule",1210,626),("moment",1217,633),("free",1224,640),("lends",1230,645),("talks",1236,650),("rests",1243,657),("rules",1250,664),("book",1257,671),("answered",1272,678),("sent",1289,685),("lead_out",1300,692),("begin_out",1310,699),("picked_for",1320,706),("come_in",1333,713),("lead_in",1349,720),("sifted",1360,727),("lets_note_in",1370,734),("come_by_rule",1387,741),("told_lost",1401,748),("rule_told",1414,755),("rule_dropped",1422,762)]
def ER:Obj:=nB P cw "Gate" 1122 308 Ob 1428 763
noncomputable def Qj:Obj:=t7 [(310,576),(319,583),(326,590),(329,597),(332,604),(335,611),(338,618),(341,625),(344,632),(347,639),(350,644),(353,649),(356,656),(359,663),(362,670),(365,677),(380,684),(388,691),(398,698),(410,705),(416,712),(424,719),(434,726),(442,733),(446,740),(460,747),(467,754),(473,761)]
def EO:Obj:=cC "Gate" 1117 308 567
def EN:Obj:=mJ 566 cw
noncomputable def Qi:Obj:=jb "lends" "Gate.lends" (sub (top 68) 10)
def EM:Obj:=cF "lends" "Gate.lends" 1225 350 1 641
noncomputable def EL:Obj:=ig "lends" "Gate.lends" (sub (top 68) 10) cw (.ref 644)
noncomputable def Qh:Obj:=jb "talks" "Gate.talks" (sub (top 68) 11)
def EK:Obj:=cF "talks" "Gate.talks" 1231 353 1 646
noncomputable def EJ:Obj:=ig "talks" "Gate.talks" (sub (top 68) 11) cw (.ref 649)
noncomputable def EI:Obj:=tup [.str "done" 1423,.str "form" 1424,.str "strangers" 1425,.str "table" 1426,.str "wish" 1427]
def EH:Obj:=nF P cw 1122 308 Ob 1428 763
def EG:Obj:=tP "Gate" 764 1115
def EF:Obj:=gD 1429 765
def EE:Obj:=gW 1431 765
def ED:Obj:=sU 765
def EC:Obj:=iS 765
noncomputable def Qg:Obj:=jb "_law_a_world" "_law_a_world" (top 75)
def EB:Obj:=cF "_law_a_world" "_law_a_world" 1486 508 1 805
noncomputable def EA:Obj:=ig "_law_a_world" "_law_a_world" (top 75) jq (.ref 808)
noncomputable def Qf:Obj:=jb "law" "law" (top 79)
def Oi:Obj:=cF "law" "law" 1552 554 1 831
noncomputable def Oh:Obj:=ig "law" "law" (top 79) jq (.ref 834)
noncomputable def fin (P:Params)(D:Obj):List Obj:=[boot_o_0 P,boot_o_1 P,boot_o_2 P,eM ((ns P).take 80) 80,boot_o_4 P,boot_o_5 P,boot_o_6 P,boot_o_7 P,boot_o_8 P,boot_o_9 P,boot_o_10 P,v7,cD (tb.take 147),v13,v14]++(Ah.objs++([OI,OJ,OK]++(xa.objs++(xb.objs++(xc.objs++(xf.objs++(xg.objs++(xh.objs++(xi.objs++(xj.objs++(xk.objs++(xl.objs++([v7,v8,Qa,E6,E5]++(km.objs++(kn.objs++(kq.objs++(kr.objs++(ku.objs++(kA.objs++(oQ.objs++([qK P]++(kC.objs++(kD.objs++([E4,fR,E3 P,v7,v8,FJ,FI,v7,FH P,Fi,FG,FF,FE,sL,fR,FC P,v7,v8,Fy,Fx,v7,Fw P,Fv,Fu,Ft,sL,fR,Fs P,v7,v8,Fq,Fp,v7,Fo P,Fn,Fl,Fj,sL,fR,Fh P,v7,v8,Fg,Ff,v7,Fe P,Fd,Gp,Gm,Gk,Gj,Gi,qL P]++(kE.objs++([v7,v8,P6,Gh,Gg]++(kF.objs++(kG.objs++(kH.objs++([D,Gf,Ge,Gb,Ga,F0,FZ,FY,FX,FW,FV,FU,FT,FR,FQ,FP]++(kI.objs++(kJ.objs++(kK.objs++([v7,fR,FO P,v7,P5,FN,FL]++(kL.objs++(kM.objs++(oT.objs++(oU.objs++(kN.objs++(oW.objs++([FK,D7 P,D6,D5,D4,D3,D2,v7,fR,D1 P,v7,P4,DZ,DY]++(kO.objs++(kQ.objs++(kU.objs++(kW.objs++(kX.objs++(kY.objs++(kZ.objs++([v7,v8,P2,DX,Ez,v7,v8,P1,Ey,Ex,Ew,Eu P,Et,Es,Er,Ep,Eo,v7,fR,En P,v7,P0,Em,El]++(k7.objs++([Ek,Ej P,Ei,Eh,Eg,Ef,Ee,v7,fR,Ed P,v7,PZ,Ec,Eb]++(k8.objs++(k9.objs++(lj.objs++([v7,v8,PY,Ea,D9]++(lu.objs++(oX.objs++(lx.objs++(oY.objs++([v7,v8,PX,D8,E2]++(oZ.objs++(lz.objs++(lA.objs++(lD.objs++(lE.objs++(lF.objs++([v7,v8,Qk,E1,EZ,EY,EX P,EW,EV,EU,ET,ES]++(lG.objs++([v7,fR,ER P,v7,Qj,EO,EN]++(lJ.objs++(lL.objs++(lM.objs++(lQ.objs++(lR.objs++(lS.objs++(lU.objs++(o6.objs++(lV.objs++(lW.objs++([v7,v8,Qi,EM,EL,v7,v8,Qh,EK,EJ]++(lX.objs++(o7.objs++(o8.objs++(lY.objs++(lZ.objs++(ma.objs++(mh.objs++(ml.objs++(mm.objs++(mn.objs++(o9.objs++(pb.objs++(mq.objs++(mv.objs++(mw.objs++(pd.objs++([EI,EH P,EG,EF,EE,ED,EC]++(mx.objs++(mz.objs++(mB.objs++(mC.objs++(mD.objs++([v7,v8,Qg,EB,EA]++(mE.objs++(mF.objs++(mG.objs++([v7,v8,Qf,Oi,Oh])))))))))))))))))))))))))))))))))))))))))))))))))))))))))))))))))))))))))))))))))))))))))))))))))))))))))))
def nk:List Obj:=fin P default
def wW(P:Params)(os:OsState):SharedT:=⟨treeOf ((((nk P).take 15).set 3 (boot_o_3 P)).set 12 (cD (tb.take 0))),15,{},#[],{},187,os⟩
theorem YJ(w:World)(os:OsState):topGo treeTable p w 11 ann 12 ⟨boot_heap w.2,#[],boot_drawn,boot_toks,os⟩ (topStub p)=some ((wW w.2 os).abs,⟨denote treeTable cd,cd,q0,B⟩):=by kernel_rfl
theorem VM(w:World)(os:OsState):segRun treeTable p w 11 ann 1 1 (wW w.2 os).abs (blockOf body env cd q0 B)=some (.next,(wW w.2 os).abs,cd,q0):=by kernel_rfl
noncomputable def Dv (P:Params)(os:OsState):SharedT:=⟨treeOf ((((nk P).take 81).set 3 (eM ((e1 P "__name__" 165 eX)::((ns P).drop 1).take 29) 30)).set 12 (cD (tb.take 27))),81,{},#[],{},282,os⟩
theorem Qo(w)(os):segRunT treeTable p w 11 ann 1 391 (wW w.2 os) (piecesOf ((body.drop 0).take 22) env cd q0 B)=some (.next,Dv w.2 os,cd,⟨31,0,32,25⟩):=by
 walk_at "w9"
noncomputable def zX (P:Params)(os:OsState):SharedT:=⟨treeOf ((((nk P).take 149).set 3 (eM ((e1 P "__name__" 165 eX)::((ns P).drop 1).take 39) 40)).set 12 (cD (tb.take 57))),149,{},#[],{},378,os⟩
theorem Qn(w)(os):segRunT treeTable p w 11 ann 1 315 (Dv w.2 os) (piecesOf ((body.drop 22).take 10) env cd ⟨31,0,32,25⟩ B)=some (.next,zX w.2 os,cd,⟨70,0,71,74⟩):=by
 walk_at "w9"
noncomputable def zY (P:Params)(os:OsState):SharedT:=⟨treeOf (((((nk P).take 177).set 3 (eM ((e1 P "__name__" 165 (.str "lentgate.errors" 407))::((ns P).drop 1).take 43) 44)).set 12 (cD (tb.take 66))).set 173 (P9)),177,{},#[],{},427,os⟩
theorem ZR(w:World)(os:OsState)(b:Bool):segRunT treeTable p (wf w b) 11 ann 1 362 (zX w.2 os) (piecesOf ((body.drop 32).take 5) env cd ⟨70,0,71,74⟩ B)=some (.next,zY w.2 os,cd,⟨84,0,85,8⟩):=by
 rw[PySem.W.Fast.te10110043849684766642,PySem.W.Fast.te14364793385576792824];cases b<;>kernel_rfl
theorem Qm(w)(os):segRunT treeTable p w 11 ann 1 362 (zX w.2 os) (piecesOf ((body.drop 32).take 5) env cd ⟨70,0,71,74⟩ B)=some (.next,zY w.2 os,cd,⟨84,0,85,8⟩):=by
 have h:=ZR w os (w.2.followText "special-get-raises");unfold wf at h;rw[World.withFollow_self]at h;exact h
noncomputable def Dw (P:Params)(os:OsState):SharedT:=⟨treeOf (((((nk P).take 189).set 3 (eM ((e1 P "__name__" 165 (.str "lentgate.errors" 407))::((ns P).drop 1).take 44) 45)).set 12 (cD (tb.take 69))).set 173 (P8)),189,{},#[],{},443,os⟩
theorem Ql(w)(os):segRunT treeTable p w 11 ann 1 214 (zY w.2 os) (piecesOf ((body.drop 37).take 1) env cd ⟨84,0,85,8⟩ B)=some (.next,Dw w.2 os,cd,⟨86,0,87,8⟩):=by
 walk_at "w9"
noncomputable def zZ (P:Params)(os:OsState):SharedT:=⟨treeOf (((((nk P).take 201).set 3 (eM ((e1 P "__name__" 165 (.str "lentgate.errors" 407))::((ns P).drop 1).take 45) 46)).set 12 (cD (tb.take 72))).set 173 (P7)),201,{},#[],{},459,os⟩
theorem QN(w)(os):segRunT treeTable p w 11 ann 1 214 (Dw w.2 os) (piecesOf ((body.drop 38).take 1) env cd ⟨86,0,87,8⟩ B)=some (.next,zZ w.2 os,cd,⟨88,0,89,8⟩):=by
 walk_at "w9"
noncomputable def Aa (P:Params)(os:OsState):SharedT:=⟨treeOf ((((nk P).take 217).set 3 (eM ((e1 P "__name__" 165 rD)::((ns P).drop 1).take 53) 54)).set 12 (cD (tb.take 75))),217,{},#[],{},513,os⟩
theorem ZQ(w:World)(os:OsState)(b:Bool):segRunT treeTable p (wf w b) 11 ann 1 388 (zZ w.2 os) (piecesOf ((body.drop 39).take 9) env cd ⟨88,0,89,8⟩ B)=some (.next,Aa w.2 os,cd,⟨99,0,99,7⟩):=by
 rw[PySem.W.Fast.te10110043849684766642,PySem.W.Fast.te14364793385576792824];cases b<;>kernel_rfl
theorem QM(w)(os):segRunT treeTable p w 11 ann 1 388 (zZ w.2 os) (piecesOf ((body.drop 39).take 9) env cd ⟨88,0,89,8⟩ B)=some (.next,Aa w.2 os,cd,⟨99,0,99,7⟩):=by
 have h:=ZQ w os (w.2.followText "special-get-raises");unfold wf at h;rw[World.withFollow_self]at h;exact h
noncomputable def Ab (P:Params)(os:OsState):SharedT:=⟨treeOf ((((nk P).take 250).set 3 (eM ((e1 P "__name__" 165 rF)::((ns P).drop 1).take 58) 59)).set 12 (cD (tb.take 90))),250,{},#[],{},567,os⟩
theorem QL(w)(os):segRunT treeTable p w 11 ann 1 170 (Aa w.2 os) (piecesOf ((body.drop 48).take 6) env cd ⟨99,0,99,7⟩ B)=some (.next,Ab w.2 os,cd,⟨127,0,127,8⟩):=by
 walk_at "w9"
noncomputable def ob (P:Params)(i:Nat):Obj:=(((((nk P).take 250).set 3 (eM ((e1 P "__name__" 165 rF)::((ns P).drop 1).take 58) 59)).set 12 (cD (tb.take 90))):List Obj).getD i default
def Dd(es:Array DictEntry)(n:Nat):Obj:=⟨.type "dict",none,.dict es n,#[]⟩
noncomputable def S (o:Nat->Obj)(os:OsState)(D:Obj)(tk:Nat):SharedT:=⟨((((((((((((((((treeOf ((List.range 250).map o)).ins 250 D).ins 251 (tup [.str "house" 567,.none,.str "open" 568])).ins 252 (tup [.str "house" 570,.str "asked" 571,.str "open" 572])).ins 253 (tup [.str "house" 574,.str "called" 575,.str "open" 576])).ins 254 (tup [.str "house" 578,.str "up" 579,.str "say" 580])).ins 255 (tup [.str "house" 582,.str "far" 583,.str "say" 584])).ins 256 (tup [.str "house" 586,.str "up" 587,.str "close" 588])).ins 257 (tup [.str "house" 590,.str "far" 591,.str "close" 592])).ins 258 (tup [.str "far" 594,.none,.str "open" 595])).ins 259 (tup [.str "far" 597,.str "called" 598,.str "open" 599])).ins 260 (tup [.str "far" 601,.str "asked" 602,.str "open" 603])).ins 261 (tup [.str "far" 605,.str "up" 606,.str "say" 607])).ins 262 (tup [.str "far" 609,.str "near" 610,.str "say" 611])).ins 263 (tup [.str "far" 613,.str "up" 614,.str "close" 615])).ins 264 (tup [.str "far" 617,.str "near" 618,.str "close" 619])),265,{},#[],{},tk,os⟩
noncomputable def S0 (o:Nat->Obj)(os:OsState)(tk:Nat):SharedT:=⟨treeOf ((List.range 250).map o),250,{},#[],{},tk,os⟩
noncomputable def Du (o:Nat->Obj)(os:OsState)(tk:Nat):SharedT:=⟨(treeOf ((List.range 250).map o)).ins 250 (Dd #[] 0),251,{},#[],{},tk,os⟩
theorem ZP(P:Params)(os:OsState):Ab P os=S0 (ob P) os 567:=by kernel_rfl
noncomputable def hs (P:Params)(x:Str):Int:=if x.cps.isEmpty then 0 else reduceHash (P.strHash x.cps)
noncomputable def kt:List (List (Option Str)):=[[some "house",none,some "open"],[some "house",some "asked",some "open"],[some "house",some "called",some "open"],[some "house",some "up",some "say"],[some "house",some "far",some "say"],[some "house",some "up",some "close"],[some "house",some "far",some "close"],[some "far",none,some "open"],[some "far",some "called",some "open"],[some "far",some "asked",some "open"],[some "far",some "up",some "say"],[some "far",some "near",some "say"],[some "far",some "up",some "close"],[some "far",some "near",some "close"]]
noncomputable def vt:ak:=[.str "asked" 569,.str "asked" 573,.str "up" 577,.str "up" 581,.str "far" 585,.str "near" 589,.str "shut" 593,.str "called" 596,.str "called" 600,.str "up" 604,.str "up" 608,.str "near" 612,.str "far" 616,.str "shut" 620]
def hx(P:Params):Option Str->Int
 |some x=>hs P x
 |none=>hashW P .none
def hi(k:Nat)(P:Params):Int:=Builtin.Tuple.tupleHashOf ((kt.getD k []).map (hx P))
def en(k:Nat)(P:Params):DictEntry:=⟨reduceHash (hi k P),.ref (251+k),vt.getD k .none⟩
def De(k:Nat)(P:Params):Obj:=Dd ((List.range k).map λj=>en j P).toArray k
theorem aM{X:Nat->Prop}(h0:X 0)(e:X 1)(f:X 2)(g:X 3)(i:X 4)(j:X 5)(l:X 6)(m:X 7)(o:X 8)(r:X 9)(a:X 10)(b:X 11)(c:X 12)(d:X 13):∀k,k<14->X k:=λk s=>match k,s with|0,_=>h0|1,_=>e|2,_=>f|3,_=>g|4,_=>i|5,_=>j|6,_=>l|7,_=>m|8,_=>o|9,_=>r|10,_=>a|11,_=>b|12,_=>c|13,_=>d|n+14,h=>aS h (by omega)
section
variable(w:World)(b:Bool)(o:Nat->Obj)(os:OsState)(D:Obj)(tk:Nat)(ps:Pos)
abbrev RR(w:World)(b:Bool)(o:Nat->Obj)(os:OsState)(D:Obj)(tk:Nat)(ps:Pos)(n:Nat)(x:Sem α)(a:α):Prop:=Rn p (wf w b) 11 ann cd B n x ps (S o os D tk) a ps (S o os D tk)
local macro_rules | `(tactic| walk_at "h0") => `(tactic| (refine jv fun K H lv => ?_; rw [nz, PySem.W.Fast.te14364793385576792824]; kernel_rfl))
theorem ru(x:String):RR w b o os D tk ps 1 (rule x) ():=by walk_at "h0"
theorem den(es:Array DictEntry)(n:Nat):Rn p (wf w b) 11 ann cd B 1 (dictEntries 250 none) ps (S o os (Dd es n) tk) es ps (S o os (Dd es n) tk):=by walk_at "h0"
theorem dep(es:Array DictEntry)(n:Nat):Rn p (wf w b) 11 ann cd B 1 (dictEpoch 250 none) ps (S o os (Dd es n) tk) n ps (S o os (Dd es n) tk):=by walk_at "h0"
theorem qu:∀k,k<14->RR w b o os D tk ps 3 (eqIsQuiet 8 (.ref (251+k))) true:=by
 refine aM ?_ ?_ ?_ ?_ ?_ ?_ ?_ ?_ ?_ ?_ ?_ ?_ ?_ ?_<;>(refine jv fun K H lv=>?_;rw [nz,PySem.W.Fast.te14364793385576792824,PySem.W.Fast.te13066428366354244818];kernel_rfl)
theorem ro:∀k,k<14->RR w b o os D tk ps 1 (cRoomFor "hash" [.ref (251+k)]) ():=by
 refine aM ?_ ?_ ?_ ?_ ?_ ?_ ?_ ?_ ?_ ?_ ?_ ?_ ?_ ?_<;>(refine jv fun K H lv=>?_;rw [nz,PySem.W.Fast.te14364793385576792824,PySem.W.Fast.te13383273872528276517];kernel_rfl)
theorem sp:∀k,k<14->RR w b o os D tk ps 1 (specialOf (.ref (251+k)) "__hash__") (some (.builtin "tuple.__hash__")):=by
 refine aM ?_ ?_ ?_ ?_ ?_ ?_ ?_ ?_ ?_ ?_ ?_ ?_ ?_ ?_<;>(refine jv fun K H lv=>?_;rw [nz,PySem.W.Fast.te14364793385576792824,PySem.W.Fast.te4214721358667687652];kernel_rfl)
local macro_rules | `(tactic| walk_at "h4") => `(tactic| (refine jv fun K H lv => ?_; rw [nz, PySem.W.Fast.te14364793385576792824, PySem.W.Fast.te16697807410369149715]; cases b <;> kernel_rfl))
theorem ca:∀k,k<14->∀E:Sem Value,Rn p (wf w b) 11 ann cd B 29 (callSpecialIfBoundUnlessNone? (.ref (251+k)) "__hash__" E) ps (S o os D tk) (some (.int (hi k w.2) (tk+3))) ps (S o os D (tk+4)):=
 aM (λE=>Rn.more (m1:=27) (by walk_at "h4") (by decide)) (λE=>Rn.more (m1:=29) (by walk_at "h4") (by decide)) (λE=>Rn.more (m1:=29) (by walk_at "h4") (by decide)) (λE=>Rn.more (m1:=29) (by walk_at "h4") (by decide)) (λE=>Rn.more (m1:=29) (by walk_at "h4") (by decide)) (λE=>Rn.more (m1:=29) (by walk_at "h4") (by decide)) (λE=>Rn.more (m1:=29) (by walk_at "h4") (by decide)) (λE=>Rn.more (m1:=27) (by walk_at "h4") (by decide)) (λE=>Rn.more (m1:=29) (by walk_at "h4") (by decide)) (λE=>Rn.more (m1:=29) (by walk_at "h4") (by decide)) (λE=>Rn.more (m1:=29) (by walk_at "h4") (by decide)) (λE=>Rn.more (m1:=29) (by walk_at "h4") (by decide)) (λE=>Rn.more (m1:=29) (by walk_at "h4") (by decide)) (λE=>Rn.more (m1:=29) (by walk_at "h4") (by decide))
theorem up:∀k,k<14->Rn p (wf w b) 11 ann cd B 3 (updateDictKeys 250 (λx=>x.push (en k w.2)) none) ps (S o os (De k w.2) tk) () ps (S o os (De (k+1) w.2) tk):=by
 refine aM ?_ ?_ ?_ ?_ ?_ ?_ ?_ ?_ ?_ ?_ ?_ ?_ ?_ ?_<;>(refine jv fun K H lv=>?_;rw [nz,PySem.W.Fast.te14364793385576792824,PySem.W.Fast.te11826078720135083572];kernel_rfl)
noncomputable def pj:List (Nat×Nat):=(List.range 14).flatMap λk=>(List.range k).map λj=>(j,k)
noncomputable def cs:List (List Nat):=[[],[26],[26,20],[26,20,20],[26,20,20,20],[26,20,20,24,20],[26,20,20,20,24,20],[16,16,16,16,16,16,16],[16,16,16,16,16,16,16,26],[16,16,16,16,16,16,16,26,20],[16,16,16,16,16,16,16,26,20,20],[16,16,16,16,16,16,16,26,20,20,20],[16,16,16,16,16,16,16,26,20,20,24,20],[16,16,16,16,16,16,16,26,20,20,20,24,20]]
noncomputable def cn (x:Nat×Nat):Nat:=(cs.getD x.2 []).getD x.1 0
theorem O5:∀x∈pj,RR w b o os D tk ps (cn x) (eqBool (.ref (251+x.1)) (.ref (251+x.2))) false:=XC λK H lv=>by
 rw[nz,PySem.W.Fast.te14364793385576792824,PySem.W.Fast.te13926502685295537346];cases b<;>kernel_rfl
theorem O3:(pj.all λx=>Nat.ble (cn x) 26)=true:=by kernel_rfl
theorem fi(k:Nat)(c:k<14)(h):Rn p (wf w b) 11 ann cd B 797 (dictFind 250 (.ref (251+k)) h) ps (S o os (De k w.2) tk) none ps (S o os (De k w.2) tk):=
 find_none (m:=26) (L:=14) (by show((List.range k).map _).length<=14;rw[ba,zP];omega) (ru _ _ _ _ _ _ _) (den _ _ _ _ _ _ _ _) (dep _ _ _ _ _ _ _ _) ((qu w b o os _ tk ps k c).more (by decide)) λe f=>by
  obtain⟨j,a,rfl⟩:=aP.mp (show e∈(List.range k).map λj=>en j w.2 from f)
  have a:=jL.mp a;have d:(j,k)∈pj:=List.mem_flatMap.mpr ⟨k,jL.mpr c,aP.mpr ⟨j,jL.mpr a,rfl⟩⟩;have g:j<14:=eG a c;exact⟨⟨251+j,rfl,cE (Nat.add_lt_add_left a _)⟩,(qu w b o os _ tk ps j g).more (by decide),(O5 w b o os _ tk ps _ d).more (Nat.le_of_ble_eq_true (dw.mp O3 _ d))⟩
theorem se(k:Nat)(a:k<14):Rn p (wf w b) 11 ann cd B 834 (dictSet 250 (.ref (251+k)) (vt.getD k .none)) ps (S o os (De k w.2) tk) () ps (S o os (De (k+1) w.2) (tk+4)):=
 (V7 (h:=reduceHash (hi k w.2)) (ru w b o os _ (tk+4) ps) (VO (ru w b o os _ (tk+4) ps) (ro w b o os _ tk ps k a) (sp w b o os _ tk ps k a) (ca w b o os _ tk ps k a)) (fi w b o os (tk+4) ps k a _) (up w b o os (tk+4) ps k a)).more (by decide)
end
def vp(k:Nat):Value×Value:=(.ref (251+k),vt.getD k .none)
def vs:List (Value×Value):=(List.range' 0 14).map vp
def DD:Obj:=De 14 P
theorem MH(w)(b)(o:Nat->Obj)(os)(ps)(c:∀k v,f (k,v) ()=(do dictSet 250 k v;pure (.yield ()))):∀j k a,k+j=14->
 Rn p (wf w b) 11 ann cd B (834*j) (forIn ((List.range' k j).map vp) () f) ps (S o os (De k w.2) a) () ps (S o os (DD w.2) (a+4*j))
 |0,k,a,h=>by rw[show k=14 by omega];exact WN
 |j+1,k,a,h=>by
  rw[List.range'_succ,bU,show a+4*(j+1)=(a+4)+4*j by omega]
  exact(Wg (Z3 (c _ _) (cz (m2:=0) (se w b o os a ps k (by omega)) f9)) (MH w b o os ps c j (k+1) (a+4) (by omega))).more (by omega)
theorem Vi(w)(b)(o:Nat->Obj)(os)(tk)(ps)(a:∀k v,f (k,v) ()=(do dictSet 250 k v;pure (.yield ()))):
 Rn p (wf w b) 11 ann cd B 11676 (forIn vs () f) ps (S o os (De 0 w.2) tk) () ps (S o os (DD w.2) (tk+56)):=MH w b o os ps a 14 0 tk rfl
def st:Stmt:=body[54]
noncomputable def vM:List (Option PySem.Expr):=match st with| .Assign _ (.Dict ks _ _) _=>ks|_=>[]
noncomputable def vL:List PySem.Expr:=match st with| .Assign _ (.Dict _ vs _) _=>vs|_=>[]
def nq:Pos:=match st with| .Assign _ (.Dict _ _ q) _=>q|_=>default
def iM:Pos:=match st with| .Assign _ _ q=>q|_=>default
def qr:Pos:=⟨128,0,128,10⟩
theorem Qy:st= .Assign [.Name "LINE_STEPS" qr] (.Dict vM vL nq) iM:=by kernel_rfl
noncomputable def ab:List (Option (Sem Value)×Sem Value):=(evalEachOpt vM env).zip ((evalEach vL env).map λv=>do let x<-v;standAt nq;pure x)
noncomputable def AA:List (Sem Value×Sem Value):=ab.filterMap λx=>x.1.map λk=>(k,x.2)
theorem stq:exec st env=(do
 standAt iM
 let v<-eval (.Dict vM vL nq) env
 standAt qr
 bindName env "LINE_STEPS" v
 pure .next):=by rw[Qy];exact exec_Assign_Name env "LINE_STEPS" qr (.Dict vM vL nq) iM (by kernel_rfl)
theorem dq:eval (.Dict vM vL nq) env=(do standAt nq;dictDisplay ab):=by kernel_rfl
theorem dd:dictDisplay ab=((subDict AA >>= λd=>pure (some d)) >>= λo=>match o with|some d=>pure (.ref d)|none=>newDict):=by kernel_rfl
theorem Yb(w)(o:Nat->Obj)(os)(tk)(ps)(a:∀k v,f (k,v) ()=(do dictSet 250 k v;pure (.yield ()))):
 Rn p w 11 ann cd B 11676 (forIn vs () f) ps (S o os (De 0 w.2) tk) () ps (S o os (DD w.2) (tk+56)):=by
 have h:=Vi w (w.2.followText "special-get-raises") o os tk ps a;unfold wf at h;rw[World.withFollow_self]at h;exact h
theorem at_{w:World}{s:SharedT}{ps ps':Pos}:Rn p w 11 ann cd B 1 (standAt ps') ps s () ps' s:=jv λK H lv=>by kernel_rfl
theorem al{w:World}{o:Nat->Obj}{os:OsState}{tk:Nat}{ps:Pos}:Rn p w 11 ann cd B 1 (alloc { cls:=.type "dict",data:=.dict #[] }) ps (S0 o os tk) 250 ps (Du o os tk):=jv λK H lv=>by kernel_rfl
theorem ev{w:World}{o:Nat->Obj}{os:OsState}{ps:Pos}:Rn p w 11 ann cd B 96 (evalPairs AA) ps (Du o os 567) vs nq (S o os (De 0 w.2) 621):=jv λK H lv=>by
 rw[nz,PySem.W.Fast.te14364793385576792824];kernel_rfl
theorem sub{w:World}{o:Nat->Obj}{os:OsState}{ps:Pos}:Rn p w 11 ann cd B 11773 (subDict AA) ps (S0 o os 567) 250 nq (S o os (DD w.2) 677):=by
 unfold subDict;refine Rn.more (m1:=1+(96+(11676+0)+0)) (cz al (cz (a:=()) (uK ?_) f9)) (by decide)
 rw[ah (Nat.le_of_ble_eq_true (by kernel_rfl))]
 refine cz ev (uK ?_);exact cz (Yb w o os 621 nq (λ_ _=>rfl)) f9
noncomputable def tM (P:Params)(os:OsState)(D:Obj):SharedT:=⟨treeOf ((((fin P D).take 265).set 3 (eM ((e1 P "__name__" 165 rF)::((ns P).drop 1).take 59) 60)).set 12 (cD (tb.take 90))),265,{},#[],{},678,os⟩
theorem bn{w:World}{os:OsState}{D:Obj}{ps:Pos}:Rn p w 11 ann cd B 6 (bindName env "LINE_STEPS" (.ref 250)) ps (S (ob w.2) os D 677) () ps (tM w.2 os D):=jv λK H lv=>by
 rw[nz,PySem.W.Fast.te14364793385576792824];kernel_rfl
theorem qxz{w:World}{os:OsState}{ps:Pos}:Rn p w 11 ann cd B 11782 (execs [st] env) ps (S0 (ob w.2) os 567) .next qr (tM w.2 os (DD w.2)):=by
 rw[execs_cons,stq,dq,dd];refine Rn.more (m1:=(1+((1+((11773+0)+0))+(1+(6+0))))+0) (cz (a:=.next) (cz at_ (cz (cz at_ (cz (cz sub f9) f9)) (cz at_ (cz bn f9)))) ?_) (by decide)
 exact f9
theorem QK(w)(os):segRunT treeTable p w 11 ann 1 11783 (Ab w.2 os) (piecesOf [st] env cd ⟨127,0,127,8⟩ B)=some (.next,tM w.2 os (DD w.2),cd,qr):=by
 rw[ZP];obtain⟨n,b,h⟩:=qxz (w:=w) (os:=os) (ps:=⟨127,0,127,8⟩) doneF deadEnd id;have e:=Li (m:=1) (r:=(.next,tM w.2 os (DD w.2),cd,qr)) h rfl;have a:=KD (11782-n) e;rw[show n+1+(11782-n)=11783 by omega]at a
 exact a
noncomputable def Dx (P:Params)(os:OsState)(D:Obj):SharedT:=⟨treeOf ((((fin P D).take 287).set 3 (eM ((e1 P "__name__" 165 jo)::((ns P).drop 1).take 63) 64)).set 12 (cD (tb.take 99))),287,{},#[],{},713,os⟩
theorem QJ(w)(os)(D):segRunT treeTable p w 11 ann 1 118 (tM w.2 os D) (piecesOf ((body.drop 55).take 5) env cd qr B)=some (.next,Dx w.2 os D,cd,⟨142,0,142,8⟩):=by
 walk_at "w9"
noncomputable def Dy (P:Params)(os:OsState)(D:Obj):SharedT:=⟨treeOf ((((fin P D).take 343).set 3 (eM ((e1 P "__name__" 165 jo)::((ns P).drop 1).take 64) 65)).set 12 (cD (tb.take 102))),343,{},#[],{},794,os⟩
theorem QH(w)(os)(D):segRunT treeTable p w 11 ann 1 395 (Dx w.2 os D) (piecesOf ((body.drop 60).take 1) env cd ⟨142,0,142,8⟩ B)=some (.next,Dy w.2 os D,cd,⟨143,0,169,16⟩):=by
 walk_at "w9"
noncomputable def IY (P:Params)(os:OsState)(D:Obj):SharedT:=⟨treeOf ((((fin P D).take 343).set 3 (eM ((e1 P "__name__" 165 gM)::((ns P).drop 1).take 64) 65)).set 12 (cD (tb.take 102))),343,{},#[],{},796,os⟩
theorem ZY(w)(os)(D):segRunT treeTable p w 11 ann 1 10 (Dy w.2 os D) (piecesOf ((body.drop 61).take 1) env cd ⟨143,0,169,16⟩ B)=some (.next,IY w.2 os D,cd,⟨170,0,170,8⟩):=by
 walk_at "w9"
noncomputable def IX (P:Params)(os:OsState)(D:Obj):SharedT:=⟨treeOf ((((fin P D).take 416).set 3 (eM ((e1 P "__name__" 165 gM)::((ns P).drop 1).take 65) 66)).set 12 (cD (tb.take 105))),416,{},#[],{},894,os⟩
theorem ZX(w)(os)(D):segRunT treeTable p w 11 ann 1 480 (IY w.2 os D) (piecesOf ((body.drop 62).take 1) env cd ⟨170,0,170,8⟩ B)=some (.next,IX w.2 os D,cd,⟨171,0,213,105⟩):=by
 walk_at "w9"
noncomputable def IW (P:Params)(os:OsState)(D:Obj):SharedT:=⟨treeOf ((((fin P D).take 437).set 3 (eM ((e1 P "__name__" 165 d8)::((ns P).drop 1).take 66) 67)).set 12 (cD (tb.take 108))),437,{},#[],{},931,os⟩
theorem ZW(w)(os)(D):segRunT treeTable p w 11 ann 1 238 (IX w.2 os D) (piecesOf ((body.drop 63).take 2) env cd ⟨171,0,213,105⟩ B)=some (.next,IW w.2 os D,cd,⟨215,0,221,24⟩):=by
 walk_at "w9"
noncomputable def IV (P:Params)(os:OsState)(D:Obj):SharedT:=⟨treeOf ((((fin P D).take 557).set 3 (eM ((e1 P "__name__" 165 d8)::((ns P).drop 1).take 67) 68)).set 12 (cD (tb.take 111))),557,{},#[],{},1101,os⟩
theorem ZV(w)(os)(D):segRunT treeTable p w 11 ann 1 718 (IW w.2 os D) (piecesOf ((body.drop 65).take 1) env cd ⟨215,0,221,24⟩ B)=some (.next,IV w.2 os D,cd,⟨222,0,303,37⟩):=by
 walk_at "w9"
noncomputable def IU (P:Params)(os:OsState)(D:Obj):SharedT:=⟨treeOf ((((fin P D).take 564).set 3 (eM ((e1 P "__name__" 165 cw)::((ns P).drop 1).take 68) 69)).set 12 (cD (tb.take 114))),564,{},#[],{},1115,os⟩
theorem ZU(w)(os)(D):segRunT treeTable p w 11 ann 1 44 (IV w.2 os D) (piecesOf ((body.drop 66).take 2) env cd ⟨222,0,303,37⟩ B)=some (.next,IU w.2 os D,cd,⟨305,0,307,78⟩):=by
 walk_at "w9"
noncomputable def IT (P:Params)(os:OsState)(D:Obj):SharedT:=⟨treeOf ((((fin P D).take 770).set 3 (eM ((e1 P "__name__" 165 cw)::((ns P).drop 1).take 69) 70)).set 12 (cD (tb.take 117))),770,{},#[],{},1436,os⟩
theorem ZT(w)(os)(D):segRunT treeTable p w 11 ann 1 1159 (IU w.2 os D) (piecesOf ((body.drop 68).take 1) env cd ⟨305,0,307,78⟩ B)=some (.next,IT w.2 os D,cd,⟨308,0,477,19⟩):=by
 walk_at "w9"
def IS(P:Params)(os:OsState)(D:Obj):SharedT:=⟨treeOf ((fin P D).take 836),836,{},#[],{},1558,os⟩
theorem ZS(w)(os)(D):segRunT treeTable p w 11 ann 1 346 (IT w.2 os D) (piecesOf ((body.drop 69).take 11) env cd ⟨308,0,477,19⟩ B)=some (.next,IS w.2 os D,cd,⟨554,0,582,15⟩):=by
 walk_at "w9"
def TF:BT:=(IS P default (DD P)).tree
def H1:Heap:=absHeap (TF P) 836 {}
theorem Xg:body=((body.drop 0).take 22)++(((body.drop 22).take 10)++(((body.drop 32).take 5)++(((body.drop 37).take 1)++(((body.drop 38).take 1)++(((body.drop 39).take 9)++(((body.drop 48).take 6)++([st]++(((body.drop 55).take 5)++(((body.drop 60).take 1)++(((body.drop 61).take 1)++(((body.drop 62).take 1)++(((body.drop 63).take 2)++(((body.drop 65).take 1)++(((body.drop 66).take 2)++(((body.drop 68).take 1)++(((body.drop 69).take 11)++ [])))))))))))))))):=by kernel_rfl
theorem run_eq(w:World)(os:OsState):topRun treeTable p w 11 ann (12+(1+(391+(315+(362+(214+(214+(388+(170+(11783+(118+(395+(10+(480+(238+(718+(44+(1159+(346+2))))))))))))))))))) ⟨boot_heap w.2,#[],boot_drawn,boot_toks,os⟩ (topStub p)=some ⟨H1 w.2,#[],{},1558,os⟩:=by
 refine go_top (YJ w os) (piece_block (VM w os) ?_);show topRun treeTable p w 11 ann _ _ (restOf body env cd q0 B)=_;rw[Xg];refine piece_app (segRun_of (Qo w os)) ?_;refine piece_app (segRun_of (Qn w os)) ?_;refine piece_app (segRun_of (Qm w os)) ?_;refine piece_app (segRun_of (Ql w os)) ?_;refine piece_app (segRun_of (QN w os)) ?_;refine piece_app (segRun_of (QM w os)) ?_;refine piece_app (segRun_of (QL w os)) ?_;refine piece_app (segRun_of (QK w os)) ?_;refine piece_app (segRun_of (QJ w os _)) ?_;refine piece_app (segRun_of (QH w os _)) ?_;refine piece_app (segRun_of (ZY w os _)) ?_;refine piece_app (segRun_of (ZX w os _)) ?_;refine piece_app (segRun_of (ZW w os _)) ?_;refine piece_app (segRun_of (ZV w os _)) ?_;refine piece_app (segRun_of (ZU w os _)) ?_;refine piece_app (segRun_of (ZT w os _)) ?_;refine piece_app (segRun_of (ZS w os _)) ?_;kernel_rfl
noncomputable def q:Program:=view p [0,2,3,4,5,6,7,8,9,10,11,12,13,14,15,16,17,18,19,20,21,22,23,24,25,26,27,28,29,30,31,32,33,34,36,37,38,39,41,42,43,44,45,46,47,48,49,50,51,52,54,55,56,57,58,60,62,64,65,67,68,70,71,72,73,74,75,76,77,78,79]
noncomputable def loose:aB:=["DEEDS","TIME_AT","LINE_STEPS"]
noncomputable def DT:List Addr:=[2,3,4,6,20,21,22,23,24,30,31,37,38,44,45,51,52,58,59,65,66,72,73,79,80,86,87,93,94,95,98,99,105,106,112,113,119,120,126,127,133,134,140,141,147,148,149,155,156,162,163,164,165,166,167,169,170,171,172,173,174,175,176,177,178,179,180,182,183,184,185,186,187,188,189,190,191,192,194,195,196,197,198,199,200,201,202,203,204,206,207,208,209,210,211,212,213,214,215,216,222,223,224,227,228,234,235,241,242,248,249,250,251,252,253,254,255,256,257,258,259,260,261,262,263,264,265,271,272,278,279,285,286,287,288,289,290,292,293,299,300,306,307,313,314,320,321,327,328,334,335,336,337,338,339,340,341,342,343,344,345,346,348,349,355,356,362,363,369,370,376,377,383,384,390,391,397,398,399,402,403,404,407,408,409,410,411,412,413,414,415,416,417,418,419,421,422,428,429,430,431,432,433,434,435,436,437,438,439,440,442,443,449,450,456,457,463,464,465,468,469,475,476,482,483,489,490,496,497,498,501,502,508,509,515,516,522,523,529,530,536,537,543,544,545,548,549,550,551,552,553,554,555,556,562,563,564,565,566,567,569,570,576,577,583,584,590,591,597,598,604,605,611,612,618,619,625,626,632,633,639,640,641,644,645,646,649,650,656,657,663,664,670,671,677,678,684,685,691,692,698,699,705,706,712,713,719,720,726,727,733,734,740,741,747,748,754,755,761,762,763,764,765,766,767,768,769,775,776,782,783,789,790,796,797,803,804,805,808,809,815,816,822,823,829,830,831,834,835]
noncomputable def ks:List Addr:=DT++ [546]
noncomputable def K0:Frag:=DT.zip (boot_o_2 P::eM ((ns P).take 80) 80::boot_o_4 P::boot_o_6 P::Ah.co::Ah.fn::OI::OJ::OK::xa.co::xa.fn::xb.co::xb.fn::xc.co::xc.fn::xf.co::xf.fn::xg.co::xg.fn::xh.co::xh.fn::xi.co::xi.fn::xj.co::xj.fn::xk.co::xk.fn::xl.co::xl.fn::v7::E6::E5::km.co::km.fn::kn.co::kn.fn::kq.co::kq.fn::kr.co::kr.fn::ku.co::ku.fn::kA.co::kA.fn::oQ.co::oQ.fn::qK P::kC.co::kC.fn::kD.co::kD.fn::E4::fR::E3 P::v7::FJ::FI::v7::FH P::Fi::FG::FF::FE::sL::fR::FC P::v7::Fy::Fx::v7::Fw P::Fv::Fu::Ft::sL::fR::Fs P::v7::Fq::Fp::v7::Fo P::Fn::Fl::Fj::sL::fR::Fh P::v7::Fg::Ff::v7::Fe P::Fd::Gp::Gm::Gk::Gj::Gi::qL P::kE.co::kE.fn::v7::Gh::Gg::kF.co::kF.fn::kG.co::kG.fn::kH.co::kH.fn::DD P::Gf::Ge::Gb::Ga::F0::FZ::FY::FX::FW::FV::FU::FT::FR::FQ::FP::kI.co::kI.fn::kJ.co::kJ.fn::kK.co::kK.fn::v7::fR::FO P::v7::FN::FL::kL.co::kL.fn::kM.co::kM.fn::oT.co::oT.fn::oU.co::oU.fn::kN.co::kN.fn::oW.co::oW.fn::FK::D7 P::D6::D5::D4::D3::D2::v7::fR::D1 P::v7::DZ::DY::kO.co::kO.fn::kQ.co::kQ.fn::kU.co::kU.fn::kW.co::kW.fn::kX.co::kX.fn::kY.co::kY.fn::kZ.co::kZ.fn::v7::DX::Ez::v7::Ey::Ex::Ew::Eu P::Et::Es::Er::Ep::Eo::v7::fR::En P::v7::Em::El::k7.co::k7.fn::Ek::Ej P::Ei::Eh::Eg::Ef::Ee::v7::fR::Ed P::v7::Ec::Eb::k8.co::k8.fn::k9.co::k9.fn::lj.co::lj.fn::v7::Ea::D9::lu.co::lu.fn::oX.co::oX.fn::lx.co::lx.fn::oY.co::oY.fn::v7::D8::E2::oZ.co::oZ.fn::lz.co::lz.fn::lA.co::lA.fn::lD.co::lD.fn::lE.co::lE.fn::lF.co::lF.fn::v7::E1::EZ::EY::EX P::EW::EV::EU::ET::ES::lG.co::lG.fn::v7::fR::ER P::v7::EO::EN::lJ.co::lJ.fn::lL.co::lL.fn::lM.co::lM.fn::lQ.co::lQ.fn::lR.co::lR.fn::lS.co::lS.fn::lU.co::lU.fn::o6.co::o6.fn::lV.co::lV.fn::lW.co::lW.fn::v7::EM::EL::v7::EK::EJ::lX.co::lX.fn::o7.co::o7.fn::o8.co::o8.fn::lY.co::lY.fn::lZ.co::lZ.fn::ma.co::ma.fn::mh.co::mh.fn::ml.co::ml.fn::mm.co::mm.fn::mn.co::mn.fn::o9.co::o9.fn::pb.co::pb.fn::mq.co::mq.fn::mv.co::mv.fn::mw.co::mw.fn::pd.co::pd.fn::EI::EH P::EG::EF::EE::ED::EC::mx.co::mx.fn::mz.co::mz.fn::mB.co::mB.fn::mC.co::mC.fn::mD.co::mD.fn::v7::EB::EA::mE.co::mE.fn::mF.co::mF.fn::mG.co::mG.fn::v7::Oi::Oh::[])
def K:Frag:=K0 P++ [(546,v8)]
theorem gI(P:Params):ks=(K P).map (·.1):=by kernel_rfl
def Hk:Hook:=kHook K ks gI
def Xt(s:Shared):Bool:=xlAt q [] s&&recOk [] s
def NN:Nat:=1000000
theorem size_eq(w:World):((boot_heap w.2).isNs mainGlobals&&(#[]:Array GenState).size==0,(boot_heap w.2).objs.size,(boot_heap w.2).nsMap mainGlobals "__annotations__")=(true,11,ann):=by kernel_rfl
theorem PH:opening p=plainProg p.main.scope.names:=by kernel_rfl
theorem PJ(s:Shared):fenceModules? p s=some s:=by kernel_rfl
theorem qyK(w:World)(os:OsState):(staticsOk (importedModules p.main.body) (boot_heap w.2) (H1 w.2)&&namesBound p (H1 w.2)&&gensDone ⟨H1 w.2,#[],{},1558,os⟩&&laidKept (boot_heap w.2) (H1 w.2))=true:=by kernel_rfl
theorem Pe(w:World)(os:OsState):PyProof.Rows.seen (List.map (λx=>x.name) (recsOf q)) (ownsOf q) [] ⟨H1 w.2,#[],{},1558,os⟩=expectedOf q:=by rw[PySem.W.Fast.te5160383126252970620];kernel_rfl
theorem Pf(w:World)(os:OsState):(H1 w.2).bltView=bltViewBooted:=by kernel_rfl
theorem Pg(w:World)(os:OsState):(H1 w.2).keysOk (looseW q loose) (List.map (λx=>x.name) (recsOf q)) (List.map (λx=>x.fst) (litsOf q)) (List.map (λx=>x.name) (clssOf q (looseW q loose)))=true:=by rw[PySem.W.Fast.te10880121769531294198];kernel_rfl
theorem Ph(w:World)(os:OsState):(H1 w.2).accountedOkI (importedModules p.main.body)=true:=by rw[PySem.W.Fast.te14722251495701143533];kernel_rfl
theorem Pj(w:World)(os:OsState):((H1 w.2).isNs mainGlobals&&(H1 w.2).isNs builtinsNs)=true:=by kernel_rfl
theorem Pk(w:World)(os:OsState):tablesOk q (H1 w.2)=true:=by rw[PySem.W.Fast.te10994771534591457954];kernel_rfl
theorem Pl(w:World)(os:OsState):Xt ⟨H1 w.2,#[],{},1558,os⟩=true:=by kernel_rfl
theorem Pn(w:World)(os:OsState):tabsOk q ⟨H1 w.2,#[],{},1558,os⟩=true:=by rw[PySem.W.Fast.te479339242167458305];kernel_rfl
theorem Po(w:World)(os:OsState):pinSeenD q (drecsOf q) ⟨H1 w.2,#[],{},1558,os⟩=pinGoodD (drecsOf q):=by kernel_rfl
theorem Pp(w:World)(os:OsState):plainSeenE q (looseW q loose) ⟨H1 w.2,#[],{},1558,os⟩=plainGoodE q (looseW q loose):=by rw[PySem.W.Fast.te2386780881361962483];kernel_rfl
theorem Pq(w:World)(os:OsState):plainSeenD q loose ⟨H1 w.2,#[],{},1558,os⟩=plainGoodD q loose:=by rw[PySem.W.Fast.te11698064438423848299];kernel_rfl
theorem Pr(w:World)(os:OsState):wideSeen q ⟨H1 w.2,#[],{},1558,os⟩=wideGood q:=by rw[PySem.W.Fast.te7317090234206586261];kernel_rfl
theorem Pt(w:World)(os:OsState):clsSeenW q loose ⟨H1 w.2,#[],{},1558,os⟩=clsGoodW q loose:=by rw[PySem.W.Fast.te7369524293546568484];kernel_rfl
theorem qyJ(w:World)(os):openSeen q loose (importedModules p.main.body) Xt true ⟨H1 w.2,#[],{},1558,os⟩=openGood q loose:=
 Wz (Pe w os) (Pf w os) (Pg w os) (Ph w os) (Pj w os) (Pk w os) (Pl w os) (Pn w os) (Po w os) (Pp w os) (Pq w os) (Pr w os) (Pt w os)
theorem qyI(w:World)(os:OsState):Hk.obs ⟨H1 w.2,#[],{},1558,os⟩=Hk.val w:=by kernel_rfl
theorem left:LeftO p q loose Xt Hk.obs Hk.val NN:=
 LeftO.of_pieces (H₀:=boot_heap) (H₁:=H1) (gs₀:=#[]) (gs₁:=#[]) (d₀:=boot_drawn) (d₁:={}) (k₀:=boot_toks) (k₁:=1558) (m₀:=11) (ann:=ann) (M:=12+(1+(391+(315+(362+(214+(214+(388+(170+(11783+(118+(395+(10+(480+(238+(718+(44+(1159+(346+2))))))))))))))))))) (boot_open PH (by decide) PJ) size_eq run_eq (by decide)
  λw=>funext λos=>Prod.ext (qyK w os) (Prod.ext (qyJ w os) (qyI w os))
end
end H12
namespace R
open PySem PySem.Spec PyProof.Rows L2
section
variable {Γ:G}{σ:bw}{M:RM}{Q:ao}{D:RD}{a b c d e t l h o k r it:T}{i n:Nat}{QB:Bool->RM->Prop}{QA:LR->RM->Prop}{QI:LR->(RM->Prop)->(RM->RM)->RM->Prop}{QP:Option Int->RM->Prop}
def Ap(o:Option (Option RV))(Q:RV->Prop):Prop:=match o with|some (some v)=>Q v|_=>False
theorem qo9{v:RV}{Q:RV->Prop}:Ap (some (some v)) Q=Q v:=rfl
theorem t_v:(tr Γ (.v i)).E σ M Q=Ap σ[i]? (λv=>Q v M):=by
 show qv i σ M Q=_;unfold qv Ap;rfl
theorem t_i{n:Int}:(tr Γ (.i n)).E σ M Q=Q (.int n) M:=rfl
theorem t_s{x:Str}:(tr Γ (.s x)).E σ M Q=Q (.str x) M:=rfl
theorem t_b{x:Bool}:(tr Γ (.b x)).E σ M Q=Q (.bl x) M:=rfl
theorem t_n:(tr Γ .n).E σ M Q=Q .aq M:=rfl
theorem jD{x:Str}{i:Int}(h:Γ.S.gi.lookup x=some i):(tr Γ (.g x)).E σ M Q=Q (.int i) M:=by
 show(match Γ.S.gi.lookup x with|some i=>rC (.int i)|none=>gz) σ M Q=_
 rw[h];rfl
theorem qEQ{x:String}:(tr Γ (.ty x)).E σ M Q=Q (.ty x) M:=rfl
theorem qE0{o:Operator}:(tr Γ (.op o a b)).E σ M Q=(tr Γ a).E σ M λx M1=>(tr Γ b).E σ M1 λy M2=>jn o x y M2 Q:=rfl
theorem qFi{o:CmpOp}:(tr Γ (.cm o a b)).E σ M Q=(tr Γ a).E σ M λx M1=>(tr Γ b).E σ M1 λy M2=>eC o x y M2 Q:=rfl
def kB(Q:Bool->RM->Prop):ao:=λv M=>match v with| .bl k=>Q k M|_=>False
theorem qe{k:Bool}:kB QB (.bl k) M=QB k M:=rfl
noncomputable def Am (p:CmpOp)(Γ:G)(c:T)(σ:bw)(y:RV)(Q:ao):ao:=λz f=>match z with
 | .bl k=>if k=true then(tr Γ c).E σ f λw g=>eC p y w g Q else Q (.bl false) f
 |_=>False
theorem pU{k:Bool}{A B:Prop}:((k=true->A)/\(k=false->B))=if k=true then A else B:=by cases k<;>simp
theorem qFj{o p:CmpOp}:(tr Γ (.ch o p a b c)).E σ M Q=(tr Γ a).E σ M λx M1=>(tr Γ b).E σ M1 λy M2=>eC o x y M2 (Am p Γ c σ y Q):=by
 show r8 _ _ _ _ _ σ M Q=_;unfold r8 Am;simp only[pU]<;>rfl
theorem qvn{p:CmpOp}{y:RV}{k:Bool}:Am p Γ c σ y Q (.bl k) M=if k=true then(tr Γ c).E σ M λw f=>eC p y w f Q else Q (.bl false) M:=rfl
theorem T_v:(tr Γ (.v i)).T σ M QB=(tr Γ (.v i)).E σ M (kB QB):=rfl
theorem qHm{o:CmpOp}:(tr Γ (.cm o a b)).T σ M QB=(tr Γ (.cm o a b)).E σ M (kB QB):=rfl
theorem qHn{o p:CmpOp}:(tr Γ (.ch o p a b c)).T σ M QB=(tr Γ (.ch o p a b c)).E σ M (kB QB):=rfl
theorem qHk{c:Nat}{f:Str}:(tr Γ (.fl c f a)).T σ M QB=(tr Γ (.fl c f a)).E σ M (kB QB):=rfl
theorem qHo:(tr Γ (.ca f a)).T σ M QB=(tr Γ (.ca f a)).E σ M (kB QB):=rfl
theorem qHi:(tr Γ (.me f o a)).T σ M QB=(tr Γ (.me f o a)).E σ M (kB QB):=rfl
theorem qHp:(tr Γ (.bf f a)).T σ M QB=(tr Γ (.bf f a)).E σ M (kB QB):=rfl
theorem qHl:(tr Γ (.dn neg k d)).T σ M QB=(tr Γ (.dn neg k d)).E σ M (kB QB):=rfl
theorem qHj{x:Str}:(tr Γ (.ic neg a x)).T σ M QB=(tr Γ (.ic neg a x)).E σ M (kB QB):=rfl
theorem qHf{x:Str}:(tr Γ (.tn x a)).T σ M QB=(tr Γ (.tn x a)).E σ M (kB QB):=rfl
theorem T_b{x:Bool}:(tr Γ (.b x)).T σ M QB=QB x M:=rfl
theorem qHq:(tr Γ (.an a b)).T σ M QB=(tr Γ a).T σ M λc M1=>if c=true then(tr Γ b).T σ M1 QB else QB false M1:=by
 show zp _ _ σ M QB=_;unfold zp;simp only[pU]
theorem qHg:(tr Γ (.or a b)).T σ M QB=(tr Γ a).T σ M λc M1=>if c=true then QB true M1 else(tr Γ b).T σ M1 QB:=by
 show zE _ _ σ M QB=_;unfold zE;simp only[pU]
theorem qHh:(tr Γ (.no a)).T σ M QB=(tr Γ a).T σ M λc M1=>QB (!c) M1:=rfl
def xn(N:RM->Prop)(Q:ao):ao:=λx M=>match x with| .bl c=>if c=true then N M else Q (.bl false) M|_=>False
def An(N:RM->Prop)(Q:ao):ao:=λx M=>match x with| .bl c=>if c=true then Q (.bl true) M else N M|_=>False
theorem iF{N:RM->Prop}{c:Bool}:xn N Q (.bl c) M=if c=true then N M else Q (.bl false) M:=rfl
theorem Bv{N:RM->Prop}{c:Bool}:An N Q (.bl c) M=if c=true then Q (.bl true) M else N M:=rfl
theorem qFo:(tr Γ (.an a b)).E σ M Q=(tr Γ a).E σ M (xn (λM1=>(tr Γ b).E σ M1 Q) Q):=by
 show yS _ _ σ M Q=_;unfold yS xn;simp only[pU]<;>rfl
theorem qEZ:(tr Γ (.or a b)).E σ M Q=(tr Γ a).E σ M (An (λM1=>(tr Γ b).E σ M1 Q) Q):=by
 show zi _ _ σ M Q=_;unfold zi An;simp only[pU]<;>rfl
def DQ(Q:ao):ao:=λx M=>match x with| .bl c=>Q (.bl (!c)) M|_=>False
theorem qvl{c:Bool}:DQ Q (.bl c) M=Q (.bl (!c)) M:=rfl
theorem qE1:(tr Γ (.no a)).E σ M Q=(tr Γ a).E σ M (DQ Q):=rfl
theorem qE7:(tr Γ (.ie t a b)).E σ M Q=(tr Γ t).T σ M λc M1=>if c=true then(tr Γ a).E σ M1 Q else(tr Γ b).E σ M1 Q:=by
 show zD _ _ _ σ M Q=_;unfold zD;simp only[pU]
theorem qES:(tr Γ (.tu a)).E σ M Q=(tr Γ a).A σ M λrs M1=>rs.length<=sizeLine/\Q (.tup rs) M1:=rfl
theorem qE5:(tr Γ (.ll a)).E σ M Q=(tr Γ a).A σ M λrs M1=>rs.length<=sizeLine/\Q (.ls rs) M1:=rfl
theorem qE4:(tr Γ (.lm a)).E σ M Q=(tr Γ a).A σ M λrs M1=>rs.length<=sizeLine/\∀p,M1 p=none->Q (.ref p) (put M1 p (.lst rs)):=rfl
theorem qFa:(tr Γ .e0).A σ M QA=QA [] M:=rfl
theorem qE9:(tr Γ (.ec a r)).A σ M QA=(tr Γ a).E σ M λx M1=>(tr Γ r).A σ M1 λxs M2=>QA (x::xs) M2:=rfl
theorem qE6:(tr Γ (.ix a b)).E σ M Q=(tr Γ a).E σ M λx M1=>(tr Γ b).E σ M1 λy M2=>dR x y M2 Q:=rfl
theorem qEV:(tr Γ (.sl a l h)).E σ M Q=(tr Γ a).E σ M λx M1=>(tr Γ l).P σ M1 λlo M2=>(tr Γ h).P σ M2 λu f=>og x lo u f Q:=rfl
theorem qEY:(tr Γ .p0).P σ M QP=QP none M:=rfl
def kP(Q:Option Int->RM->Prop):ao:=λx M=>match x with| .int i=>Q (some i) M|_=>False
theorem qvk{i:Int}:kP QP (.int i) M=QP (some i) M:=rfl
theorem qEX:(tr Γ (.p1 a)).P σ M QP=(tr Γ a).E σ M (kP QP):=rfl
theorem qE8{c:Nat}{f:Str}:(tr Γ (.fl c f a)).E σ M Q=(tr Γ a).E σ M (rf (Γ.C c) f Q):=rfl
theorem qFk:(tr Γ (.ca f a)).E σ M Q=(tr Γ a).A σ M λrs M1=>Γ.fn f rs M1 Q:=rfl
theorem bJ{f:Nat}{d:FD}(h:Γ.S.fd[f]? =some d):(tr Γ (.me f o a)).E σ M Q=(tr Γ o).E σ M (pq (Γ.C d.cls) d.name (Γ.fn f) (tr Γ a).A σ Q):=by
 show(match Γ.S.fd[f]? with|some d=>qI (Γ.C d.cls) d.name (Γ.fn f) (tr Γ o).E (tr Γ a).A|none=>gz) σ M Q=_
 rw[h];rfl
theorem vZ{f:Nat}{d:FD}(h:Γ.S.fd[f]? =some d):(tr Γ (.mk f a)).E σ M Q=(tr Γ a).A σ M λrs M1=>∀x,M1 x=none->Γ.mN f (.ref x::rs) (put M1 x (.ins (Γ.C d.cls) [])) λv M2=>v= .aq/\Q (.ref x) M2:=by
 show(match Γ.S.fd[f]? with|some d=>sF (Γ.C d.cls) (Γ.mN f) (tr Γ a).A|none=>gz) σ M Q=_
 rw[h];rfl
theorem qFm:(tr Γ (.bf f a)).E σ M Q=(tr Γ a).A σ M λrs M1=>fy f rs M1 Q:=rfl
theorem qFl:(tr Γ (.bt f a)).E σ M Q=(tr Γ a).A σ M λrs M1=>wZ f rs M1 Q:=rfl
theorem qFe:(tr Γ (.dg d k)).E σ M Q=(tr Γ d).E σ M λx M1=>(tr Γ k).E σ M1 λy M2=>vX Q x y M2:=rfl
theorem qFc:(tr Γ (.dn neg k d)).E σ M Q=(tr Γ k).E σ M λy M1=>(tr Γ d).E σ M1 λx M2=>zI neg Q x y M2:=rfl
theorem qFf:(tr Γ (.d1 d k)).E σ M Q=(tr Γ d).E σ M λx M1=>tX M1 x/\(tr Γ k).E σ M1 λy M2=>vJ Q x y .aq M2:=rfl
theorem qFd:(tr Γ .dk).E σ M Q= ∀p,M p=none->Q (.ref p) (put M p (.dk [])):=rfl
theorem qFb:(tr Γ .dt).E σ M Q= ∀p,M p=none->Q (.ref p) (put M p (.dt [])):=rfl
theorem qo{x:Str}(h:Γ.S.gt.lookup x=some f):(tr Γ (.ic neg a x)).E σ M Q=(tr Γ a).E σ M λx M1=>aA 15 x=true/\Q (.bl (if neg then !inR x (f.map RV.str)else inR x (f.map RV.str))) M1:=by
 show(match Γ.S.gt.lookup x with|some f=>sP neg f (tr Γ a).E|none=>gz) σ M Q=_
 rw[h];rfl
theorem bP:(tr Γ (.se a b)).S D σ M=(tr Γ a).S { D with nx:=(tr Γ b).S D } σ M:=rfl
theorem PK:(tr Γ .en).S D σ M=D.nx σ M:=rfl
theorem bX:(tr Γ (.set i a)).S D σ M=(tr Γ a).E σ M λx M1=>D.nx (σ.set i (some x)) M1:=rfl
theorem qFL:(tr Γ (.re a)).S D σ M=(tr Γ a).E σ M D.rt:=rfl
theorem qFO:(tr Γ (.aV t a b)).S D σ M=(tr Γ t).T σ M λc M1=>if c=true then(tr Γ a).S D σ M1 else(tr Γ b).S D σ M1:=by
 show zm _ _ _ D σ M=_;unfold zm;simp only[pU]
theorem qFQ:(tr Γ (.ex a)).S D σ M=(tr Γ a).E σ M λ_ M1=>D.nx σ M1:=rfl
theorem qFK{c:Nat}{f:Str}:(tr Γ (.sf c f o a)).S D σ M=(tr Γ a).E σ M λy M1=>(tr Γ o).E σ M1 (rj (Γ.C c) f y (D.nx σ)):=rfl
theorem qFR:(tr Γ (.dp d k a)).S D σ M=(tr Γ a).E σ M λv M1=>(tr Γ d).E σ M1 λx M2=>(tr Γ k).E σ M2 λy f=>tS f x y v (D.nx σ):=rfl
def DS(is:List Nat)(σ:bw)(N:bw->RM->Prop):ao:=λx M=>match x with| .tup xs=>xs.length=is.length/\N (vm σ is xs) M|_=>False
theorem qr2{is:List Nat}:DS is σ N (.tup xs) M=(xs.length=is.length/\N (vm σ is xs) M):=rfl
theorem qFI{is:List Nat}:(tr Γ (.un is a)).S D σ M=(tr Γ a).E σ M (DS is σ D.nx):=rfl
theorem p7{i j:Int}:jn .Add (.int i) (.int j) M Q=Q (.int (i+j)) M:=rfl
theorem qyz{i j:Int}:jn .Sub (.int i) (.int j) M Q=Q (.int (i-j)) M:=rfl
theorem qGY{i j:Int}:eC .Lt (.int i) (.int j) M Q=Q (.bl (decide (i<j))) M:=rfl
theorem qGZ{i j:Int}:eC .LtE (.int i) (.int j) M Q=Q (.bl (decide (i<=j))) M:=rfl
theorem qG1{i j:Int}:eC .Gt (.int i) (.int j) M Q=Q (.bl (decide (j<i))) M:=rfl
theorem qG2{i j:Int}:eC .GtE (.int i) (.int j) M Q=Q (.bl (decide (j<=i))) M:=rfl
theorem qG0{x:RV}:eC .Is x .aq M Q=Q (.bl (ip x)) M:=rfl
theorem qsK{x:RV}:eC .IsNot x .aq M Q=Q (.bl (!ip x)) M:=rfl
theorem qzn{i j:Int}:eC .Eq (.int i) (.int j) M Q=Q (.bl (i==j)) M:=by
 show(_/\_/\Q (.bl (bc (.int i) (.int j))) M)=_;simp[fj,aA,bc]
theorem qzl{i j:Str}:eC .Eq (.str i) (.str j) M Q=Q (.bl (i==j)) M:=by
 show(_/\_/\Q (.bl (bc (.str i) (.str j))) M)=_;simp[fj,aA,bc]
theorem qzi{i j:Int}:eC .NotEq (.int i) (.int j) M Q=Q (.bl (!(i==j))) M:=by
 show(_/\_/\Q (.bl (!bc (.int i) (.int j))) M)=_;simp[fj,aA,bc]
theorem qzh{i j:Str}:eC .NotEq (.str i) (.str j) M Q=Q (.bl (!(i==j))) M:=by
 show(_/\_/\Q (.bl (!bc (.str i) (.str j))) M)=_;simp[fj,aA,bc]
end
section
variable {Γ:G}{σ:bw}{M:RM}{Q:ao}{D:RD}{a b c d e t l h o k r it:T}{i n:Nat}{QB:Bool->RM->Prop}{QA:LR->RM->Prop}{QI:LR->(RM->Prop)->(RM->RM)->RM->Prop}{x:Addr}{f:Str}{C:Addr}{N:RM->Prop}{y v z:RV}
def wO(o:Option α)(Q:α->Prop):Prop:=match o with|some v=>Q v|none=>False
theorem mV{v:α}{Q:α->Prop}:wO (some v) Q=Q v:=rfl
def fO(C:Addr)(f:Str)(Q:ao)(M:RM)(o:Option RO):Prop:=match o with
 |some (.ins C' fs)=>C'=C/\wO (fs.lookup f) λv=>Q v M
 |_=>False
theorem qsc:rf C f Q (.ref x) M=fO C f Q M (M x):=by
 show(match M x with|some (.ins j g)=>j=C/\(match g.lookup f with|some v=>Q v M|none=>False)|_=>False)=_
 unfold fO;cases M x with
 |none=>rfl
 |some u=>
  cases u<;>first|rfl|skip
  rename_i j g;show(j=C/\(match g.lookup f with|some v=>Q v M|none=>False))=(j=C/\wO (g.lookup f) λv=>Q v M)
  cases g.lookup f<;>rfl
theorem Y3:fO C f Q M (some (.ins C fs))=wO (fs.lookup f) λv=>Q v M:=by
 show(C=C/\_)=_;rw[eq_self_iff_true,true_and]
def sO(C:Addr)(f:Str)(y:RV)(N:RM->Prop)(x:Addr)(M:RM)(o:Option RO):Prop:=match o with
 |some (.ins C' fs)=>C'=C/\fs.length<1000/\N (put M x (.ins C (jZ f y fs)))
 |_=>False
theorem qr5:rj C f y N (.ref x) M=sO C f y N x M (M x):=rfl
theorem Xz:sO C f y N x M (some (.ins C fs))=(fs.length<1000/\N (put M x (.ins C (jZ f y fs)))):=by
 show(C=C/\_)=_;rw[eq_self_iff_true,true_and]
def mO(C:Addr)(m:Str)(sp:bV)(t:bS)(σ:bw)(Q:ao)(x:Addr)(M:RM)(o:Option RO):Prop:=match o with
 |some (.ins C' fs)=>C'=C/\fs.lookup m=none/\t σ M λrs M2=>sp (.ref x::rs) M2 Q
 |_=>False
theorem qr8{sp:bV}{t:bS}:pq C m sp t σ Q (.ref x) M=mO C m sp t σ Q x M (M x):=rfl
theorem X9{sp:bV}{t:bS}:mO C m sp t σ Q x M (some (.ins C fs))=(fs.lookup m=none/\t σ M λrs M2=>sp (.ref x::rs) M2 Q):=by
 show(C=C/\_)=_;rw[eq_self_iff_true,true_and]
def gO(Q:ao)(y:RV)(M:RM)(o:Option RO):Prop:=match o.bind (sT . y)with
 |some (some v)=>Q v M
 |_=>False
theorem qn7:vX Q (.ref x) y M=gO Q y M (M x):=rfl
def iO(neg:Bool)(Q:ao)(y:RV)(M:RM)(o:Option RO):Prop:=match o.bind (sT . y)with
 |some r=>Q (.bl (if neg then !r.isSome else r.isSome)) M
 |none=>False
theorem qqP:zI neg Q (.ref x) y M=iO neg Q y M (M x):=rfl
def dO(Q:ao)(y z:RV)(M:RM)(o:Option RO):Prop:=match o.bind (sT . y)with
 |some r=>Q (r.getD z) M
 |none=>False
theorem qlu:vJ Q (.ref x) y z M=dO Q y z M (M x):=rfl
def qO(o:Option RO):Prop:=match o with
 |some (.dk _)=>True
 |some (.dt _)=>True
 |some (.fk _)=>True
 |some (.ft _)=>True
 |_=>False
theorem qst:tX M (.ref x)=qO (M x):=rfl
theorem qyg:qO (some (.dk kvs))=True:=rfl
theorem qyf:qO (some (.dt kvs))=True:=rfl
theorem qyZ:gO Q (.int m) M (some (.dk kvs))=wO (lk kvs (.inl m)) λv=>Q v M:=by
 show(match some (lk kvs (.inl m))with|some (some v)=>Q v M|_=>False)=_
 cases lk kvs (.inl m)<;>rfl
theorem qyT:iO neg Q (.int m) M (some (.dk kvs))=Q (.bl (if neg then !(lk kvs (.inl m)).isSome else(lk kvs (.inl m)).isSome)) M:=rfl
theorem qy9:dO Q (.int m) z M (some (.dk kvs))=Q ((lk kvs (.inl m)).getD z) M:=rfl
theorem yW{s:TK}(h:eZ y=some s):dO Q y z M (some (.dt kvs))=Q ((lk kvs s).getD z) M:=by
 show(match(eZ y).map (lk kvs)with|some r=>Q (r.getD z) M|none=>False)=_
 rw[h];rfl
def pO(y v:RV)(N:RM->Prop)(x:Addr)(M:RM)(o:Option RO):Prop:=match o with
 |some (.dk kvs)=>match fT y with
  |some k=>kvs.length<sizeLine/\N (put M x (.dk (pt kvs k v)))
  |none=>False
 |some (.dt kvs)=>match eZ y with
  |some k=>kvs.length<sizeLine/\N (put M x (.dt (pt kvs k v)))
  |none=>False
 |_=>False
noncomputable def xm (y:RV)(N:RM->Prop)(x:Addr)(M:RM):Option RO->Prop
 |some (.dk kvs)=>match fT y with
  |some k=>(lk kvs k).isSome=true/\N (put M x (.dk (dr kvs k)))
  |none=>False
 |some (.dt kvs)=>match eZ y with
  |some k=>(lk kvs k).isSome=true/\N (put M x (.dt (dr kvs k)))
  |none=>False
 |_=>False
theorem qsF:q8 M (.ref x) y N=xm y N x M (M x):=rfl
theorem qvK:xm (.int m) N x M (some (.dk kvs))=((lk kvs (.inl m)).isSome=true/\N (put M x (.dk (dr kvs (.inl m))))):=rfl
theorem BR{s:TK}(h:eZ y=some s):xm y N x M (some (.dt kvs))=((lk kvs s).isSome=true/\N (put M x (.dt (dr kvs s)))):=by
 unfold xm;simp only[h]
theorem qsC:tS M (.ref x) y v N=pO y v N x M (M x):=rfl
theorem qys:pO (.int m) v N x M (some (.dk kvs))=(kvs.length<sizeLine/\N (put M x (.dk (pt kvs (.inl m) v)))):=rfl
theorem qd{s:TK}(h:eZ y=some s):pO y v N x M (some (.dt kvs))=(kvs.length<sizeLine/\N (put M x (.dt (pt kvs s v)))):=by
 show(match eZ y with|some k=>kvs.length<sizeLine/\N (put M x (.dt (pt kvs k v)))|none=>False)=_
 rw[h]
def aO(t:bS)(σ:bw)(Q:ao)(x:Addr)(M:RM)(o:Option RO):Prop:=match o with
 |some (.lst _)=>t σ M λrs M2=>∃g y,rs= [y]/\M2 x=some (.lst g)/\g.length<sizeLine/\Q .aq (put M2 x (.lst (g++ [y])))
 |_=>False
def DO(t:bS)(σ:bw)(Q:ao):ao:=λv M=>match v with
 | .ref x=>aO t σ Q x M (M x)
 |_=>False
theorem qFn:(tr Γ (.ap o a)).E σ M Q=(tr Γ o).E σ M (DO (tr Γ a).A σ Q):=by
 show zo _ _ σ M Q=_;unfold zo;congr 1;funext v M1;cases v<;>try rfl
 rename_i p;show((∃g,M1 p=some (.lst g))/\_)=aO _ _ _ p M1 (M1 p);cases e:M1 p with
 |none=>exact propext ⟨λz=>(by obtain⟨⟨_,z⟩,_⟩:=z;cases z),λz=>z.elim⟩
 |some u=>cases u<;>first|exact propext ⟨λz=>(by obtain⟨⟨_,z⟩,_⟩:=z;cases z),λz=>z.elim⟩|exact propext ⟨λz=>z.2,λz=>⟨⟨_,rfl⟩,z⟩⟩
theorem qsd{t:bS}:DO t σ Q (.ref x) M=aO t σ Q x M (M x):=rfl
theorem qwl{t:bS}:aO t σ Q x M (some (.lst xs))=t σ M λrs M2=>∃g y,rs= [y]/\M2 x=some (.lst g)/\g.length<sizeLine/\Q .aq (put M2 x (.lst (g++ [y]))):=rfl
theorem bI:dR (.tup xs) (.int m) M Q=wO (bE xs m) λv=>Q v M:=by
 show(match bE xs m with|some v=>Q v M|none=>False)=_
 cases bE xs m<;>rfl
theorem XU:dR (.ls xs) (.int m) M Q=wO (bE xs m) λv=>Q v M:=by
 show(match bE xs m with|some v=>Q v M|none=>False)=_
 cases bE xs m<;>rfl
def xO(m:Int)(Q:ao)(M:RM)(o:Option RO):Prop:=match o with
 |some (.lst xs)=>wO (bE xs m) λv=>Q v M
 |_=>False
theorem qta:dR (.ref x) (.int m) M Q=xO m Q M (M x):=by
 show(match M x with|some (.lst g)=>(match bE g m with|some v=>Q v M|none=>False)|_=>False)=_
 unfold xO;cases M x with
 |none=>rfl
 |some u=>
  cases u<;>first|rfl|skip
  rename_i g;show(match bE g m with|some v=>Q v M|none=>False)=wO (bE g m) λv=>Q v M
  cases bE g m<;>rfl
theorem qtc:xO m Q M (some (.lst xs))=wO (bE xs m) λv=>Q v M:=rfl
theorem qvX{lo hi:Option Int}:og (.tup xs) lo hi M Q=Q (.tup (gu xs lo hi)) M:=rfl
theorem qzc{lo hi:Option Int}:og (.ls xs) lo hi M Q=Q (.ls (gu xs lo hi)) M:=rfl
theorem qE2:(tr Γ (.lv md a)).E σ M Q=(tr Γ a).E σ M (tZ md Q):=rfl
def vO(md:Bool)(Q:ao)(M:RM)(o:Option RO):Prop:=wO (o.bind vS) λxs=>j3 md xs M Q
theorem qr9:tZ md Q (.ref x) M=vO md Q M (M x):=by
 show(match(M x).bind vS with|some g=>j3 md g M Q|none=>False)=_
 unfold vO;cases(M x).bind vS<;>rfl
theorem qxb:vO md Q M (some (.dk kvs))=j3 md (kvs.map (·.2)) M Q:=rfl
theorem qxa:vO md Q M (some (.dt kvs))=j3 md (kvs.map (·.2)) M Q:=rfl
theorem sA:j3 false xs M Q=Q (.ls xs) M:=rfl
theorem qvG:j3 true xs M Q= ∀p,M p=none->Q (.ref p) (put M p (.lst xs)):=rfl
def DR(i j:Nat)(σ:bw)(N:bw->RM->Prop):LR->RM->Prop:=λrs M1=>match rs with
 | [v,w]=>N ((σ.set i (some v)).set j (some w)) M1
 |_=>False
theorem qFN:(tr Γ (.pr i j a)).S D σ M=(tr Γ a).A σ M (DR i j σ D.nx):=rfl
theorem qr7{j:Nat}{N:bw->RM->Prop}:DR i j σ N [v,y] M=N ((σ.set i (some v)).set j (some y)) M:=rfl
theorem Fc{c:Nat}:(tr Γ (.af c f o a)).S D σ M=(tr Γ o).E σ M (ph (Γ.C c) f (tr Γ a).E σ (D.nx σ)):=rfl
theorem qFJ:(tr Γ (.sp l k a)).S D σ M=(tr Γ a).E σ M λv M1=>(tr Γ l).E σ M1 λo M2=>(tr Γ k).E σ M2 λi M3=>p8 o i v M3 λM4=>D.nx σ M4:=rfl
theorem qFP{tup:Bool}{is:List Nat}:(tr Γ (.fo tup is it b)).S D σ M=(tr Γ it).I σ M λxs ok un M1=>jw (match tup,is with|true,is=>wu is|false,[i]=>ja i|_,_=>λ_ _ _ _=>False) (tr Γ b).S D ok un xs σ M1:=rfl
noncomputable def kS (Q:LR->(RM->Prop)->(RM->RM)->RM->Prop):ao:=λv M1=>match v with
 | .tup xs=>Q xs cZ id M1
 | .ls xs=>Q xs cZ id M1
 | .ref a=>match M1 a with
  |some (.lst xs)=>Q xs (λM=>M a=some (.lst xs)) id M1
  |_=>False
 |_=>False
theorem qGB:(tr Γ (.is a)).I σ M QI=(tr Γ a).E σ M (kS QI):=rfl
theorem Ng:kS QI (.ls xs) M=QI xs cZ id M:=rfl
theorem qvj:kS QI (.tup xs) M=QI xs cZ id M:=rfl
theorem qGz:(tr Γ (.r1 a)).I σ M QI=(tr Γ a).E σ M λv M1=>vE QI [v] M1:=rfl
theorem qx8:vE QI [.int m] M=(-(2 ^ 62)<=m/\m<2 ^ 62/\QI (nums m.toNat) cZ id M):=rfl
theorem qGA:(tr Γ (.iv a)).I σ M QI=(tr Γ a).E σ M (sQ false QI):=rfl
theorem qGC:(tr Γ (.im a)).I σ M QI=(tr Γ a).E σ M (qz QI):=rfl
theorem qFh{md tup:Bool}{nm:aB}:(tr Γ (.cp md tup nm cap it t a)).E σ M Q=(tr Γ it).I σ M λxs ok un M1=>xs.length<sizeLine/\gb (fv tup nm.length) md ok un (tr Γ t).T (tr Γ a).E ((cap.map Prod.fst).map λi=>(σ[i]?).join) xs [] M1 Q:=rfl
theorem Cg{md tup:Bool}{nm:aB}:(tr Γ (.sc i md tup nm cap it t a)).S D σ M=(tr Γ (.cp md tup nm cap it t a)).E σ M λx M1=>D.nx (σ.set i (some x)) M1:=rfl
theorem iB{un:RM->RM}{tt:dJ}{te:au}{base:List (Option RV)}{Q:ao}(p:RV->Bool)(g:RV->RV)(av:ok M):∀(xs acc:LR),
 (∀x∈xs,∃bs,bd x=some bs/\(∀K:Bool->RM->Prop,K (p x) M->tt (bs.map some++base) M K)/\(p x=true->∀K:ao,K (g x) M->te (bs.map some++base) M K))->
 j3 md (acc++(xs.filter p).map g) (un M) Q->gb bd md ok un tt te base xs acc M Q
 | [],acc,_,h=>⟨av,by simpa using h⟩
 |x::xs,acc,hx,h=>by
  obtain⟨bs,h1,h2,h3⟩:=hx x (.head _);have hx':=λy hy=>hx y (gv x hy)
  refine⟨av,?_⟩;rw[h1];refine h2 _ ⟨λhp=>h3 hp _ (iB p g av xs _ hx' ?_),λhp=>iB p g av xs _ hx' ?_⟩
  . rw[List.filter_cons_of_pos hp,bU]at h
    simpa using h
  . rw[List.filter_cons_of_neg (by simp[hp])]at h
    exact h
theorem Bf{g:ji}{tb:c9}{ok:RM->Prop}{un:RM->RM}(I:LR->bw->RM->Prop)(av:∀xs σ M,I xs σ M->ok M)(hend:∀σ M,I [] σ M->D.nx σ (un M))
 (hstep:∀x xs σ M (W:LR->bw->RM->Prop),I (x::xs) σ M->(∀σ' M',I xs σ' M'->W xs σ' M')->g x σ M λσ2 M2=>tb { D with nx:=W xs,ct:=W xs,bk:=λσ M=>ok M/\D.nx σ (un M),rt:=λv M=>ok M/\D.rt v (un M) } σ2 M2):∀xs σ M,I xs σ M->jw g tb D ok un xs σ M
 | [],σ,M,h=>⟨av _ _ _ h,hend _ _ h⟩
 |x::xs,σ,M,h=>⟨av _ _ _ h,hstep x xs σ M (λxs=>jw g tb D ok un xs) h λσ' M' h'=>Bf I av hend hstep xs σ' M' h'⟩
theorem qwf{i:Int}:fy "isinstance" [.int i,.ty "int"] M Q=Q (.bl true) M:=rfl
theorem qwg{i:Int}:fy "isinstance" [.int i,.ty "bool"] M Q=Q (.bl false) M:=rfl
theorem qsV{b:Bool}:fy "isinstance" [.bl b,.ty "bool"] M Q=Q (.bl true) M:=rfl
theorem qwe{x:Str}:fy "isinstance" [.str x,.ty "str"] M Q=Q (.bl true) M:=rfl
theorem qwd:fy "isinstance" [.tup xs,.ty "tuple"] M Q=Q (.bl true) M:=rfl
theorem qsS:fy "len" [.tup xs] M Q=Q (.int xs.length) M:=rfl
theorem qsT{x:Str}:fy "len" [.str x] M Q=(x.length<=sizeLine/\Q (.int x.length) M):=rfl
theorem qsU:fy "len" [.ls xs] M Q=Q (.int xs.length) M:=rfl
theorem qwc{i j:Int}:fy "max" [.int i,.int j] M Q=Q (.int (if j > i then j else i)) M:=rfl
theorem qwb{x:Str}:fy "ord" [.str x] M Q=(x.length=1/\Q (.int (x.cps.getD 0 0:Nat)) M):=rfl
theorem Mz{bs:List Bool}:fy "all" [.ls (bs.map RV.bl)] M Q=Q (.bl (bs.all id)) M:=by
 refine propext ⟨λh=>?_,λh=>⟨bs,rfl,h⟩⟩
 obtain⟨g,e,h⟩:=h;have e:bs.map RV.bl=g.map RV.bl:=by injection e with e1 _;injection e1
 have:bs=g:=List.map_inj_right (λa b z=>by cases z;rfl)|>.mp e
 subst this;exact h
theorem N7{a b:Bool}:(if a=true then Q (.bl b) M else Q (.bl false) M)=Q (.bl (a&&b)) M:=by cases a<;>rfl
theorem qFM:(tr Γ .ra).S D σ M=False:=rfl
theorem qGx:(tr Γ (.st a)).I σ M QI=(tr Γ a).E σ M λv M1=>match v with| .str x=>QI (mY x) cZ id M1|_=>False:=rfl
theorem qsp:ip .aq=true:=rfl
theorem qsn{x:Str}:ip (.str x)=false:=rfl
theorem qsq{i:Int}:ip (.int i)=false:=rfl
theorem qso:ip (.ref x)=false:=rfl
theorem qsm:ip (.tup xs)=false:=rfl
theorem qoc{x:Str}:(x==x)=true:=by simp
theorem qv2{x:Str}:eC .Eq .aq (.str x) M Q=Q (.bl false) M:=by
 show(_/\_/\Q (.bl (bc .aq (.str x))) M)=_;simp[fj,aA,bc]
theorem i8{g:Type}{xs:List g}{k:Nat}{v:g}(h:xs[k]? =some v):bE xs (k:Int)=some v:=by
 have j:k<xs.length:=(jG.mp h).1;have e:fz xs.length (k:Int)=some k:=by
  unfold fz;simp;omega
 unfold bE;rw[e];exact h
theorem Ol{j:Type}{g:j}{r:List j}:bE (g::r) 0=some g:=i8 (k:=0) rfl
theorem Oj{j:Type}{m g:j}{r:List j}:bE (m::g::r) 1=some g:=i8 (k:=1) rfl
theorem PV{j:Type}{m s g:j}{r:List j}:bE (m::s::g::r) 2=some g:=i8 (k:=2) rfl
theorem PU{j:Type}{m s u g:j}{r:List j}:bE (m::s::u::g::r) 3=some g:=i8 (k:=3) rfl
theorem PQ{j:Type}{m s u w g:j}{r:List j}:bE (m::s::u::w::g::r) 4=some g:=i8 (k:=4) rfl
theorem PN{j:Type}{m s u w A g:j}{r:List j}:bE (m::s::u::w::A::g::r) 5=some g:=i8 (k:=5) rfl
theorem PM{j:Type}{m s u w A E g:j}{r:List j}:bE (m::s::u::w::A::E::g::r) 6=some g:=i8 (k:=6) rfl
theorem PL{j:Type}{m s u w A E F g:j}{r:List j}:bE (m::s::u::w::A::E::F::g::r) 7=some g:=i8 (k:=7) rfl
theorem z_0:(0<=sizeLine)=True:=eq_true (by decide)
theorem qEt:(0<sizeLine)=True:=eq_true (by decide)
theorem qGX:((0:Nat):Int)=0:=rfl
theorem z_1:(1<=sizeLine)=True:=eq_true (by decide)
theorem qEs:(1<sizeLine)=True:=eq_true (by decide)
theorem qGW:((1:Nat):Int)=1:=rfl
theorem z_2:(2<=sizeLine)=True:=eq_true (by decide)
theorem qEr:(2<sizeLine)=True:=eq_true (by decide)
theorem qGV:((2:Nat):Int)=2:=rfl
theorem z_3:(3<=sizeLine)=True:=eq_true (by decide)
theorem qEq:(3<sizeLine)=True:=eq_true (by decide)
theorem qGU:((3:Nat):Int)=3:=rfl
theorem z_4:(4<=sizeLine)=True:=eq_true (by decide)
theorem qEp:(4<sizeLine)=True:=eq_true (by decide)
theorem qGT:((4:Nat):Int)=4:=rfl
theorem z_5:(5<=sizeLine)=True:=eq_true (by decide)
theorem qEo:(5<sizeLine)=True:=eq_true (by decide)
theorem qGS:((5:Nat):Int)=5:=rfl
theorem z_6:(6<=sizeLine)=True:=eq_true (by decide)
theorem qEn:(6<sizeLine)=True:=eq_true (by decide)
theorem qGR:((6:Nat):Int)=6:=rfl
theorem z_7:(7<=sizeLine)=True:=eq_true (by decide)
theorem qEm:(7<sizeLine)=True:=eq_true (by decide)
theorem qGQ:((7:Nat):Int)=7:=rfl
theorem z_8:(8<=sizeLine)=True:=eq_true (by decide)
theorem qEl:(8<sizeLine)=True:=eq_true (by decide)
theorem qGP:((8:Nat):Int)=8:=rfl
theorem z_9:(9<=sizeLine)=True:=eq_true (by decide)
theorem qEk:(9<sizeLine)=True:=eq_true (by decide)
theorem qGO:((9:Nat):Int)=9:=rfl
theorem Yc{k:Nat}:(((k+1:Nat):Int)==0)=false:=by simp;omega
theorem GR{x:RV}{r:LR}:gu (x::r) (some 1) none=r:=by
 unfold gu;rw[show HT.aR (x::r).length 0 (some 1)=1 from by show min 1 (r.length+1)=1;omega,HT.jC]
 simp
def tO(g:Option Key)(kvs:bT)(Q:ao)(M:RM):Prop:=match g with
 |some k=>wO (eY kvs k) λv=>Q v M
 |none=>False
theorem qER{x:Str}:(tr Γ (.tx x a)).E σ M Q=(tr Γ a).E σ M λy M1=>tO (fT y) (Γ.tb x) Q M1:=by
 show zh (Γ.tb x) _ σ M Q=_;unfold zh;congr 1;funext y M1;unfold tO wO;generalize fT y=q;cases q with
 |none=>rfl
 |some k=>
  dsimp only;cases eY (Γ.tb x) k<;>rfl
theorem qtt{x:Str}:tO (fT (.str x)) kvs Q M=wO (eY kvs (.inr x)) λv=>Q v M:=rfl
theorem qET{x:Str}:(tr Γ (.tn x a)).E σ M Q=(tr Γ a).E σ M (ym (Γ.tb x) Q):=rfl
theorem qr3{x:Str}:ym kvs Q (.str x) M=Q (.bl (!(eY kvs (.inr x)).isSome)) M:=rfl
noncomputable def DP (g:List (Addr×bV))(t:bS)(σ:bw)(Q:ao):ao:=λv M1=>match v with
 | .ref f=>∃sp,(f,sp)∈g/\t σ M1 λrs M2=>sp rs M2 Q
 |_=>False
theorem qFg:(tr Γ (.cv i a)).E σ M Q=(tr Γ (.v i)).E σ M (DP Γ.ia (tr Γ a).A σ Q):=rfl
theorem Uc{t:bS}:DP ia t σ Q (.ref x) M= ∃sp,(x,sp)∈ia/\t σ M λrs M2=>sp rs M2 Q:=rfl
theorem qE3:(tr Γ (.lr a b)).E σ M Q=(tr Γ a).E σ M λx M1=>(tr Γ b).E σ M1 λy M2=>tY Q [x,y] M2:=rfl
theorem qsa{i j:Int}:tY Q [.int i,.int j] M=((-1000000<=i/\i<=1000000/\-1000000<=j/\j<=1000000)/\(j-i).toNat<=1000/\Q (.ls (jS i (j-i).toNat)) M):=rfl
theorem qEW{c:Nat}{f:Str}{a:T}:(tr Γ (.sk c f a)).E σ M Q=(tr Γ a).E σ M (Ao (Γ.C c) f Γ.lP Γ.S.lp Γ.S.lq Q):=rfl
theorem qFS:(tr Γ (.dd d k)).S D σ M=(tr Γ d).E σ M λx M1=>(tr Γ k).E σ M1 λy M2=>q8 M2 x y (D.nx σ):=rfl
theorem quU:jn .Add (.ls xs) (.ls ys) M Q=(xs.length+ys.length<=sizeLine/\Q (.ls (xs++ys)) M):=rfl
theorem quT:jn .Add (.tup xs) (.tup ys) M Q=(xs.length+ys.length<=sizeLine/\Q (.tup (xs++ys)) M):=rfl
theorem qGy:(tr Γ (.r2 a b)).I σ M QI=(tr Γ a).E σ M λx M1=>(tr Γ b).E σ M1 λy M2=>yJ QI [x,y] M2:=rfl
theorem Mn:fy "sorted" [.ls xs] M Q=qp xs M Q:=rfl
theorem Xw{ns:List Int}(h:M x=some (.dk kvs))(j:kvs.map (·.1)=ns.map Sum.inl)(m:ns.length<64)(s:∀g:List Int,g.Perm ns->g.Pairwise (. <= ·)->Q (.ls (g.map RV.int)) M):fy "sorted" [.ref x] M Q:=by
 show vq [.ref x] M Q;unfold vq;simp only[h];exact⟨x,kvs,ns,rfl,h,j,m,s⟩
theorem Ki{g:List TK}(m:g.length<64)(j:jT g=true)(s:Q (.ls ((ju g).map bu)) M):qp (g.map bu) M Q:=by
 have e:∀g:List TK,rowsOf (g.map bu)=some g:=by
  intro g
  induction g with
  |nil=>rfl
  |cons r rs ih=>
   have kt:∀k:TK,gB (k.map oR)=some k:=by
    intro k
    induction k with
    |nil=>rfl
    |cons o k ihk=>
     have e1:n9 (oR o)=some o:=by cases o with|none=>rfl|some z=>cases z<;>rfl
     show(match n9 (oR o),gB (k.map oR)with|some k,some ks=>some (k::ks)|_,_=>none)=_
     rw[e1,ihk]
   show(match eZ (bu r),rowsOf (rs.map bu)with|some k,some ks=>some (k::ks)|_,_=>none)=_
   rw[show eZ (bu r)=some r from kt r,ih]
 unfold qp;rw[e];exact⟨m,j,s⟩
theorem qyC{i j:Int}:jn .Mod (.int i) (.int j) M Q=(0<j/\Q (.int (i % j)) M):=rfl
theorem qyD{i j:Int}:jn .FloorDiv (.int i) (.int j) M Q=((0<j/\j<1073741824)/\Q (.int (i / j)) M):=rfl
theorem qyA{i j:Int}:jn .Pow (.int i) (.int j) M Q=((0<=j/\j<=1000000/\i.natAbs<2 ^ 64)/\Q (.int (i ^ j.toNat)) M):=rfl
theorem qyB{i j:Int}:jn .Mult (.int i) (.int j) M Q=(g9 i j/\Q (.int (i*j)) M):=rfl
def lO(k:Int)(v:RV)(N:RM->Prop)(x:Addr)(M:RM)(o:Option RO):Prop:=match o with
 |some (.lst xs)=>wO (fz xs.length k) λj=>N (put M x (.lst (xs.set j v)))
 |_=>False
theorem qqZ:p8 (.ref x) (.int m) v M N=lO m v N x M (M x):=by
 show(match M x with|some (.lst g)=>(match fz g.length m with|some j=>N (put M x (.lst (g.set j v)))|none=>False)|_=>False)=_
 unfold lO;cases M x with
 |none=>rfl
 |some u=>
  cases u<;>first|rfl|skip
  rename_i g;show(match fz g.length m with|some j=>N (put M x (.lst (g.set j v)))|none=>False)=wO (fz g.length m) λj=>N (put M x (.lst (g.set j v)))
  cases fz g.length m<;>rfl
theorem yD:lO m v N x M (some (.lst xs))=wO (fz xs.length m) λj=>N (put M x (.lst (xs.set j v))):=rfl
theorem qyO:fz 3 0=some 0:=rfl
theorem qyN:fz 3 1=some 1:=rfl
theorem qyM:fz 3 2=some 2:=rfl
end
end R
namespace K12
open PySem PySem.Spec PyProof.Rows L2 R
def top(i:Nat):Stmt:=PySem.Challenge.pw_lentgate_k12_told_as_lost.main.body.getD i (.Pass ⟨0,0,0,0⟩)
section
local macro_rules | `($a ^ $b) => `(T.ec $a $b)
local macro_rules | `($a >=> $b) => `(T.se $a $b)
noncomputable def xP:FD:=⟨0,0,"is_whole",["thing"],["thing"],.re (.an (.bf "isinstance" (.v 0^.ty "int"^.e0)) (.no (.bf "isinstance" (.v 0^.ty "bool"^.e0))))>=>.en⟩
noncomputable def xT:FD:=⟨0,0,"is_house",["thing"],["thing"],.re (.ca 54 (.v 0^.i 0^.g "GREATEST_HOUSE"^.e0))>=>.en⟩
noncomputable def ye:FD:=⟨0,0,"is_door",["thing"],["thing"],.re (.ca 54 (.v 0^.i 1^.g "GREATEST_DOOR"^.e0))>=>.en⟩
noncomputable def xS:FD:=⟨0,0,"is_place",["thing"],["thing"],.re (.ca 54 (.v 0^.i 0^.g "GREATEST_PLACE"^.e0))>=>.en⟩
noncomputable def xy:FD:=⟨0,0,"is_outer_place",["thing"],["thing"],.re (.ca 54 (.v 0^.i 1^.g "GREATEST_PLACE"^.e0))>=>.en⟩
noncomputable def xR:FD:=⟨0,0,"is_ticks",["thing"],["thing"],.re (.ca 54 (.v 0^.i 0^.g "GREATEST_TICKS"^.e0))>=>.en⟩
noncomputable def yc:FD:=⟨0,0,"is_kind",["thing"],["thing"],.re (.ic false (.v 0) "KINDS")>=>.en⟩
noncomputable def Km:FD:=⟨0,0,"is_sign",["sign"],["sign","at"],.set 1 (.bf "ord" (.v 0^.e0))>=>.re (.an (.ch .LtE .LtE (.g "FIRST_SIGN") (.v 1) (.g "LAST_SIGN")) (.cm .NotEq (.v 1) (.g "PERCENT_SIGN")))>=>.en⟩
noncomputable def ya:FD:=⟨0,0,"is_text",["thing"],["thing"],.aV (.or (.no (.bf "isinstance" (.v 0^.ty "str"^.e0))) (.cm .Gt (.bf "len" (.v 0^.e0)) (.g "MOST_SIGNS"))) (.re (.b false)>=>.en) .en>=>.re (.bf "all" (.cp false false ["sign"] [] (.st (.v 0)) (.b true) (.ca 7 (.v 0^.e0))^.e0))>=>.en⟩
noncomputable def vj:FD:=⟨0,0,"is_out",["parts"],["parts","kind","house","door","place","far","word","text"],.aV (.cm .NotEq (.bf "len" (.v 0^.e0)) (.i 7)) (.re (.b false)>=>.en) .en>=>.un [1,2,3,4,5,6,7] (.v 0)>=>.re (.an (.ca 1 (.v 2^.e0)) (.an (.ca 2 (.v 3^.e0)) (.an (.ca 3 (.v 4^.e0)) (.an (.ca 2 (.v 5^.e0)) (.ca 55 (.v 1^.v 6^.v 7^.e0))))))>=>.en⟩
noncomputable def uZ:FD:=⟨0,0,"is_come",["parts"],["parts","kind","place","far","number","word","text"],.aV (.cm .NotEq (.bf "len" (.v 0^.e0)) (.i 6)) (.re (.b false)>=>.en) .en>=>.un [1,2,3,4,5,6] (.v 0)>=>.re (.an (.ca 4 (.v 2^.e0)) (.an (.ca 2 (.v 3^.e0)) (.an (.ca 2 (.v 4^.e0)) (.ca 55 (.v 1^.v 5^.v 6^.e0)))))>=>.en⟩
noncomputable def vh:FD:=⟨0,0,"is_lost",["parts"],["parts","teller","kind","number","place","far"],.aV (.cm .NotEq (.bf "len" (.v 0^.e0)) (.i 5)) (.re (.b false)>=>.en) .en>=>.un [1,2,3,4,5] (.v 0)>=>.re (.an (.ca 4 (.v 1^.e0)) (.an (.ca 6 (.v 2^.e0)) (.an (.ca 2 (.v 3^.e0)) (.an (.ca 4 (.v 4^.e0)) (.ca 2 (.v 5^.e0))))))>=>.en⟩
noncomputable def vf:FD:=⟨0,0,"is_wait",["parts"],["parts"],.re (.an (.cm .Eq (.bf "len" (.v 0^.e0)) (.i 1)) (.ca 5 (.ix (.v 0) (.i 0)^.e0)))>=>.en⟩
noncomputable def vg:FD:=⟨0,0,"is_rule",["parts"],["parts","kind","number","place","house","door"],.aV (.cm .NotEq (.bf "len" (.v 0^.e0)) (.i 5)) (.re (.b false)>=>.en) .en>=>.un [1,2,3,4,5] (.v 0)>=>.aV (.an (.cm .IsNot (.v 3) .n) (.no (.ca 3 (.v 3^.e0)))) (.re (.b false)>=>.en) .en>=>.re (.an (.ca 6 (.v 1^.e0)) (.an (.ca 2 (.v 2^.e0)) (.an (.ca 1 (.v 4^.e0)) (.ca 2 (.v 5^.e0)))))>=>.en⟩
noncomputable def x8:FD:=⟨0,0,"name_of",["thing"],["thing"],.aV (.or (.no (.bf "isinstance" (.v 0^.ty "tuple"^.e0))) (.or (.cm .Eq (.bf "len" (.v 0^.e0)) (.i 0)) (.no (.bf "isinstance" (.ix (.v 0) (.i 0)^.ty "str"^.e0))))) (.re .n>=>.en) .en>=>.re (.ix (.v 0) (.i 0))>=>.en⟩
noncomputable def yf:FD:=⟨0,0,"is_deed",["thing"],["thing","name","has_parts"],.set 1 (.ca 14 (.v 0^.e0))>=>.aV (.tn "DEEDS" (.v 1)) (.re (.b false)>=>.en) .en>=>.set 2 (.tx "DEEDS" (.v 1))>=>.re (.cv 2 (.sl (.v 0) (.p1 (.i 1)) .p0^.e0))>=>.en⟩
noncomputable def xQ:FD:=⟨0,0,"is_times",["thing"],["thing","lives"],.aV (.or (.no (.bf "isinstance" (.v 0^.ty "tuple"^.e0))) (.cm .NotEq (.bf "len" (.v 0^.e0)) (.i 4))) (.re (.b false)>=>.en) .en>=>.set 1 (.bf "all" (.cp false false ["time"] [] (.is (.sl (.v 0) .p0 (.p1 (.i 3)))) (.b true) (.ca 54 (.v 0^.i 1^.g "GREATEST_TIME"^.e0))^.e0))>=>.re (.an (.v 1) (.ca 54 (.ix (.v 0) (.i 3)^.i 0^.g "GREATEST_TIME"^.e0)))>=>.en⟩
noncomputable def IZ:T:=.re (.an (.ca 30 (.v 1^.v 2^.e0)) (.ca 16 (.v 8^.e0)))>=>.en
noncomputable def I0:T:=.aV (.or (.no (.ca 54 (.v 6^.i 1^.g "GREATEST_MOST"^.e0))) (.no (.bf "isinstance" (.v 7^.ty "bool"^.e0)))) (.re (.b false)>=>.en) .en>=>IZ
noncomputable def HR:T:=.aV (.or (.ic true (.v 3) "LENDINGS") (.or (.ic true (.v 4) "SIEVES") (.ic true (.v 5) "PICKS"))) (.re (.b false)>=>.en) .en>=>I0
noncomputable def HS:T:=.un [1,2,3,4,5,6,7,8] (.v 0)>=>HR
noncomputable def HU:T:=.aV (.or (.no (.bf "isinstance" (.v 0^.ty "tuple"^.e0))) (.cm .NotEq (.bf "len" (.v 0^.e0)) (.i 8))) (.re (.b false)>=>.en) .en>=>HS
noncomputable def yd:FD:=⟨0,0,"is_form",["thing"],["thing","low","high","lending","sieve","pick","most","renew","times"],HU⟩
noncomputable def uQ:FD:=⟨2,0,"__init__",["self"],["self"],.sf 0 "many_told" (.v 0) (.i 0)>=>.sf 0 "standing" (.v 0) .dk>=>.en⟩
noncomputable def ui:FD:=⟨1,1,"from_mark",["self"],["self"],.re (.op .Add (.lr (.fl 1 "mark" (.v 0)) (.op .Add (.fl 1 "high" (.v 0)) (.i 1))) (.lr (.fl 1 "low" (.v 0)) (.fl 1 "mark" (.v 0))))>=>.en⟩
noncomputable def pK:FD:=⟨1,3,"living",["self"],["self"],.re (.lv false (.fl 3 "by_inner" (.v 0)))>=>.en⟩
noncomputable def xN:FD:=⟨0,0,"talk_row",["talk"],["talk","kind","house","door","place","far"],.un [1,2,3,4,5] (.fl 2 "inner" (.v 0))>=>.re (.tu (.v 1^.fl 2 "number" (.v 0)^.v 2^.v 3^.v 4^.v 5^.fl 2 "state" (.v 0)^.fl 2 "over" (.v 0)^.e0))>=>.en⟩
noncomputable def ud:FD:=⟨1,4,"moment",["self"],["self"],.re (.fl 3 "now" (.fl 4 "table" (.v 0)))>=>.en⟩
noncomputable def uI:FD:=⟨1,4,"free",["self"],["self"],.re (.me 37 (.fl 3 "pool" (.fl 4 "table" (.v 0))) (.fl 3 "now" (.fl 4 "table" (.v 0))^.e0))>=>.en⟩
noncomputable def uU:FD:=⟨1,4,"lends",["self"],["self"],.re (.bf "sorted" (.cp false true ["number","holder"] [] (.im (.fl 3 "holders" (.fl 4 "table" (.v 0)))) (.b true) (.op .Add (.tu (.v 0^.e0)) (.v 1))^.e0))>=>.en⟩
noncomputable def uR:FD:=⟨1,4,"talks",["self"],["self"],.re (.bf "sorted" (.cp false false ["talk"] [] (.is (.me 20 (.fl 4 "table" (.v 0)) .e0)) (.b true) (.ca 21 (.v 0^.e0))^.e0))>=>.en⟩
noncomputable def uS:FD:=⟨1,4,"rests",["self"],["self"],.re (.me 36 (.fl 3 "pool" (.fl 4 "table" (.v 0))) (.fl 3 "now" (.fl 4 "table" (.v 0))^.e0))>=>.en⟩
noncomputable def Jc:T:=.re (.tu (.v 1^.v 2^.cp false false ["k"] [(0,"bag")] (.r1 (.i 3)) (.b true) (.op .Add (.i 1) (.ca 52 (.v 1^.i 9999^.e0)))^.e0))>=>.en
noncomputable def Jd:T:=.sc 2 false false ["k"] [(0,"bag")] (.r1 (.i 3)) (.b true) (.op .Add (.i 1) (.ca 52 (.v 1^.i 1000000^.e0)))>=>Jc
noncomputable def Je:T:=.sc 1 false false ["k"] [(0,"bag")] (.r1 (.i 3)) (.b true) (.tu (.ca 52 (.v 1^.i 100^.e0)^.op .Add (.i 1) (.ca 52 (.v 1^.i 9999^.e0))^.e0))>=>Jd
noncomputable def xH:FD:=⟨0,0,"_law_a_world",["bag"],["bag","doors","places"],Je⟩
def IC:T:=.re (.b true)>=>.en
noncomputable def MC:T:=.aV (.or (.no (.v 11)) (.cm .NotEq (.cp false false ["end"] [(6,"own")] (.is (.v 12)) (.cm .NotEq (.d1 (.v 1) (.ix (.v 0) (.i 0))) (.ix (.v 0) (.i 1))) (.v 0)) (.ll .e0))) (.re (.b false)>=>.en) .en>=>.en
noncomputable def vB:T:=.sc 12 false false ["row"] [] (.is (.me 25 (.v 4) .e0)) (.b true) (.tu (.tu (.ix (.v 0) (.i 0)^.ix (.v 0) (.i 1)^.ix (.v 0) (.i 4)^.ix (.v 0) (.i 5)^.e0)^.sl (.v 0) (.p1 (.i 2)) (.p1 (.i 4))^.e0))>=>MC
noncomputable def AV:T:=.set 11 (.ca 74 (.v 1^.v 6^.v 4^.v 3^.e0))>=>.en
noncomputable def Ju:T:=.set 11 (.ca 77 (.v 1^.v 6^.v 4^.v 3^.v 5^.e0))>=>.en
noncomputable def Jk:T:=.set 11 (.cm .Eq (.me 83 (.v 4) (.ix (.v 13) (.i 0)^.ix (.v 13) (.i 4)^.ix (.v 13) (.i 5)^.ix (.v 13) (.i 1)^.s "break"^.s ""^.e0)) (.tu (.s "in"^.ix (.v 13) (.i 2)^.ix (.v 13) (.i 3)^.e0)))>=>.en
noncomputable def Jl:T:=.set 13 (.ix (.cp false false ["row"] [] (.is (.me 25 (.v 4) .e0)) (.cm .Eq (.ix (.v 0) (.i 0)) (.s "line")) (.v 0)) (.i 0))>=>Jk
noncomputable def AB:T:=.set 11 (.ca 69 (.v 1^.v 4^.v 3^.e0))>=>.en
noncomputable def AD:T:=.aV (.an (.cm .Eq (.v 10) (.i 6)) (.cm .NotEq (.cp false false ["row"] [] (.is (.me 25 (.v 4) .e0)) (.cm .Eq (.ix (.v 0) (.i 0)) (.s "line")) (.v 0)) (.ll .e0))) Jl AB>=>.en
noncomputable def Jt:T:=.aV (.cm .Eq (.v 10) (.i 5)) (.ex (.me 45 (.v 4) (.ca 52 (.v 1^.i 31^.e0)^.e0))>=>.en) AD>=>.en
noncomputable def Kf:T:=.aV (.cm .Lt (.v 10) (.i 5)) Ju Jt>=>.en
noncomputable def BN:T:=.aV (.or (.cm .Lt (.v 10) (.i 3)) (.cm .Eq (.v 9) (.i 0))) AV Kf>=>vB
def MD:T:=.set 11 (.b true)>=>BN
noncomputable def ME:T:=.set 10 (.ca 52 (.v 1^.i 11^.e0))>=>MD
noncomputable def BO:T:=.set 1 (.ca 53 (.v 8^.v 9^.e0))>=>ME
noncomputable def CG:T:=.fo false [9] (.r1 (.bf "max" (.i 8^.bf "len" (.v 8^.e0)^.e0))) BO>=>IC
noncomputable def CI:T:=.set 8 (.op .Add (.sl (.v 0) (.p1 (.i 2)) (.p1 (.i 62))) (.ll (.i 0^.e0)))>=>CG
noncomputable def MF:T:=.ex (.me 80 (.v 4) (.v 7^.v 5^.n^.ix (.ix (.ix (.v 3) (.i 0)) (.i 0)) (.i 0)^.ix (.ix (.ix (.v 3) (.i 0)) (.i 0)) (.i 1)^.e0))>=>.en
noncomputable def CJ:T:=.fo false [7] (.is (.ll (.s "note"^.s "line"^.e0))) MF>=>CI
def CK:T:=.set 6 .dt>=>CJ
noncomputable def ID:T:=.set 5 (.ie (.cm .Lt (.ix (.v 2) (.i 1)) (.i 9999)) (.i 9999) (.i 1))>=>CK
noncomputable def IE:T:=.set 4 (.mk 43 (.v 2^.e0))>=>ID
noncomputable def IF:T:=.set 3 (.ca 27 (.ca 51 (.ca 50 (.v 0^.i 1^.e0)^.i 0^.e0)^.e0))>=>IE
noncomputable def IG:T:=.set 2 (.ca 68 (.v 1^.ix (.ll (.s "door"^.s "place"^.s "talk"^.e0)) (.ca 52 (.v 1^.i 3^.e0))^.ix (.ll (.s "all"^.s "place"^.s "talk"^.e0)) (.ca 52 (.v 1^.i 3^.e0))^.e0))>=>IF
noncomputable def IH:T:=.set 1 (.ca 51 (.ca 50 (.v 0^.i 0^.e0)^.i 0^.e0))>=>IG
noncomputable def sH:FD:=⟨0,0,"law",["script"],["script","bag","form","world","gate","beyond","own","kind","cells","k","way","good","ends","row"],IH⟩
noncomputable def x9:FD:=⟨0,0,"is_word",["kind","thing"],["kind","thing"],.aV (.cm .Eq (.v 0) (.s "note")) (.re (.ic false (.v 1) "NOTE_WORDS")>=>.en) .en>=>.re (.ic false (.v 1) "LINE_WORDS")>=>.en⟩
noncomputable def yb:FD:=⟨0,0,"is_pool",["low","high"],["low","high"],.re (.an (.ca 2 (.v 0^.e0)) (.an (.ca 2 (.v 1^.e0)) (.ch .LtE .LtE (.v 0) (.v 1) (.op .Add (.v 0) (.g "WIDEST_STEP")))))>=>.en⟩
noncomputable def Jf:T:=.re (.tu (.v 3^.v 4^.v 5^.v 6^.v 7^.e0))>=>.en
noncomputable def Jg:T:=.aV (.cm .Eq (.v 2) (.s "place")) (.re (.tu (.v 3^.v 4^.v 5^.v 6^.n^.e0))>=>.en) .en>=>Jf
noncomputable def Jh:T:=.aV (.cm .Eq (.v 2) (.s "door")) (.re (.tu (.v 3^.v 4^.v 5^.n^.n^.e0))>=>.en) .en>=>Jg
def Ji:T:=.set 2 (.ix (.v 0) (.i 2))>=>Jh
noncomputable def Jj:T:=.un [3,4,5,6,7] (.v 1)>=>Ji
noncomputable def xV:FD:=⟨0,0,"holder_of",["form","inner"],["form","inner","lending","kind","house","door","place","far"],Jj⟩
noncomputable def x6:FD:=⟨0,0,"time_of",["form","state"],["form","state","times"],.set 2 (.ix (.v 0) (.i 7))>=>.re (.ix (.v 2) (.tx "TIME_AT" (.v 1)))>=>.en⟩
noncomputable def xD:FD:=⟨0,0,"note_state",["state","word"],["state","word"],.aV (.an (.cm .Eq (.v 1) (.s "say")) (.or (.cm .Is (.v 0) .n) (.cm .Eq (.v 0) (.s "note")))) (.re (.s "note")>=>.en) .en>=>.re .n>=>.en⟩
noncomputable def uz:FD:=⟨1,1,"has",["self","number"],["self","number"],.re (.ch .LtE .LtE (.fl 1 "low" (.v 0)) (.v 1) (.fl 1 "high" (.v 0)))>=>.en⟩
noncomputable def uW:FD:=⟨1,1,"take",["self","number"],["self","number"],.dp (.fl 1 "taken" (.v 0)) (.v 1) (.b true)>=>.aV (.dn false (.v 1) (.fl 1 "until" (.v 0))) (.dd (.fl 1 "until" (.v 0)) (.v 1)>=>.en) .en>=>.sf 1 "mark" (.v 0) (.ie (.cm .Eq (.v 1) (.fl 1 "high" (.v 0))) (.fl 1 "low" (.v 0)) (.op .Add (.v 1) (.i 1)))>=>.en⟩
noncomputable def uq:FD:=⟨1,1,"resting",["self","moment"],["self","moment"],.re (.cp false false ["number"] [(0,"self"),(1,"moment")] (.is (.bf "sorted" (.fl 1 "until" (.v 0)^.e0))) (.cm .Gt (.dg (.fl 1 "until" (.v 1)) (.v 0)) (.v 2)) (.tu (.v 0^.dg (.fl 1 "until" (.v 1)) (.v 0)^.e0)))>=>.en⟩
noncomputable def uh:FD:=⟨1,1,"many_free",["self","moment"],["self","moment"],.re (.bf "len" (.cp false false ["number"] [(1,"moment"),(0,"self")] (.r2 (.fl 1 "low" (.v 0)) (.op .Add (.fl 1 "high" (.v 0)) (.i 1))) (.me 58 (.v 2) (.v 0^.v 1^.e0)) (.v 0)^.e0))>=>.en⟩
noncomputable def Ib:T:=.sf 3 "numbers" (.v 0) .dt>=>.en
def Ic:T:=.sf 3 "holders" (.v 0) .dk>=>Ib
noncomputable def Ie:T:=.sf 3 "by_number" (.v 0) .dk>=>Ic
def Ig:T:=.sf 3 "by_inner" (.v 0) .dt>=>Ie
def Ih:T:=.sf 3 "now" (.v 0) (.i 0)>=>Ig
noncomputable def Ii:T:=.sf 3 "pool" (.v 0) (.mk 57 (.ix (.v 1) (.i 0)^.ix (.v 1) (.i 1)^.e0))>=>Ih
def Ik:T:=.sf 3 "form" (.v 0) (.v 1)>=>Ii
noncomputable def uM:FD:=⟨2,3,"__init__",["self","form"],["self","form"],Ik⟩
noncomputable def ue:FD:=⟨1,3,"of_inner",["self","inner"],["self","inner"],.re (.d1 (.fl 3 "by_inner" (.v 0)) (.v 1))>=>.en⟩
noncomputable def uw:FD:=⟨1,3,"number_of",["self","inner"],["self","inner"],.re (.d1 (.fl 3 "numbers" (.v 0)) (.ca 31 (.fl 3 "form" (.v 0)^.v 1^.e0)))>=>.en⟩
noncomputable def uN:FD:=⟨1,3,"held",["self","house"],["self","house"],.re (.cp false true ["number","holder"] [(1,"house")] (.im (.fl 3 "holders" (.v 0))) (.cm .Eq (.ix (.v 1) (.i 1)) (.v 2)) (.v 0))>=>.en⟩
noncomputable def aG:FD:=⟨1,3,"pass_by",["self","ticks"],["self","ticks","ended","talk"],.af 3 "now" (.v 0) (.v 1)>=>.sc 2 false false ["talk"] [(0,"self")] (.is (.me 20 (.v 0) .e0)) (.cm .LtE (.fl 2 "over" (.v 0)) (.fl 3 "now" (.v 1))) (.v 0)>=>.fo false [3] (.is (.sk 2 "over" (.v 2))) (.ex (.me 63 (.v 0) (.v 3^.fl 2 "over" (.v 3)^.e0))>=>.en)>=>.en⟩
noncomputable def IJ:T:=.sf 4 "wish" (.v 0) .n>=>.en
noncomputable def IK:T:=.sf 4 "done" (.v 0) (.lm .e0)>=>IJ
noncomputable def IL:T:=.sf 4 "strangers" (.v 0) (.mk 18 .e0)>=>IK
noncomputable def IM:T:=.sf 4 "table" (.v 0) (.mk 38 (.v 1^.e0))>=>IL
def IP:T:=.sf 4 "form" (.v 0) (.v 1)>=>IM
noncomputable def IQ:T:=.aV (.no (.ca 17 (.v 1^.e0))) (.ra>=>.en) .en>=>IP
noncomputable def uH:FD:=⟨2,4,"__init__",["self","form"],["self","form"],IQ⟩
noncomputable def uJ:FD:=⟨1,4,"deed",["self","deed"],["self","deed","answer"],.aV (.no (.ca 15 (.v 1^.e0))) (.ra>=>.en) .en>=>.set 2 (.me 64 (.v 0) (.ix (.v 1) (.i 0)^.sl (.v 1) (.p1 (.i 1)) .p0^.e0))>=>.ex (.ap (.fl 4 "done" (.v 0)) (.tu (.v 1^.v 2^.e0)^.e0))>=>.re (.v 2)>=>.en⟩
noncomputable def uC:FD:=⟨1,4,"wait",["self","ticks"],["self","ticks"],.re (.me 44 (.v 0) (.tu (.s "wait"^.v 1^.e0)^.e0))>=>.en⟩
noncomputable def uD:FD:=⟨1,4,"sent",["self","parts"],["self","parts","answer","number","kind","house","door","place","far","word","text"],.un [4,5,6,7,8,9,10] (.v 1)>=>.set 2 (.me 65 (.v 0) (.tu (.v 4^.v 5^.v 6^.v 7^.v 8^.e0)^.v 9^.e0))>=>.aV (.or (.cm .NotEq (.v 7) (.i 0)) (.cm .Eq (.ix (.v 2) (.i 0)) (.s "kept"))) (.re (.v 2)>=>.en) .en>=>.ra⟩
noncomputable def ux:FD:=⟨1,4,"picked_for",["self","door"],["self","door","pool","now"],.pr 2 3 (.fl 3 "pool" (.fl 4 "table" (.v 0))^.fl 3 "now" (.fl 4 "table" (.v 0))^.e0)>=>.aV (.an (.cm .IsNot (.fl 4 "wish" (.v 0)) .n) (.me 58 (.v 2) (.fl 4 "wish" (.v 0)^.v 3^.e0))) (.re (.fl 4 "wish" (.v 0))>=>.en) .en>=>.re (.me 72 (.v 2) (.ix (.fl 4 "form" (.v 0)) (.i 4)^.v 1^.v 3^.e0))>=>.en⟩
noncomputable def HV:T:=.re (.tu (.s "told"^.ix (.fl 2 "inner" (.v 2)) (.i 1)^.ix (.fl 2 "inner" (.v 2)) (.i 2)^.e0))>=>.en
noncomputable def CM:T:=.aV (.cm .Is (.v 2) .n) (.re (.tu (.s "kept"^.s "nobody"^.e0))>=>.en) .en>=>HV
noncomputable def HW:T:=.set 2 (.me 76 (.fl 4 "table" (.v 0)) (.v 4^.v 5^.v 6^.v 7^.e0))>=>CM
def HX:T:=.un [3,4,5,6,7] (.v 1)>=>HW
noncomputable def uj:FD:=⟨1,4,"told_lost",["self","parts"],["self","parts","talk","teller","kind","number","place","far"],HX⟩
noncomputable def uk:FD:=⟨1,4,"rule_told",["self","parts"],["self","parts","kind","number","place","house","door"],.un [2,3,4,5,6] (.v 1)>=>.aV (.me 34 (.fl 3 "pool" (.fl 4 "table" (.v 0))) (.v 3^.e0)) .ra .en>=>.re (.me 78 (.fl 4 "strangers" (.v 0)) (.v 2^.v 3^.v 4^.v 5^.v 6^.e0))>=>.en⟩
noncomputable def xZ:FD:=⟨0,0,"_law_cell",["script","k"],["script","k"],.aV (.cm .Lt (.v 1) (.bf "len" (.v 0^.e0))) (.re (.ix (.v 0) (.v 1))>=>.en) .en>=>.re (.i 0)>=>.en⟩
noncomputable def xX:FD:=⟨0,0,"_law_well",["cell","turn"],["cell","turn"],.aV (.cm .GtE (.v 0) (.op .Pow (.i 10) (.i 18))) (.re (.lm (.op .Sub (.v 0) (.op .Pow (.i 10) (.i 18))^.op .Mod (.v 0) (.i 2305843009213693951)^.v 1^.e0))>=>.en) .en>=>.re (.lm (.i 0^.op .Mod (.v 0) (.i 2305843009213693951)^.v 1^.e0))>=>.en⟩
noncomputable def rG:FD:=⟨0,0,"_law_take",["bag","many"],["bag","many","p","n","found"],.aV (.cm .Gt (.ix (.v 0) (.i 0)) (.i 0)) (.set 4 (.op .Mod (.ix (.v 0) (.i 0)) (.v 1))>=>.sp (.v 0) (.i 0) (.op .FloorDiv (.ix (.v 0) (.i 0)) (.v 1))>=>.re (.v 4)>=>.en) .en>=>.sp (.v 0) (.i 2) (.op .Add (.ix (.v 0) (.i 2)) (.i 1))>=>.set 2 (.i 2305843009213693951)>=>.set 3 (.op .Mod (.op .Add (.ix (.v 0) (.i 1)) (.op .Mult (.i 1000003) (.ix (.v 0) (.i 2)))) (.v 2))>=>.set 3 (.op .Mod (.op .Add (.op .Add (.op .Mult (.v 3) (.v 3)) (.op .Mult (.i 7919) (.op .Pow (.ix (.v 0) (.i 2)) (.i 2)))) (.i 5)) (.v 2))>=>.re (.op .Mod (.op .FloorDiv (.op .Mod (.op .Pow (.v 3) (.i 3)) (.v 2)) (.i 13)) (.v 1))>=>.en⟩
noncomputable def xI:FD:=⟨0,0,"_law_bag_at",["cells","k"],["cells","k","bag"],.aV (.cm .Lt (.v 1) (.bf "len" (.v 0^.e0))) (.re (.ca 51 (.ix (.v 0) (.v 1)^.i 0^.e0))>=>.en) .en>=>.set 2 (.ca 51 (.op .Mod (.ix (.v 0) (.op .Mod (.v 1) (.bf "len" (.v 0^.e0)))) (.op .Pow (.i 10) (.i 18))^.i 0^.e0))>=>.sp (.v 2) (.i 1) (.op .Mod (.op .Add (.op .Add (.ix (.v 2) (.i 1)) (.op .Mult (.op .Mult (.i 7919) (.v 1)) (.v 1))) (.op .Mult (.i 31) (.v 1))) (.i 2305843009213693951))>=>.re (.v 2)>=>.en⟩
noncomputable def xx:FD:=⟨0,0,"is_whole_within",["thing","least","greatest"],["thing","least","greatest"],.re (.an (.ca 0 (.v 0^.e0)) (.ch .LtE .LtE (.v 1) (.v 0) (.v 2)))>=>.en⟩
noncomputable def xU:FD:=⟨0,0,"is_letter",["kind","word","text"],["kind","word","text"],.re (.an (.ca 6 (.v 0^.e0)) (.an (.ca 29 (.v 0^.v 1^.e0)) (.ca 8 (.v 2^.e0))))>=>.en⟩
noncomputable def xF:FD:=⟨0,0,"line_state",["state","side","word"],["state","side","word"],.aV (.cm .Eq (.v 2) (.s "break")) (.re (.ie (.ic false (.v 0) "BREAKABLE") (.s "shut") .n)>=>.en) .en>=>.re (.tg "LINE_STEPS" (.tu (.v 1^.v 0^.v 2^.e0)))>=>.en⟩
noncomputable def uX:FD:=⟨2,1,"__init__",["self","low","high"],["self","low","high"],.sf 1 "low" (.v 0) (.v 1)>=>.sf 1 "high" (.v 0) (.v 2)>=>.sf 1 "mark" (.v 0) (.v 1)>=>.sf 1 "taken" (.v 0) .dk>=>.sf 1 "until" (.v 0) .dk>=>.en⟩
noncomputable def ur:FD:=⟨1,1,"is_free",["self","number","moment"],["self","number","moment"],.aV (.or (.no (.me 34 (.v 0) (.v 1^.e0))) (.dn false (.v 1) (.fl 1 "taken" (.v 0)))) (.re (.b false)>=>.en) .en>=>.re (.or (.dn true (.v 1) (.fl 1 "until" (.v 0))) (.cm .LtE (.dg (.fl 1 "until" (.v 0)) (.v 1)) (.v 2)))>=>.en⟩
noncomputable def uB:FD:=⟨1,1,"give",["self","number","until"],["self","number","until"],.dd (.fl 1 "taken" (.v 0)) (.v 1)>=>.dp (.fl 1 "until" (.v 0)) (.v 1) (.v 2)>=>.en⟩
def HY:T:=.dp (.fl 3 "numbers" (.v 0)) (.v 3) (.v 1)>=>.en
def CN:T:=.dp (.fl 3 "holders" (.v 0)) (.v 1) (.v 3)>=>HY
noncomputable def HZ:T:=.ex (.me 35 (.fl 3 "pool" (.v 0)) (.v 1^.e0))>=>CN
noncomputable def Ia:T:=.set 3 (.ca 31 (.fl 3 "form" (.v 0)^.v 2^.e0))>=>HZ
noncomputable def uL:FD:=⟨1,3,"lend",["self","number","inner"],["self","number","inner","holder"],Ia⟩
noncomputable def pG:FD:=⟨1,3,"lead",["self","talk","state"],["self","talk","state"],.aV (.cm .Eq (.v 2) (.s "shut")) (.ex (.me 63 (.v 0) (.v 1^.fl 3 "now" (.v 0)^.e0))>=>.r0>=>.en) .en>=>.sf 2 "state" (.v 1) (.v 2)>=>.sf 2 "over" (.v 1) (.op .Add (.fl 3 "now" (.v 0)) (.ca 32 (.fl 3 "form" (.v 0)^.v 2^.e0)))>=>.en⟩
noncomputable def uf:FD:=⟨1,3,"end_lend",["self","number","moment"],["self","number","moment"],.dd (.fl 3 "numbers" (.v 0)) (.dg (.fl 3 "holders" (.v 0)) (.v 1))>=>.dd (.fl 3 "holders" (.v 0)) (.v 1)>=>.ex (.me 59 (.fl 3 "pool" (.v 0)) (.v 1^.op .Add (.v 2) (.ix (.ix (.fl 3 "form" (.v 0)) (.i 7)) (.i 3))^.e0))>=>.en⟩
noncomputable def Cv:T:=.aV (.dn false (.v 3) (.fl 3 "holders" (.v 0))) (.ex (.me 62 (.v 0) (.v 3^.v 2^.e0))>=>.en) .en>=>.en
noncomputable def Cw:T:=.dd (.fl 3 "by_number" (.v 0)) (.v 3)>=>Cv
noncomputable def wk:T:=.aV (.cm .Gt (.bf "len" (.dg (.fl 3 "by_number" (.v 0)) (.v 3)^.e0)) (.i 0)) (.r0>=>.en) .en>=>Cw
noncomputable def Iu:T:=.dd (.dg (.fl 3 "by_number" (.v 0)) (.v 3)) (.tu (.v 4^.v 7^.v 8^.e0))>=>wk
noncomputable def Iv:T:=.dd (.fl 3 "by_inner" (.v 0)) (.fl 2 "inner" (.v 1))>=>Iu
noncomputable def Iw:T:=.set 3 (.fl 2 "number" (.v 1))>=>Iv
noncomputable def HG:T:=.un [4,5,6,7,8] (.fl 2 "inner" (.v 1))>=>Iw
noncomputable def uV:FD:=⟨1,3,"end",["self","talk","moment"],["self","talk","moment","number","kind","house","door","place","far"],HG⟩
noncomputable def Iq:T:=.aV (.cm .Eq (.v 1) (.s "rule")) (.re (.me 49 (.v 0) (.v 2^.e0))>=>.en) .en>=>.ra
noncomputable def CS:T:=.aV (.cm .Eq (.v 1) (.s "wait")) (.ex (.me 42 (.fl 4 "table" (.v 0)) (.ix (.v 2) (.i 0)^.e0))>=>.re .n>=>.en) .en>=>Iq
noncomputable def wt:T:=.aV (.cm .Eq (.v 1) (.s "lost")) (.re (.me 48 (.v 0) (.v 2^.e0))>=>.en) .en>=>CS
noncomputable def CT:T:=.aV (.cm .Eq (.v 1) (.s "come")) (.un [3,4,5,6,7,8] (.v 2)>=>.re (.me 81 (.v 0) (.v 3^.v 4^.v 5^.v 6^.v 7^.e0))>=>.en) .en>=>wt
noncomputable def y8:T:=.aV (.cm .Eq (.v 1) (.s "out")) (.re (.me 46 (.v 0) (.v 2^.e0))>=>.en) .en>=>CT
noncomputable def mR:FD:=⟨1,4,"answered",["self","name","parts"],["self","name","parts","kind","place","far","number","word","text"],y8⟩
noncomputable def Il:T:=.re (.tu (.s "led"^.fl 2 "number" (.v 3)^.e0))>=>.en
noncomputable def Im:T:=.ex (.me 61 (.fl 4 "table" (.v 0)) (.v 3^.v 4^.e0))>=>Il
noncomputable def CO:T:=.aV (.cm .Is (.v 3) .n) (.re (.me 66 (.v 0) (.v 1^.v 4^.e0))>=>.en) .en>=>Im
noncomputable def y7:T:=.aV (.cm .Is (.v 4) .n) (.re (.tu (.s "kept"^.s "astray"^.e0))>=>.en) .en>=>CO
noncomputable def CP:T:=.set 4 (.ca 70 (.ix (.v 1) (.i 0)^.ie (.cm .Is (.v 3) .n) .n (.fl 2 "state" (.v 3))^.s "house"^.v 2^.e0))>=>y7
noncomputable def Io:T:=.set 3 (.me 39 (.fl 4 "table" (.v 0)) (.v 1^.e0))>=>CP
noncomputable def uo:FD:=⟨1,4,"lead_out",["self","inner","word"],["self","inner","word","talk","state"],Io⟩
noncomputable def C0:T:=.re (.tu (.s "led"^.v 3^.e0))>=>.en
noncomputable def C3:T:=.ex (.me 73 (.fl 4 "table" (.v 0)) (.v 1^.v 3^.v 2^.e0))>=>C0
noncomputable def C4:T:=.aV (.cm .Is (.v 3) .n) (.aV (.cm .GtE (.bf "len" (.me 41 (.fl 4 "table" (.v 0)) (.ix (.v 1) (.i 1)^.e0)^.e0)) (.ix (.fl 4 "form" (.v 0)) (.i 5))) .ra .en>=>.set 3 (.me 47 (.v 0) (.ix (.v 1) (.i 2)^.e0))>=>.aV (.cm .Is (.v 3) .n) .ra .en>=>.ex (.me 60 (.fl 4 "table" (.v 0)) (.v 3^.v 1^.e0))>=>.en) .en>=>C3
noncomputable def Ir:T:=.set 3 (.me 40 (.fl 4 "table" (.v 0)) (.v 1^.e0))>=>C4
noncomputable def um:FD:=⟨1,4,"begin_out",["self","inner","state"],["self","inner","state","number"],Ir⟩
noncomputable def CU:T:=.re (.tu (.s "in"^.v 6^.v 7^.e0))>=>.en
noncomputable def CV:T:=.aV (.or (.v 4) (.cm .NotEq (.v 3) (.fl 2 "state" (.v 1)))) (.ex (.me 61 (.fl 4 "table" (.v 0)) (.v 1^.v 3^.e0))>=>.en) .en>=>CU
noncomputable def CW:T:=.set 4 (.ix (.fl 4 "form" (.v 0)) (.i 6))>=>CV
def y9:T:=.aV (.cm .Is (.v 3) .n) (.re (.tu (.s "kept"^.s "astray"^.e0))>=>.en) .en>=>CW
noncomputable def CY:T:=.set 3 (.ca 70 (.v 5^.fl 2 "state" (.v 1)^.s "far"^.v 2^.e0))>=>y9
noncomputable def CZ:T:=.un [5,6,7,8,9] (.fl 2 "inner" (.v 1))>=>CY
noncomputable def pL:FD:=⟨1,4,"lead_in",["self","talk","word"],["self","talk","word","state","renew","kind","house","door","place","far"],CZ⟩
noncomputable def xW:FD:=⟨0,0,"_law_wide",["bag","lending","sieve"],["bag","lending","sieve","low","times","pick"],.set 3 (.op .Add (.i 1) (.ca 52 (.v 0^.i 9800^.e0)))>=>.set 4 (.tu (.op .Add (.i 1) (.ca 52 (.v 0^.i 30^.e0))^.op .Add (.i 1) (.ca 52 (.v 0^.i 30^.e0))^.op .Add (.i 1) (.ca 52 (.v 0^.i 30^.e0))^.ca 52 (.v 0^.i 30^.e0)^.e0))>=>.set 5 (.ix (.ll (.s "next"^.s "keep"^.e0)) (.ca 52 (.v 0^.i 2^.e0)))>=>.re (.tu (.v 3^.op .Add (.v 3) (.i 199)^.v 1^.v 2^.v 5^.i 200^.cm .Eq (.ca 52 (.v 0^.i 2^.e0)) (.i 1)^.v 4^.e0))>=>.en⟩
noncomputable def N8:T:=.re (.an (.cm .Eq (.v 11) (.v 8)) (.cm .Eq (.v 12) (.v 10)))>=>.en
noncomputable def N9:T:=.set 12 (.ll (.me 25 (.v 1) .e0^.me 24 (.v 1) .e0^.me 26 (.v 1) .e0^.me 23 (.v 1) .e0^.me 22 (.v 1) .e0^.e0))>=>N8
noncomputable def Oa:T:=.set 11 (.me 79 (.v 1) (.v 7^.ix (.v 5) (.i 0)^.ix (.v 5) (.i 1)^.ix (.v 5) (.i 2)^.ix (.v 5) (.i 3)^.e0))>=>N9
noncomputable def zy:T:=.set 10 (.ll (.v 3^.me 24 (.v 1) .e0^.me 26 (.v 1) .e0^.me 23 (.v 1) .e0^.me 22 (.v 1) .e0^.e0))>=>Oa
noncomputable def Ky:T:=.set 8 (.tu (.s "told"^.ix (.v 9) (.i 2)^.ix (.v 9) (.i 3)^.e0))>=>.en
noncomputable def MB:T:=.aV (.cm .Eq (.tu (.ix (.v 9) (.i 0)^.ix (.v 9) (.i 1)^.ix (.v 9) (.i 4)^.ix (.v 9) (.i 5)^.e0)) (.v 5)) Ky .en>=>.en
noncomputable def C9:T:=.fo false [9] (.is (.v 3)) MB>=>zy
def GY:T:=.set 8 (.tu (.s "kept"^.s "nobody"^.e0))>=>C9
noncomputable def Dc:T:=.set 7 (.ix (.ll (.ix (.v 5) (.i 2)^.i 1^.i 1000000^.ix (.v 14) (.ca 52 (.v 0^.i 3^.e0))^.e0)) (.ca 52 (.v 0^.i 4^.e0)))>=>GY
noncomputable def Bm:T:=.set 5 (.bt "tuple" (.v 16^.e0))>=>.en
noncomputable def LU:T:=.aV (.cm .Gt (.v 6) (.i 0)) (.sp (.v 16) (.op .Sub (.v 6) (.i 1)) (.ix (.v 5) (.op .Sub (.v 6) (.i 1)))>=>.en) .en>=>Bm
noncomputable def LW:T:=.set 16 (.lm (.ix (.v 9) (.i 0)^.ix (.v 9) (.i 1)^.ix (.v 9) (.i 4)^.ix (.v 9) (.i 5)^.e0))>=>LU
noncomputable def Bn:T:=.set 9 (.ix (.v 3) (.ca 52 (.v 0^.bf "len" (.v 3^.e0)^.e0)))>=>LW
noncomputable def Df:T:=.aV (.an (.cm .NotEq (.v 3) (.ll .e0)) (.cm .Lt (.v 6) (.i 5))) Bn .en>=>Dc
noncomputable def Gq:T:=.set 6 (.ix (.ll (.i 0^.i 0^.i 0^.i 1^.i 2^.i 3^.i 4^.i 5^.e0)) (.ca 52 (.v 0^.i 8^.e0)))>=>Df
noncomputable def Gs:T:=.set 5 (.tu (.v 4^.op .Add (.i 1) (.ca 52 (.v 0^.i 9999^.e0))^.ix (.v 14) (.ca 52 (.v 0^.i 3^.e0))^.ix (.v 15) (.ca 52 (.v 0^.i 3^.e0))^.e0))>=>Gq
noncomputable def Gu:T:=.set 4 (.ix (.ll (.s "note"^.s "line"^.e0)) (.ca 52 (.v 0^.i 2^.e0)))>=>Gs
def Gv:T:=.set 3 (.me 25 (.v 1) .e0)>=>Gu
noncomputable def Gw:T:=.un [13,14,15] (.v 2)>=>Gv
noncomputable def xY:FD:=⟨0,0,"_law_lost",["bag","gate","world"],["bag","gate","world","rows","kind","outer","bend","teller","due","row","looks","found","again","doors","places","fars","same"],Gw⟩
noncomputable def xE:FD:=⟨0,0,"next_state",["kind","state","side","word"],["kind","state","side","word"],.aV (.cm .Eq (.v 0) (.s "note")) (.re (.ca 33 (.v 1^.v 3^.e0))>=>.en) .en>=>.re (.ca 56 (.v 1^.v 2^.v 3^.e0))>=>.en⟩
def RQ:T:=.re .n>=>.en
noncomputable def BP:T:=.aV (.an (.cm .Eq (.v 4) (.v 1)) (.an (.cm .Eq (.v 5) (.v 2)) (.v 9))) (.re (.tu (.v 7^.v 8^.e0))>=>.en) .en>=>.en
noncomputable def vC:T:=.set 9 (.or (.cm .Is (.v 6) .n) (.cm .Eq (.v 6) (.v 3)))>=>BP
noncomputable def II:T:=.fo true [4,5,6,7,8] (.iv (.fl 0 "standing" (.v 0))) vC>=>RQ
noncomputable def ug:FD:=⟨1,0,"door_for",["self","kind","number","place"],["self","kind","number","place","rule_kind","rule_number","rule_place","house","door","fits_place"],II⟩
noncomputable def uc:FD:=⟨1,1,"picked",["self","pick","door","moment"],["self","pick","door","moment","number"],.aV (.an (.cm .Eq (.v 1) (.s "keep")) (.me 58 (.v 0) (.v 2^.v 3^.e0))) (.re (.v 2)>=>.en) .en>=>.fo false [4] (.is (.me 19 (.v 0) .e0)) (.aV (.me 58 (.v 0) (.v 4^.v 3^.e0)) (.re (.v 4)>=>.en) .en>=>.en)>=>.re .n>=>.en⟩
noncomputable def C5:T:=.dp (.dg (.fl 3 "by_number" (.v 0)) (.v 2)) (.tu (.v 5^.v 8^.v 9^.e0)) (.v 4)>=>.en
noncomputable def Cr:T:=.aV (.dn true (.v 2) (.fl 3 "by_number" (.v 0))) (.dp (.fl 3 "by_number" (.v 0)) (.v 2) .dt>=>.en) .en>=>C5
def Cs:T:=.dp (.fl 3 "by_inner" (.v 0)) (.v 1) (.v 4)>=>Cr
noncomputable def Ct:T:=.set 4 (.mk 75 (.v 1^.v 2^.v 3^.op .Add (.fl 3 "now" (.v 0)) (.ca 32 (.fl 3 "form" (.v 0)^.v 3^.e0))^.e0))>=>Cs
def Cu:T:=.un [5,6,7,8,9] (.v 1)>=>Ct
noncomputable def pN:FD:=⟨1,3,"begin",["self","inner","number","state"],["self","inner","number","state","talk","kind","house","door","place","far"],Cu⟩
noncomputable def CC:T:=.re (.or (.cm .Eq (.ix (.v 7) (.i 0)) (.s "led")) (.cm .Eq (.v 7) (.tu (.s "kept"^.s "astray"^.e0))))>=>.en
noncomputable def LY:T:=.dp (.v 1) (.tu (.v 4^.ix (.v 7) (.i 1)^.v 5^.v 6^.e0)) (.tu (.v 11^.v 12^.e0))>=>.en
noncomputable def CD:T:=.aV (.cm .Eq (.ix (.v 7) (.i 0)) (.s "led")) LY .en>=>CC
noncomputable def zB:T:=.aV (.or (.no (.bf "isinstance" (.v 7^.ty "tuple"^.e0))) (.cm .NotEq (.bf "len" (.v 7^.e0)) (.i 2))) (.re (.b false)>=>.en) .en>=>CD
noncomputable def CF:T:=.set 7 (.me 84 (.v 2) (.v 4^.v 11^.v 12^.v 5^.v 6^.ie (.cm .Eq (.v 4) (.s "note")) (.s "say") (.s "open")^.s ""^.e0))>=>zB
def GB:T:=.set 6 (.ix (.v 10) (.ca 52 (.v 0^.i 3^.e0)))>=>CF
noncomputable def Iy:T:=.set 5 (.ix (.v 9) (.ca 52 (.v 0^.i 3^.e0)))>=>GB
noncomputable def Iz:T:=.un [11,12] (.ix (.v 8) (.ca 52 (.v 0^.i 3^.e0)))>=>Iy
def IA:T:=.set 4 (.ix (.ll (.s "note"^.s "line"^.e0)) (.ca 52 (.v 0^.i 2^.e0)))>=>Iz
noncomputable def IB:T:=.un [8,9,10] (.v 3)>=>IA
noncomputable def xG:FD:=⟨0,0,"_law_wrote",["bag","own","gate","world"],["bag","own","gate","world","kind","place","far","found","doors","places","fars","house","door"],IB⟩
noncomputable def pH:FD:=⟨2,2,"__init__",["self","inner","number","state","over"],["self","inner","number","state","over"],.sf 2 "inner" (.v 0) (.v 1)>=>.sf 2 "number" (.v 0) (.v 2)>=>.sf 2 "state" (.v 0) (.v 3)>=>.sf 2 "over" (.v 0) (.v 4)>=>.en⟩
noncomputable def pJ:FD:=⟨1,3,"of_outer",["self","kind","number","place","far"],["self","kind","number","place","far"],.aV (.dn true (.v 2) (.fl 3 "by_number" (.v 0))) (.re .n>=>.en) .en>=>.re (.d1 (.dg (.fl 3 "by_number" (.v 0)) (.v 2)) (.tu (.v 1^.v 3^.v 4^.e0)))>=>.en⟩
noncomputable def CA:T:=.re (.or (.cm .Eq (.v 8) (.op .Add (.tu (.s "in"^.e0)) (.ix (.v 9) (.i 0)))) (.cm .In (.v 8) (.ll (.tu (.s "kept"^.s "clash"^.e0)^.tu (.s "kept"^.s "astray"^.e0)^.e0))))>=>.en
noncomputable def LX:T:=.dp (.v 1) (.tu (.v 5^.v 4^.v 6^.v 7^.e0)) (.sl (.v 8) (.p1 (.i 1)) .p0)>=>.en
noncomputable def zA:T:=.aV (.cm .Eq (.ix (.v 8) (.i 0)) (.s "in")) LX .en>=>CA
noncomputable def CB:T:=.set 8 (.me 83 (.v 2) (.v 5^.v 6^.v 7^.v 4^.ie (.cm .Eq (.v 5) (.s "note")) (.s "say") (.s "open")^.s ""^.e0))>=>zA
def Gx:T:=.set 7 (.ix (.v 11) (.ca 52 (.v 0^.i 3^.e0)))>=>CB
def Gy:T:=.set 6 (.ix (.v 10) (.ca 52 (.v 0^.i 3^.e0)))>=>Gx
noncomputable def Gz:T:=.set 5 (.ix (.ll (.s "note"^.s "line"^.e0)) (.ca 52 (.v 0^.i 2^.e0)))>=>Gy
noncomputable def GA:T:=.un [9,10,11] (.v 3)>=>Gz
noncomputable def x3:FD:=⟨0,0,"_law_came",["bag","own","gate","world","beyond"],["bag","own","gate","world","beyond","kind","place","far","found","doors","places","fars"],GA⟩
noncomputable def uO:FD:=⟨1,0,"tell",["self","kind","number","place","house","door"],["self","kind","number","place","house","door","told"],.set 6 (.fl 0 "many_told" (.v 0))>=>.dp (.fl 0 "standing" (.v 0)) (.v 6) (.tu (.v 1^.v 2^.v 3^.v 4^.v 5^.e0))>=>.af 0 "many_told" (.v 0) (.i 1)>=>.re (.v 6)>=>.en⟩
noncomputable def uF:FD:=⟨1,4,"lost",["self","teller","kind","number","place","far"],["self","teller","kind","number","place","far"],.re (.me 44 (.v 0) (.tu (.s "lost"^.v 1^.v 2^.v 3^.v 4^.v 5^.e0)^.e0))>=>.en⟩
noncomputable def uE:FD:=⟨1,4,"rule",["self","kind","number","place","house","door"],["self","kind","number","place","house","door"],.re (.me 44 (.v 0) (.tu (.s "rule"^.v 1^.v 2^.v 3^.v 4^.v 5^.e0)^.e0))>=>.en⟩
noncomputable def HH:T:=.re (.me 82 (.v 0) (.v 1^.v 2^.v 3^.v 4^.v 5^.e0))>=>.en
noncomputable def HI:T:=.aV (.me 34 (.fl 3 "pool" (.fl 4 "table" (.v 0))) (.v 4^.e0)) .ra .en>=>HH
noncomputable def zb:T:=.aV (.cm .IsNot (.v 6) .n) (.re (.me 67 (.v 0) (.v 6^.v 5^.e0))>=>.en) .en>=>HI
noncomputable def Cy:T:=.set 6 (.me 76 (.fl 4 "table" (.v 0)) (.v 1^.v 4^.v 2^.v 3^.e0))>=>zb
noncomputable def pM:FD:=⟨1,4,"come_in",["self","kind","place","far","number","word"],["self","kind","place","far","number","word","talk"],Cy⟩
noncomputable def HJ:T:=.re (.tu (.s "in"^.v 9^.v 10^.e0))>=>.en
noncomputable def HK:T:=.ex (.me 73 (.fl 4 "table" (.v 0)) (.v 8^.v 4^.v 7^.e0))>=>HJ
noncomputable def HL:T:=.aV (.cm .IsNot (.me 39 (.fl 4 "table" (.v 0)) (.v 8^.e0)) .n) (.re (.tu (.s "kept"^.s "clash"^.e0))>=>.en) .en>=>HK
noncomputable def HM:T:=.set 8 (.tu (.v 1^.v 9^.v 10^.v 2^.v 3^.e0))>=>HL
noncomputable def HN:T:=.aV (.cm .Is (.v 7) .n) (.re (.tu (.s "kept"^.s "astray"^.e0))>=>.en) .en>=>HM
noncomputable def HP:T:=.set 7 (.ca 70 (.v 1^.n^.s "far"^.v 5^.e0))>=>HN
noncomputable def HQ:T:=.un [9,10] (.v 6)>=>HP
def Ja:T:=.aV (.cm .Is (.v 6) .n) (.re (.tu (.s "kept"^.s "nobody"^.e0))>=>.en) .en>=>HQ
noncomputable def Jb:T:=.set 6 (.me 71 (.fl 4 "strangers" (.v 0)) (.v 1^.v 4^.v 2^.e0))>=>Ja
noncomputable def uu:FD:=⟨1,4,"come_by_rule",["self","kind","place","far","number","word"],["self","kind","place","far","number","word","to","state","inner","house","door"],Jb⟩
noncomputable def pI:FD:=⟨1,4,"come",["self","kind","place","far","number","word","text"],["self","kind","place","far","number","word","text"],.re (.me 44 (.v 0) (.tu (.s "come"^.v 1^.v 2^.v 3^.v 4^.v 5^.v 6^.e0)^.e0))>=>.en⟩
noncomputable def uA:FD:=⟨1,4,"out",["self","kind","house","door","place","far","word","text"],["self","kind","house","door","place","far","word","text"],.re (.me 44 (.v 0) (.tu (.s "out"^.v 1^.v 2^.v 3^.v 4^.v 5^.v 6^.v 7^.e0)^.e0))>=>.en⟩
end
noncomputable def S:SI where
 gi:=[("GREATEST_HOUSE",99),("GREATEST_DOOR",9999),("GREATEST_PLACE",1000000),("GREATEST_TICKS",1000000),("MOST_SIGNS",40),("FIRST_SIGN",32),("LAST_SIGN",126),("PERCENT_SIGN",37),("WIDEST_STEP",199),("GREATEST_MOST",200),("GREATEST_TIME",1000000)]
 gt:=[("KINDS",["note","line"]),("NOTE_WORDS",["say"]),("LINE_WORDS",["open","say","close","break"]),("LENDINGS",["door","place","talk"]),("SIEVES",["all","place","talk"]),("PICKS",["next","keep"]),("BREAKABLE",["asked","called","up","near","far"])]
 tb:=["DEEDS","TIME_AT"]
 tt:=[("LINE_STEPS",[([some (.inr "house"),none,some (.inr "open")],"asked"),([some (.inr "house"),some (.inr "asked"),some (.inr "open")],"asked"),([some (.inr "house"),some (.inr "called"),some (.inr "open")],"up"),([some (.inr "house"),some (.inr "up"),some (.inr "say")],"up"),([some (.inr "house"),some (.inr "far"),some (.inr "say")],"far"),([some (.inr "house"),some (.inr "up"),some (.inr "close")],"near"),([some (.inr "house"),some (.inr "far"),some (.inr "close")],"shut"),([some (.inr "far"),none,some (.inr "open")],"called"),([some (.inr "far"),some (.inr "called"),some (.inr "open")],"called"),([some (.inr "far"),some (.inr "asked"),some (.inr "open")],"up"),([some (.inr "far"),some (.inr "up"),some (.inr "say")],"up"),([some (.inr "far"),some (.inr "near"),some (.inr "say")],"near"),([some (.inr "far"),some (.inr "up"),some (.inr "close")],"far"),([some (.inr "far"),some (.inr "near"),some (.inr "close")],"shut")])]
 cl:=["Rules","Pool","Talk","Talks","Gate"]
 fs:=[(0,"many_told"),(0,"standing"),(1,"low"),(1,"high"),(1,"mark"),(1,"taken"),(1,"until"),(2,"inner"),(2,"number"),(2,"state"),(2,"over"),(3,"form"),(3,"pool"),(3,"now"),(3,"by_inner"),(3,"by_number"),(3,"holders"),(3,"numbers"),(4,"form"),(4,"table"),(4,"strangers"),(4,"done"),(4,"wish")]
 bl:=["all","bool","int","isinstance","len","list","max","ord","range","sorted","str","tuple"]
 fd:=[xP,xT,ye,xS,xy,xR,yc,Km,ya,vj,uZ,vh,vf,vg,x8,yf,xQ,yd,uQ,ui,pK,xN,ud,uI,uU,uR,uS,xH,sH,x9,yb,xV,x6,xD,uz,uW,uq,uh,uM,ue,uw,uN,aG,uH,uJ,uC,uD,ux,uj,uk,xZ,xX,rG,xI,xx,xU,xF,uX,ur,uB,uL,pG,uf,uV,mR,uo,um,pL,xW,xY,xE,ug,uc,pN,xG,pH,pJ,x3,uO,uF,uE,pM,uu,pI,uA]
 ln:=aG.N
 lp:=⟨302,38,302,58⟩
 lq:="Talks.pass_by.<locals>.<lambda>"
abbrev TM:Stmt:=top 24
abbrev Ti:Stmt:=top 49
abbrev Sy:Stmt:=inClass (top 68) 10
abbrev Sx:Stmt:=inClass (top 68) 11
abbrev R3:Stmt:=top 75
abbrev Nm:Stmt:=top 79
abbrev R4:Stmt:=inClass (top 62) 7
abbrev RY:Stmt:=inClass (top 62) 8
abbrev Sv:Stmt:=inClass (top 65) 8
abbrev R0:Stmt:=inClass (top 65) 15
structure Env where
 tb:Str->bT
 C:Nat->Addr
 cv:List (Addr×Nat)
 lP:Addr:=0
noncomputable def P (e:Env):iV:=⟨S,e.tb,e.C,e.cv,e.lP⟩
def rd(Q:ao):RD:={ nx:=λ_ a=>Q .aq a,rt:=Q }
section
variable {e:Env}{n:Nat}{M:RM}{Q:ao}{σ:bw}{rs:LR}
theorem qxW{x:RV}:i6 (y::N) (x::rs)=some x::i6 N rs:=by unfold i6;rw[cQ,cQ,Nat.add_sub_add_right];rfl
theorem qxU:i6 (y::N) []=none::i6 N []:=rfl
theorem qxV:i6 [] []= []:=rfl
theorem NC{A B C:Prop}(h:A)(k:B=C):(A/\B)=C:=by rw[eq_true h,true_and,k]
theorem qx5:(rd Q).nx σ M=Q .aq M:=rfl
theorem qx4:(rd Q).rt=Q:=rfl
theorem qGH{i:Nat}:((P e).Gn n).fn i rs M Q=aw (P e) n i rs M Q:=rfl
theorem qyX{i:Nat}:((P e).Gn (n+1)).mN i rs M Q=aw (P e) n i rs M Q:=rfl
theorem qGF{x:Str}:((P e).Gn n).tb x=e.tb x:=rfl
theorem qyY:((P e).Gn n).ia=e.cv.map λq=>(q.1,aw (P e) n q.2):=rfl
theorem g_C{i:Nat}:((P e).Gn n).C i=e.C i:=rfl
theorem qGG:((P e).Gn n).lP=e.lP:=rfl
theorem us{i:Nat}{rs:LR}(h:S.fd[i]? =some d):aw (P e) (n+1) i rs M Q=(rs.length=d.ps.length/\(tr ((P e).Gn n) d.body).S (rd Q) (i6 d.N rs) M):=by rw[KC (p:=P e) h];rfl
end
noncomputable def i4 (e:Env)(a b:RV):RO:=.ins (e.C 0) [("many_told",a),("standing",b)]
noncomputable def dP (e:Env)(a b c d f:RV):RO:=.ins (e.C 1) [("low",a),("high",b),("mark",c),("taken",d),("until",f)]
noncomputable def fC (e:Env)(a b c d:RV):RO:=.ins (e.C 2) [("inner",a),("number",b),("state",c),("over",d)]
noncomputable def bN (e:Env)(a b c d f g h:RV):RO:=.ins (e.C 3) [("form",a),("pool",b),("now",c),("by_inner",d),("by_number",f),("holders",g),("numbers",h)]
noncomputable def bx (e:Env)(a b c d f:RV):RO:=.ins (e.C 4) [("form",a),("table",b),("strangers",c),("done",d),("wish",f)]
section
variable {e:Env}{n:Nat}{M:RM}{Q:ao}{σ:bw}{rs:LR}{x:Addr}{y:RV}{N:RM->Prop}{t:bS}{sp:bV}{o a:T}
theorem lI{e:Env}{v:RV}{fs:List (Str×RV)}(h:fs.lookup f=some v):fO (e.C c) f Q M (some (.ins (e.C c) fs))=Q v M:=by rw[Y3,h];rfl
theorem wI{fs:List (Str×RV)}(h:Nat.ble (fs.length+1) 1000=true):sO (e.C c) f y N x M (some (.ins (e.C c) fs))=N (put M x (.ins (e.C c) (jZ f y fs))):=by rw[Xz];exact NC (Nat.le_of_ble_eq_true h) rfl
theorem mI{fs:List (Str×RV)}(h:fs.lookup f=none):mO (e.C c) f sp t σ Q x M (some (.ins (e.C c) fs))=t σ M λrs M2=>sp (.ref x::rs) M2 Q:=by rw[X9];exact NC h rfl
abbrev lT(e:Env)(c:Nat)(r:RO)(f:Str)(v:RV):Prop:=∀{Q:ao} {M:RM},fO (e.C c) f Q M (some r)=Q v M
abbrev wT(e:Env)(c:Nat)(y:RV)(r r1:RO)(f:Str):Prop:=∀{N:RM->Prop} {x:Addr} {M:RM},sO (e.C c) f y N x M (some r)=N (put M x r1)
abbrev mT(e:Env)(c:Nat)(r:RO)(f:Str):Prop:=∀{sp:bV} {t:bS} {σ:bw} {Q:ao} {x:Addr} {M:RM},mO (e.C c) f sp t σ Q x M (some r)=t σ M λrs M2=>sp (.ref x::rs) M2 Q
abbrev tT(i c:Nat)(f:Str):Prop:=∀{e:Env} {n:Nat} {M:RM} {Q:ao} {σ:bw} {o a:T},(tr ((P e).Gn n) (.me i o a)).E σ M Q=(tr ((P e).Gn n) o).E σ M (pq (e.C c) f (aw (P e) n i) (tr ((P e).Gn n) a).A σ Q)
abbrev kT(i c:Nat):Prop:=∀{e:Env} {n:Nat} {M:RM} {Q:ao} {σ:bw} {a:T},(tr ((P e).Gn (n+1)) (.mk i a)).E σ M Q=(tr ((P e).Gn (n+1)) a).A σ M λrs M1=>∀x,M1 x=none->aw (P e) n i (.ref x::rs) (put M1 x (.ins (e.C c) [])) λv M2=>v= .aq/\Q (.ref x) M2
abbrev gT(f:Str)(i:Int):Prop:=∀{e:Env} {n:Nat} {M:RM} {Q:ao} {σ:bw},(tr ((P e).Gn n) (.g f)).E σ M Q=Q (.int i) M
abbrev cT(f:Str)(l:aB):Prop:=∀{e:Env} {n:Nat} {M:RM} {Q:ao} {σ:bw} {a:T} {neg:Bool},(tr ((P e).Gn n) (.ic neg a f)).E σ M Q=(tr ((P e).Gn n) a).E σ M λx M1=>aA 15 x=true/\Q (.bl (if neg then !inR x (l.map RV.str)else inR x (l.map RV.str))) M1
theorem qdH:lT e 0 (i4 e v0 v1) "many_told" v0:=lI rfl
theorem qdt:wT e 0 y (i4 e v0 v1) (i4 e y v1) "many_told":=wI rfl
theorem qeg:lT e 0 (i4 e v0 v1) "standing" v1:=lI rfl
theorem qdY:wT e 0 y (i4 e v0 v1) (i4 e v0 y) "standing":=wI rfl
theorem qlf:wT e 0 y (.ins (e.C 0) []) (.ins (e.C 0) [("many_told",y)]) "many_told":=wI rfl
theorem qle:wT e 0 y (.ins (e.C 0) [("many_told",v0)]) (i4 e v0 y) "standing":=wI rfl
theorem qr1:kT 18 0:=vZ (d:=uQ) rfl
theorem qc9:mT e 0 (i4 e v0 v1) "door_for":=mI rfl
theorem qd3:tT 71 0 "door_for":=bJ (d:=ug) rfl
theorem qfC:mT e 0 (i4 e v0 v1) "tell":=mI rfl
theorem qhm:tT 78 0 "tell":=bJ (d:=uO) rfl
theorem qk0:lT e 1 (dP e v0 v1 v2 v3 v4) "low" v0:=lI rfl
theorem qkJ:wT e 1 y (dP e v0 v1 v2 v3 v4) (dP e y v1 v2 v3 v4) "low":=wI rfl
theorem qjo:lT e 1 (dP e v0 v1 v2 v3 v4) "high" v1:=lI rfl
theorem qiH:wT e 1 y (dP e v0 v1 v2 v3 v4) (dP e v0 y v2 v3 v4) "high":=wI rfl
theorem qjn:lT e 1 (dP e v0 v1 v2 v3 v4) "mark" v2:=lI rfl
theorem qiG:wT e 1 y (dP e v0 v1 v2 v3 v4) (dP e v0 v1 y v3 v4) "mark":=wI rfl
theorem qhX:lT e 1 (dP e v0 v1 v2 v3 v4) "taken" v3:=lI rfl
theorem qhb:wT e 1 y (dP e v0 v1 v2 v3 v4) (dP e v0 v1 v2 y v4) "taken":=wI rfl
theorem qhW:lT e 1 (dP e v0 v1 v2 v3 v4) "until" v4:=lI rfl
theorem qha:wT e 1 y (dP e v0 v1 v2 v3 v4) (dP e v0 v1 v2 v3 y) "until":=wI rfl
theorem qm8:wT e 1 y (.ins (e.C 1) []) (.ins (e.C 1) [("low",y)]) "low":=wI rfl
theorem qm7:wT e 1 y (.ins (e.C 1) [("low",v0)]) (.ins (e.C 1) [("low",v0),("high",y)]) "high":=wI rfl
theorem qm6:wT e 1 y (.ins (e.C 1) [("low",v0),("high",v1)]) (.ins (e.C 1) [("low",v0),("high",v1),("mark",y)]) "mark":=wI rfl
theorem qm5:wT e 1 y (.ins (e.C 1) [("low",v0),("high",v1),("mark",v2)]) (.ins (e.C 1) [("low",v0),("high",v1),("mark",v2),("taken",y)]) "taken":=wI rfl
theorem qm4:wT e 1 y (.ins (e.C 1) [("low",v0),("high",v1),("mark",v2),("taken",v3)]) (dP e v0 v1 v2 v3 y) "until":=wI rfl
theorem RW:mT e 1 (dP e v0 v1 v2 v3 v4) "from_mark":=mI rfl
theorem qd5:tT 19 1 "from_mark":=bJ (d:=ui) rfl
theorem qhQ:mT e 1 (dP e v0 v1 v2 v3 v4) "has":=mI rfl
theorem qkO:tT 34 1 "has":=bJ (d:=uz) rfl
theorem qgw:mT e 1 (dP e v0 v1 v2 v3 v4) "take":=mI rfl
theorem qiO:tT 35 1 "take":=bJ (d:=uW) rfl
theorem qeb:mT e 1 (dP e v0 v1 v2 v3 v4) "resting":=mI rfl
theorem qfp:tT 36 1 "resting":=bJ (d:=uq) rfl
theorem qda:mT e 1 (dP e v0 v1 v2 v3 v4) "many_free":=mI rfl
theorem qd4:tT 37 1 "many_free":=bJ (d:=uh) rfl
theorem qvh:kT 57 1:=vZ (d:=uX) rfl
theorem qec:mT e 1 (dP e v0 v1 v2 v3 v4) "is_free":=mI rfl
theorem qfq:tT 58 1 "is_free":=bJ (d:=ur) rfl
theorem qgx:mT e 1 (dP e v0 v1 v2 v3 v4) "give":=mI rfl
theorem qiP:tT 59 1 "give":=bJ (d:=uB) rfl
theorem qeS:mT e 1 (dP e v0 v1 v2 v3 v4) "picked":=mI rfl
theorem qgf:tT 72 1 "picked":=bJ (d:=uc) rfl
theorem qhV:lT e 2 (fC e v0 v1 v2 v3) "inner" v0:=lI rfl
theorem qg9:wT e 2 y (fC e v0 v1 v2 v3) (fC e y v1 v2 v3) "inner":=wI rfl
theorem qgI:lT e 2 (fC e v0 v1 v2 v3) "number" v1:=lI rfl
theorem qgc:wT e 2 y (fC e v0 v1 v2 v3) (fC e v0 y v2 v3) "number":=wI rfl
theorem qhU:lT e 2 (fC e v0 v1 v2 v3) "state" v2:=lI rfl
theorem qg8:wT e 2 y (fC e v0 v1 v2 v3) (fC e v0 v1 y v3) "state":=wI rfl
theorem qjm:lT e 2 (fC e v0 v1 v2 v3) "over" v3:=lI rfl
theorem qiF:wT e 2 y (fC e v0 v1 v2 v3) (fC e v0 v1 v2 y) "over":=wI rfl
theorem qm3:wT e 2 y (.ins (e.C 2) []) (.ins (e.C 2) [("inner",y)]) "inner":=wI rfl
theorem qm2:wT e 2 y (.ins (e.C 2) [("inner",v0)]) (.ins (e.C 2) [("inner",v0),("number",y)]) "number":=wI rfl
theorem qm1:wT e 2 y (.ins (e.C 2) [("inner",v0),("number",v1)]) (.ins (e.C 2) [("inner",v0),("number",v1),("state",y)]) "state":=wI rfl
theorem qm0:wT e 2 y (.ins (e.C 2) [("inner",v0),("number",v1),("state",v2)]) (fC e v0 v1 v2 y) "over":=wI rfl
theorem qvg:kT 75 2:=vZ (d:=pH) rfl
theorem qhT:lT e 3 (bN e v0 v1 v2 v3 v4 v5 v6) "form" v0:=lI rfl
theorem qg7:wT e 3 y (bN e v0 v1 v2 v3 v4 v5 v6) (bN e y v1 v2 v3 v4 v5 v6) "form":=wI rfl
theorem qhS:lT e 3 (bN e v0 v1 v2 v3 v4 v5 v6) "pool" v1:=lI rfl
theorem qg6:wT e 3 y (bN e v0 v1 v2 v3 v4 v5 v6) (bN e v0 y v2 v3 v4 v5 v6) "pool":=wI rfl
theorem qjl:lT e 3 (bN e v0 v1 v2 v3 v4 v5 v6) "now" v2:=lI rfl
theorem qiE:wT e 3 y (bN e v0 v1 v2 v3 v4 v5 v6) (bN e v0 v1 y v3 v4 v5 v6) "now":=wI rfl
theorem qef:lT e 3 (bN e v0 v1 v2 v3 v4 v5 v6) "by_inner" v3:=lI rfl
theorem qdX:wT e 3 y (bN e v0 v1 v2 v3 v4 v5 v6) (bN e v0 v1 v2 y v4 v5 v6) "by_inner":=wI rfl
theorem qdG:lT e 3 (bN e v0 v1 v2 v3 v4 v5 v6) "by_number" v4:=lI rfl
theorem qds:wT e 3 y (bN e v0 v1 v2 v3 v4 v5 v6) (bN e v0 v1 v2 v3 y v5 v6) "by_number":=wI rfl
theorem qeY:lT e 3 (bN e v0 v1 v2 v3 v4 v5 v6) "holders" v5:=lI rfl
theorem qex:wT e 3 y (bN e v0 v1 v2 v3 v4 v5 v6) (bN e v0 v1 v2 v3 v4 y v6) "holders":=wI rfl
theorem qeX:lT e 3 (bN e v0 v1 v2 v3 v4 v5 v6) "numbers" v6:=lI rfl
theorem qew:wT e 3 y (bN e v0 v1 v2 v3 v4 v5 v6) (bN e v0 v1 v2 v3 v4 v5 y) "numbers":=wI rfl
theorem qld:wT e 3 y (.ins (e.C 3) []) (.ins (e.C 3) [("form",y)]) "form":=wI rfl
theorem qlc:wT e 3 y (.ins (e.C 3) [("form",v0)]) (.ins (e.C 3) [("form",v0),("pool",y)]) "pool":=wI rfl
theorem qlb:wT e 3 y (.ins (e.C 3) [("form",v0),("pool",v1)]) (.ins (e.C 3) [("form",v0),("pool",v1),("now",y)]) "now":=wI rfl
theorem qla:wT e 3 y (.ins (e.C 3) [("form",v0),("pool",v1),("now",v2)]) (.ins (e.C 3) [("form",v0),("pool",v1),("now",v2),("by_inner",y)]) "by_inner":=wI rfl
theorem qk9:wT e 3 y (.ins (e.C 3) [("form",v0),("pool",v1),("now",v2),("by_inner",v3)]) (.ins (e.C 3) [("form",v0),("pool",v1),("now",v2),("by_inner",v3),("by_number",y)]) "by_number":=wI rfl
theorem qk8:wT e 3 y (.ins (e.C 3) [("form",v0),("pool",v1),("now",v2),("by_inner",v3),("by_number",v4)]) (.ins (e.C 3) [("form",v0),("pool",v1),("now",v2),("by_inner",v3),("by_number",v4),("holders",y)]) "holders":=wI rfl
theorem qk7:wT e 3 y (.ins (e.C 3) [("form",v0),("pool",v1),("now",v2),("by_inner",v3),("by_number",v4),("holders",v5)]) (bN e v0 v1 v2 v3 v4 v5 y) "numbers":=wI rfl
theorem qea:mT e 3 (bN e v0 v1 v2 v3 v4 v5 v6) "living":=mI rfl
theorem qfo:tT 20 3 "living":=bJ (d:=pK) rfl
theorem qr0:kT 38 3:=vZ (d:=uM) rfl
theorem qc7:mT e 3 (bN e v0 v1 v2 v3 v4 v5 v6) "of_inner":=mI rfl
theorem qd1:tT 39 3 "of_inner":=bJ (d:=ue) rfl
theorem qcS:mT e 3 (bN e v0 v1 v2 v3 v4 v5 v6) "number_of":=mI rfl
theorem qdu:tT 40 3 "number_of":=bJ (d:=uw) rfl
theorem qfB:mT e 3 (bN e v0 v1 v2 v3 v4 v5 v6) "held":=mI rfl
theorem qhl:tT 41 3 "held":=bJ (d:=uN) rfl
theorem qdB:mT e 3 (bN e v0 v1 v2 v3 v4 v5 v6) "pass_by":=mI rfl
theorem qey:tT 42 3 "pass_by":=bJ (d:=aG) rfl
theorem qfz:mT e 3 (bN e v0 v1 v2 v3 v4 v5 v6) "lend":=mI rfl
theorem qhj:tT 60 3 "lend":=bJ (d:=uL) rfl
theorem qfA:mT e 3 (bN e v0 v1 v2 v3 v4 v5 v6) "lead":=mI rfl
theorem qhk:tT 61 3 "lead":=bJ (d:=pG) rfl
theorem qc8:mT e 3 (bN e v0 v1 v2 v3 v4 v5 v6) "end_lend":=mI rfl
theorem qd2:tT 62 3 "end_lend":=bJ (d:=uf) rfl
theorem qgv:mT e 3 (bN e v0 v1 v2 v3 v4 v5 v6) "end":=mI rfl
theorem qiN:tT 63 3 "end":=bJ (d:=uV) rfl
theorem qeR:mT e 3 (bN e v0 v1 v2 v3 v4 v5 v6) "begin":=mI rfl
theorem qge:tT 73 3 "begin":=bJ (d:=pN) rfl
theorem qc6:mT e 3 (bN e v0 v1 v2 v3 v4 v5 v6) "of_outer":=mI rfl
theorem qd0:tT 76 3 "of_outer":=bJ (d:=pJ) rfl
theorem qjq:lT e 4 (bx e v0 v1 v2 v3 v4) "form" v0:=lI rfl
theorem qiJ:wT e 4 y (bx e v0 v1 v2 v3 v4) (bx e y v1 v2 v3 v4) "form":=wI rfl
theorem qhY:lT e 4 (bx e v0 v1 v2 v3 v4) "table" v1:=lI rfl
theorem qhc:wT e 4 y (bx e v0 v1 v2 v3 v4) (bx e v0 y v2 v3 v4) "table":=wI rfl
theorem qeh:lT e 4 (bx e v0 v1 v2 v3 v4) "strangers" v2:=lI rfl
theorem qdZ:wT e 4 y (bx e v0 v1 v2 v3 v4) (bx e v0 v1 y v3 v4) "strangers":=wI rfl
theorem qjr:lT e 4 (bx e v0 v1 v2 v3 v4) "done" v3:=lI rfl
theorem qiK:wT e 4 y (bx e v0 v1 v2 v3 v4) (bx e v0 v1 v2 y v4) "done":=wI rfl
theorem qjp:lT e 4 (bx e v0 v1 v2 v3 v4) "wish" v4:=lI rfl
theorem qiI:wT e 4 y (bx e v0 v1 v2 v3 v4) (bx e v0 v1 v2 v3 y) "wish":=wI rfl
theorem qnd:wT e 4 y (.ins (e.C 4) []) (.ins (e.C 4) [("form",y)]) "form":=wI rfl
theorem qnc:wT e 4 y (.ins (e.C 4) [("form",v0)]) (.ins (e.C 4) [("form",v0),("table",y)]) "table":=wI rfl
theorem qnb:wT e 4 y (.ins (e.C 4) [("form",v0),("table",v1)]) (.ins (e.C 4) [("form",v0),("table",v1),("strangers",y)]) "strangers":=wI rfl
theorem qna:wT e 4 y (.ins (e.C 4) [("form",v0),("table",v1),("strangers",v2)]) (.ins (e.C 4) [("form",v0),("table",v1),("strangers",v2),("done",y)]) "done":=wI rfl
theorem qm9:wT e 4 y (.ins (e.C 4) [("form",v0),("table",v1),("strangers",v2),("done",v3)]) (bx e v0 v1 v2 v3 y) "wish":=wI rfl
theorem qeT:mT e 4 (bx e v0 v1 v2 v3 v4) "moment":=mI rfl
theorem qgg:tT 22 4 "moment":=bJ (d:=ud) rfl
theorem qgC:mT e 4 (bx e v0 v1 v2 v3 v4) "free":=mI rfl
theorem qiU:tT 23 4 "free":=bJ (d:=uI) rfl
theorem qfF:mT e 4 (bx e v0 v1 v2 v3 v4) "lends":=mI rfl
theorem qhp:tT 24 4 "lends":=bJ (d:=uU) rfl
theorem qfD:mT e 4 (bx e v0 v1 v2 v3 v4) "talks":=mI rfl
theorem qhn:tT 25 4 "talks":=bJ (d:=uR) rfl
theorem qfE:mT e 4 (bx e v0 v1 v2 v3 v4) "rests":=mI rfl
theorem qho:tT 26 4 "rests":=bJ (d:=uS) rfl
theorem qvi:kT 43 4:=vZ (d:=uH) rfl
theorem qgD:mT e 4 (bx e v0 v1 v2 v3 v4) "deed":=mI rfl
theorem qiV:tT 44 4 "deed":=bJ (d:=uJ) rfl
theorem qgy:mT e 4 (bx e v0 v1 v2 v3 v4) "wait":=mI rfl
theorem qiQ:tT 45 4 "wait":=bJ (d:=uC) rfl
theorem qgz:mT e 4 (bx e v0 v1 v2 v3 v4) "sent":=mI rfl
theorem qiR:tT 46 4 "sent":=bJ (d:=uD) rfl
theorem qcT:mT e 4 (bx e v0 v1 v2 v3 v4) "picked_for":=mI rfl
theorem qdv:tT 47 4 "picked_for":=bJ (d:=ux) rfl
theorem qdb:mT e 4 (bx e v0 v1 v2 v3 v4) "told_lost":=mI rfl
theorem qd6:tT 48 4 "told_lost":=bJ (d:=uj) rfl
theorem qdc:mT e 4 (bx e v0 v1 v2 v3 v4) "rule_told":=mI rfl
theorem qd7:tT 49 4 "rule_told":=bJ (d:=uk) rfl
theorem qdD:mT e 4 (bx e v0 v1 v2 v3 v4) "answered":=mI rfl
theorem qeA:tT 64 4 "answered":=bJ (d:=mR) rfl
theorem qdC:mT e 4 (bx e v0 v1 v2 v3 v4) "lead_out":=mI rfl
theorem qez:tT 65 4 "lead_out":=bJ (d:=uo) rfl
theorem qdd:mT e 4 (bx e v0 v1 v2 v3 v4) "begin_out":=mI rfl
theorem qd8:tT 66 4 "begin_out":=bJ (d:=um) rfl
theorem qed:mT e 4 (bx e v0 v1 v2 v3 v4) "lead_in":=mI rfl
theorem qfr:tT 67 4 "lead_in":=bJ (d:=pL) rfl
theorem qgB:mT e 4 (bx e v0 v1 v2 v3 v4) "lost":=mI rfl
theorem qiT:tT 79 4 "lost":=bJ (d:=uF) rfl
theorem qgA:mT e 4 (bx e v0 v1 v2 v3 v4) "rule":=mI rfl
theorem qiS:tT 80 4 "rule":=bJ (d:=uE) rfl
theorem qee:mT e 4 (bx e v0 v1 v2 v3 v4) "come_in":=mI rfl
theorem qfs:tT 81 4 "come_in":=bJ (d:=pM) rfl
theorem qct:mT e 4 (bx e v0 v1 v2 v3 v4) "come_by_rule":=mI rfl
theorem qcR:tT 82 4 "come_by_rule":=bJ (d:=uu) rfl
theorem qgE:mT e 4 (bx e v0 v1 v2 v3 v4) "come":=mI rfl
theorem qiW:tT 83 4 "come":=bJ (d:=pI) rfl
theorem qhR:mT e 4 (bx e v0 v1 v2 v3 v4) "out":=mI rfl
theorem qkP:tT 84 4 "out":=bJ (d:=uA) rfl
theorem qek:gT "GREATEST_HOUSE" 99:=jD rfl
theorem qe9:gT "GREATEST_DOOR" 9999:=jD rfl
theorem qej:gT "GREATEST_PLACE" 1000000:=jD rfl
theorem qei:gT "GREATEST_TICKS" 1000000:=jD rfl
theorem qig:gT "MOST_SIGNS" 40:=jD rfl
theorem qih:gT "FIRST_SIGN" 32:=jD rfl
theorem qjD:gT "LAST_SIGN" 126:=jD rfl
theorem qfI:gT "PERCENT_SIGN" 37:=jD rfl
theorem qgR:gT "WIDEST_STEP" 199:=jD rfl
theorem qe8:gT "GREATEST_MOST" 200:=jD rfl
theorem qe7:gT "GREATEST_TIME" 1000000:=jD rfl
theorem qsM:cT "KINDS" ["note","line"]:=qo rfl
theorem qit:cT "NOTE_WORDS" ["say"]:=qo rfl
theorem qiu:cT "LINE_WORDS" ["open","say","close","break"]:=qo rfl
theorem qlo:cT "LENDINGS" ["door","place","talk"]:=qo rfl
theorem qpA:cT "SIEVES" ["all","place","talk"]:=qo rfl
theorem qsL:cT "PICKS" ["next","keep"]:=qo rfl
theorem qjR:cT "BREAKABLE" ["asked","called","up","near","far"]:=qo rfl
end
local macro_rules | `(tactic| walk_at "ev") => do
 let f:=fun(t:String)=>(t.splitOn "|").toArray.map fun s=>Lean.mkIdent s.toName
 let a<-(f "qdH|qdt|qeg|qdY|qlf|qle|qr1|qc9|qd3|qfC|qhm|qk0|qkJ|qjo|qiH|qjn|qiG|qhX|qhb|qhW|qha|qm8|qm7|qm6|qm5|qm4|RW|qd5|qhQ|qkO|qgw|qiO|qeb|qfp|qda|qd4|qvh|qec|qfq|qgx|qiP|qeS|qgf|qhV|qg9|qgI|qgc|qhU|qg8|qjm|qiF|qm3|qm2|qm1|qm0|qvg|qhT|qg7|qhS|qg6|qjl|qiE|qef|qdX|qdG|qds|qeY|qex|qeX|qew|qld|qlc|qlb|qla|qk9|qk8|qk7|qea|qfo|qr0|qc7|qd1|qcS|qdu|qfB|qhl|qdB|qey|qfz|qhj|qfA|qhk|qc8|qd2|qgv|qiN|qeR|qge|qc6|qd0|qjq|qiJ|qhY|qhc|qeh|qdZ|qjr|qiK|qjp|qiI|qnd|qnc|qnb|qna|qm9|qeT|qgg|qgC|qiU|qfF|qhp|qfD|qhn|qfE|qho|qvi|qgD|qiV|qgy|qiQ|qgz|qiR|qcT|qdv|qdb|qd6|qdc|qd7|qdD|qeA|qdC|qez|qdd|qd8|qed|qfr|qgB|qiT|qgA|qiS|qee|qfs|qct|qcR|qgE|qiW|qhR|qkP|qek|qe9|qej|qei|qig|qih|qjD|qfI|qgR|qe8|qe7|qsM|qit|qiu|qlo|qpA|qsL|qjR|qxW|qxU|qxV|qx5|qx4|qGH|qyX|g_C|qGG|qGF|qyY|mV|qsc|qr5|qr8|qn7|qqP|qlu|qst|qyg|qyf|qyZ|qyT|qy9|qsC|qys|qsF|qvK|qEW|qFn|qsd|qwl|bI|XU|qta|qtc|qvX|qzc|qE2|qr9|qxb|qxa|sA|qvG|qFN|qr7|qFJ|qFP|qGB|Ng|qvj|qGz|qx8|qGy|qGC|qFh|Cg|qwf|qwg|qsV|qwe|qwd|qsS|qsT|qsU|qwc|qwb|qFM|qGx|qsp|qsn|qsq|qso|qsm|qv2|Ol|Oj|PV|PU|PQ|PN|PM|PL|qER|qtt|qET|qr3|qFg|Uc|qE3|qsa|qFS|quU|quT|qyC|qyD|qyA|qyB|qqZ|yD|qyO|qyN|qyM|reduceIte|qGA|qo9|t_v|t_i|t_s|t_b|t_n|qEQ|qE0|qFi|qe|qFj|qvn|T_v|qHm|qHn|qHk|qHo|qHi|qHp|qHl|qHj|qHf|T_b|qHq|qHg|qHh|iF|Bv|qFo|qEZ|qvl|qE1|qE7|qES|qE5|qE4|qFa|qE9|qE6|qEV|qEY|qvk|qEX|qE8|qFk|qFm|qFl|qFe|qFc|qFf|qFd|qFb|PK|bX|qFL|qFO|qFQ|qFK|qFR|qr2|qFI|p7|qyz|qGY|qGZ|qG1|qG2|qG0|qsK|qzn|qzl|qzi|qzh|bP").mapM fun s=>`(Lean.Parser.Tactic.simpLemma| ↓$s:ident)
 let b<-(f "List.getElem?_cons_zero|List.getElem?_cons_succ|true_and|Bool.not_true|Bool.not_false|jI|wJ|Bool.false_and|Bool.and_true|Bool.true_or|Bool.false_or|List.set_cons_zero|List.set_cons_succ|vm|cQ|List.length_nil|bU|qN|List.cons_append|ka|Option.join_some|Option.isSome_some|Option.isSome_none|bF|iD|qoc|Nat.reduceAdd|jf|Int.reduceBEq|beq_self_eq_true|Int.reduceLE|Int.reduceLT|decide_true|decide_false|z_0|qEt|qGX|z_1|qEs|qGW|z_2|qEr|qGV|z_3|qEq|qGU|z_4|qEp|qGT|z_5|qEo|qGS|z_6|qEn|qGR|z_7|qEm|qGQ|z_8|qEl|qGP|z_9|qEk|qGO|and_true").mapM fun s=>`(Lean.Parser.Tactic.simpLemma| $s:ident)
 let c:=a++b
 `(tactic|simp -implicitDefEqProofs only[$c,*])
local macro_rules | `(tactic| walk_at "evs") => do
 let some s<-Lean.Macro.expandMacro? (<-`(tactic|walk_at "ev"))|Lean.Macro.throwUnsupported
 match s with
 | `(tactic|simp -implicitDefEqProofs only[$ls,*])=>`(tactic|simp -implicitDefEqProofs only[*,put_ne,ne_eq,not_false_eq_true,$ls,*])
 |_=>Lean.Macro.throwUnsupported
local macro_rules | `(tactic| walk_at "evl") => do
 let some s<-Lean.Macro.expandMacro? (<-`(tactic|walk_at "ev"))|Lean.Macro.throwUnsupported
 let a<-#["lg","lp","lo","lop","Nat.reduceLT","put_ne","ne_eq","not_false_eq_true"].mapM fun s=>`(Lean.Parser.Tactic.simpLemma| $(Lean.mkIdent s.toName):ident)
 match s with
 | `(tactic|simp -implicitDefEqProofs only[$ls,*])=>
  let c:=a++ls.getElems
  `(tactic|simp -implicitDefEqProofs only[*,$c,*])
 |_=>Lean.Macro.throwUnsupported
local macro_rules | `(tactic| walk_at "z") => `(tactic| (rw [bP, bX]; dsimp only [List.set_cons_zero, List.set_cons_succ]; walk_at "ev"))
section
variable {e:Env}{n:Nat}{M:RM}{Q:ao}
theorem TX{i:Int}:aw (P e) (n+1) 0 [.int i] M Q=Q (.bl true) M:=by
 rw[us (i:=0) (d:=xP) rfl];simp only[xP];walk_at "ev"
theorem nQ{i j k:Int}:aw (P e) (n+2) 54 [.int i,.int j,.int k] M Q=Q (.bl (decide (j<=i)&&decide (i<=k))) M:=by
 rw[us (i:=54) (d:=xx) rfl];simp only[xx];walk_at "ev";simp only[↓TX];walk_at "ev";simp only[N7]
theorem JJ{i:Int}:aw (P e) (n+3) 1 [.int i] M Q=Q (.bl (decide (0<=i)&&decide (i<=99))) M:=by
 rw[us (i:=1) (d:=xT) rfl];simp only[xT];walk_at "ev";rw[nQ]
theorem pQ{i:Int}:aw (P e) (n+3) 2 [.int i] M Q=Q (.bl (decide (1<=i)&&decide (i<=9999))) M:=by
 rw[us (i:=2) (d:=ye) rfl];simp only[ye];walk_at "ev";rw[nQ]
theorem TY{i:Int}:aw (P e) (n+3) 3 [.int i] M Q=Q (.bl (decide (0<=i)&&decide (i<=1000000))) M:=by
 rw[us (i:=3) (d:=xS) rfl];simp only[xS];walk_at "ev";rw[nQ]
theorem JI{i:Int}:aw (P e) (n+3) 4 [.int i] M Q=Q (.bl (decide (1<=i)&&decide (i<=1000000))) M:=by
 rw[us (i:=4) (d:=xy) rfl];simp only[xy];walk_at "ev";rw[nQ]
theorem yL{x:Str}:(aA k (.str x)=true)=True:=by cases k<;>exact eq_true rfl
def Kd(k:Str):Prop:=k= "note"∨k= "line"
def Kw(k w:Str):Prop:=k= "note"/\w= "say"∨k= "line"/\(w= "open"∨w= "break")
theorem Kw.kd(h:Kw k w):Kd k:=h.elim (λh=>.inl h.1) λh=>.inr h.1
theorem AQ(h:Kd k):aw (P e) (n+1) 6 [.str k] M Q=Q (.bl true) M:=by
 rw[us (i:=6) (d:=yc) rfl];simp only[yc];walk_at "ev";rw[show inR (.str k) [.str "note",.str "line"]=true by rcases h with rfl|rfl<;>decide+kernel,yL,true_and]
theorem TU(h:Kw k w):aw (P e) (n+1) 29 [.str k,.str w] M Q=Q (.bl true) M:=by
 rw[us (i:=29) (d:=x9) rfl];simp only[x9];walk_at "ev";rcases h with⟨rfl,rfl⟩|⟨rfl,h⟩
 . rw[ah (by decide+kernel),show inR (.str "say") [.str "say"]=true by decide+kernel,yL,true_and]
 . rw[ae (by decide+kernel),show inR (.str w) [.str "open",.str "say",.str "close",.str "break"]=true by rcases h with rfl|rfl<;>decide+kernel,yL,true_and]
theorem fh:cZ M:=trivial
theorem Tv(h:Q (.bl true) M):aw (P e) (n+2) 8 [.str ""] M Q:=by
 rw[us (i:=8) (d:=ya) rfl];simp only[ya];walk_at "ev";refine⟨by decide+kernel,?_⟩
 rw[ae (by decide+kernel),show mY "" = [] by decide+kernel]
 refine⟨by decide,iB (bd:=fv false 1) (λ_=>true) (λ_=>.bl true) fh _ _ (λy a=>by cases a) ?_⟩
 exact(Mz (bs:=[])).mpr h
theorem Jx(l:Kw k w)(h:Q (.bl true) M):aw (P e) (n+3) 55 [.str k,.str w,.str ""] M Q:=by
 rw[us (i:=55) (d:=xU) rfl];simp only[xU];walk_at "ev";rw[AQ l.kd,iF,ah rfl,TU l,iF,ah rfl];exact Tv h
theorem fE{a b c d:Int}(f:a<=b)(g:c<=d):(decide (a<=b)&&decide (c<=d))=true:=by simp[f,g]
theorem Vy{a b c d:Int}(l:Kw k w)(f:0<=a/\a<=99)(g:1<=b/\b<=9999)(j:0<=c/\c<=1000000)(m:1<=d/\d<=9999)(h:Q (.bl true) M):aw (P e) (n+4) 9 [.tup [.str k,.int a,.int b,.int c,.int d,.str w,.str ""]] M Q:=by
 rw[us (i:=9) (d:=vj) rfl];simp only[vj];walk_at "ev";simp only[↓JJ,↓pQ,↓TY,↓iF,fE f.1 f.2,fE g.1 g.2,fE j.1 j.2,fE m.1 m.2,↓reduceIte];exact Jx l h
theorem UK{x:Str}:aw (P e) (n+1) 14 [.tup (.str x::r)] M Q=Q (.str x) M:=by
 rw[us (i:=14) (d:=x8) rfl];simp only[x8];walk_at "ev";simp only[Yc,jI,↓reduceIte]
def Dd(e:Env)(x:Str)(i:Nat):Prop:=∃a,eY (e.tb "DEEDS") (.inr x)=some (.ref a)/\(a,i)∈e.cv
structure Tb(e:Env):Prop where
 out:Dd e "out" 9
 come:Dd e "come" 10
 lost:Dd e "lost" 11
 wait:Dd e "wait" 12
 rule:Dd e "rule" 13
 t0:eY (e.tb "TIME_AT") (.inr "note")=some (.int 0)
 t1:eY (e.tb "TIME_AT") (.inr "asked")=some (.int 1)
 t2:eY (e.tb "TIME_AT") (.inr "called")=some (.int 1)
 t3:eY (e.tb "TIME_AT") (.inr "up")=some (.int 2)
 t4:eY (e.tb "TIME_AT") (.inr "near")=some (.int 2)
 t5:eY (e.tb "TIME_AT") (.inr "far")=some (.int 2)
theorem rY{x:Str}{i:Nat}(d:Dd e x i)(h:aw (P e) (n+4) i [.tup ps] M Q):aw (P e) (n+5) 15 [.tup (.str x::ps)] M Q:=by
 rw[us (i:=15) (d:=yf) rfl];simp only[yf];walk_at "ev";rw[UK];walk_at "ev";obtain⟨f,a,b⟩:=d;rw[a,mV,Uc,ae (by simp)]
 refine⟨_,aP.mpr ⟨_,b,rfl⟩,?_⟩;walk_at "ev";rw[GR];exact h
theorem J0{a b c:Int}(l:Kw k w)(f:1<=a/\a<=1000000)(g:1<=b/\b<=9999)(j:1<=c/\c<=9999)(h:Q (.bl true) M):aw (P e) (n+4) 10 [.tup [.str k,.int a,.int b,.int c,.str w,.str ""]] M Q:=by
 rw[us (i:=10) (d:=uZ) rfl];simp only[uZ];walk_at "ev";simp only[↓JI,↓pQ,↓iF,fE f.1 f.2,fE g.1 g.2,fE j.1 j.2,↓reduceIte];exact Jx l h
theorem Tu(a:0<=k)(b:k<=1000000)(h:Q (.bl true) M):aw (P e) (n+4) 12 [.tup [.int k]] M Q:=by
 rw[us (i:=12) (d:=vf) rfl];simp only[vf];walk_at "ev";rw[us (i:=5) (d:=xR) rfl];simp only[xR];walk_at "ev";rw[nQ];simp only[a,b,decide_true,Bool.and_true];exact h
theorem Tx{a b c d:Int}(l:Kd k)(f:1<=a/\a<=1000000)(g:1<=b/\b<=9999)(j:1<=c/\c<=1000000)(m:1<=d/\d<=9999)(h:Q (.bl true) M):aw (P e) (n+4) 11 [.tup [.int a,.str k,.int b,.int c,.int d]] M Q:=by
 rw[us (i:=11) (d:=vh) rfl];simp only[vh];walk_at "ev";simp only[↓JI,↓pQ,↓iF,fE f.1 f.2,fE g.1 g.2,fE j.1 j.2,fE m.1 m.2,↓AQ l,↓reduceIte];exact h
theorem Tw{a b c:Int}(l:Kd k)(f:1<=a/\a<=9999)(g:0<=b/\b<=99)(j:1<=c/\c<=9999)(h:Q (.bl true) M):aw (P e) (n+4) 13 [.tup [.str k,.int a,.aq,.int b,.int c]] M Q:=by
 rw[us (i:=13) (d:=vg) rfl];simp only[vg];walk_at "ev";rw[AQ l,iF,ah rfl,pQ,fE f.1 f.2,iF,ah rfl,JJ,fE g.1 g.2,iF,ah rfl,pQ,fE j.1 j.2];exact h
def Ws(s:Str):Prop:=s= "note"∨s= "asked"∨s= "called"∨s= "up"∨s= "near"∨s= "far"
theorem XR(tb:Tb e){l h le f c b re:RV}{st:Str}(z:Ws st)(a:∀x:Int,Q (.int x) M):aw (P e) (n+1) 32 [.tup [l,h,le,f,c,b,re,.tup [.int t0,.int t1,.int t2,.int t3]],.str st] M Q:=by
 rw[us (i:=32) (d:=x6) rfl];simp only[x6];walk_at "ev";rcases z with rfl|rfl|rfl|rfl|rfl|rfl
 . rw[tb.t0];walk_at "ev";exact a _
 . rw[tb.t1];walk_at "ev";exact a _
 . rw[tb.t2];walk_at "ev";exact a _
 . rw[tb.t3];walk_at "ev";exact a _
 . rw[tb.t4];walk_at "ev";exact a _
 . rw[tb.t5];walk_at "ev";exact a _
def oS:Option Str->RV
 |some x=>.str x
 |none=>.aq
noncomputable def steps:List (TK×Str):=(S.tt.lookup ("LINE_STEPS":Str)).getD []
noncomputable def xq (st:Option Str)(a w:Str):Option Str:=if w= "break" then(if inR (oS st) [.str "asked",.str "called",.str "up",.str "near",.str "far"]=true then some ("shut":Str)else none)else(steps.find? λp=>decide (p.1= [some (.inr a),st.map Sum.inr,some (.inr w)])).map (·.2)
theorem WI{l:List (TK×Str)}:jW l k=oS ((l.find? λp=>decide (p.1=k)).map (·.2)):=by unfold jW;split<;>rename_i h<;>rw[h]<;>rfl
theorem Qe{b:G}{x:Str}{a:T}{l:List (TK×Str)}(h:b.S.tt.lookup x=some l):(tr b (.tg x a)).E σ M Q=(tr b a).E σ M (yq l Q):=by
 show(match b.S.tt.lookup x with|some l=>yA l (tr b a).E|none=>gz) σ M Q=_
 rw[h];rfl
theorem SG{st:Option Str}:aw (P e) (n+1) 56 [oS st,.str sd,.str w] M Q=Q (oS (xq st sd w)) M:=by
 rw[us (i:=56) (d:=xF) rfl];simp only[xF];walk_at "ev";have o1:aA 15 (oS st)=true:=by cases st<;>rfl
 have a:gB [.str sd,oS st,.str w]=some [some (.inr sd),st.map Sum.inr,some (.inr w)]:=by cases st<;>rfl
 unfold xq
 by_cases h:w= "break"
 . rw[ah (by simpa using h),ah h,o1,eq_self_iff_true,true_and]
   split<;>rfl
 . rw[ae (by simpa using h),ae h]
   rw[Qe (l:=steps) (by rfl)]
   walk_at "ev";show(match gB [.str sd,oS st,.str w]with|some ks=>Q (jW steps ks) M|none=>False)=_
   rw[a];dsimp only;rw[WI]
noncomputable def nx (k:Str)(st:Option Str)(a w:Str):Option Str:=if k= "note" then(if w=("say":Str)/\(st=none∨st=some ("note":Str))then some ("note":Str)else none)else xq st a w
theorem Js{st:Option Str}:aw (P e) (n+2) 70 [.str k,oS st,.str sd,.str w] M Q=Q (oS (nx k st sd w)) M:=by
 rw[us (i:=70) (d:=xE) rfl];simp only[xE];walk_at "ev";unfold nx
 by_cases h:k= "note"
 . rw[ah (by simpa using h),ah h];rw[us (i:=33) (d:=xD) rfl];simp only[xD];walk_at "ev"
   by_cases a:w= "say"
   . subst a
     cases st with
     |none=>rw[show oS none= .aq from rfl];walk_at "ev";rw[ah (Or.inl trivial)];rfl
     |some s=>
      rw[show oS (some s)= .str s from rfl];walk_at "ev"
      by_cases b:s= "note"
      . subst b;walk_at "ev";rw[ah (Or.inr trivial)];rfl
      . rw[ae (by simpa using b),ae (λz=>z.elim (λz=>by cases z) λz=>b (dz z))];rfl
   . rw[ae (by simpa using a),ae (λz=>a z.1)];rfl
 . rw[ae (by simpa using h),ae h]
   exact SG
theorem NV:aw (P e) (n+2) 70 [.str k,.aq,.str sd,.str w] M Q=Q (oS (nx k none sd w)) M:=Js (st:=none)
theorem Cd{k st a w:Str}:aw (P e) (n+2) 70 [.str k,.str st,.str a,.str w] M Q=Q (oS (nx k (some st) a w)) M:=Js (st:=some st)
theorem VV{a:Str}{l h r o m re s j f g pl k:RV}:aw (P e) (n+1) 31 [.tup [l,h,.str a,r,o,m,re,s],.tup [j,f,g,pl,k]] M Q=
 Q (if a= "door" then .tup [j,f,g,.aq,.aq]else if a= "place" then .tup [j,f,g,pl,.aq]else .tup [j,f,g,pl,k]) M:=by
 rw[us (i:=31) (d:=xV) rfl];simp only[xV];unfold Jj;walk_at "ev";unfold Ji;walk_at "ev";unfold Jh;walk_at "ev";simp only[eQ]
 by_cases b:a= "door"
 . rw[ah b,ah b]
 . rw[ae b,ae b]
   unfold Jg;walk_at "ev";simp only[eQ]
   by_cases c:a= "place"
   . rw[ah c,ah c]
   . rw[ae c,ae c]
     unfold Jf;walk_at "ev"
theorem UL{l h:Int}(a:1<=l)(b:l<=h)(c:h<=9999)(f:h<=l+199):aw (P e) (n+4) 30 [.int l,.int h] M Q=Q (.bl true) M:=by
 rw[us (i:=30) (d:=yb) rfl];simp only[yb];walk_at "ev";rw[pQ,fE a (by omega),iF,ah rfl,pQ,fE (by omega) c,iF,ah rfl]
 rw[fK b,fK f];rfl
theorem To{a b c d:Int}(k:1<=a/\a<=1000000)(l:1<=b/\b<=1000000)(m:1<=c/\c<=1000000)(f:0<=d/\d<=1000000)(h:Q (.bl true) M):aw (P e) (n+3) 16 [.tup [.int a,.int b,.int c,.int d]] M Q:=by
 rw[us (i:=16) (d:=xQ) rfl];simp only[xQ];walk_at "ev";rw[show gu [RV.int a,RV.int b,RV.int c,RV.int d] none (some 3)= [RV.int a,RV.int b,RV.int c]from rfl]
 refine⟨(by decide:3<sizeLine),iB (bd:=fv false 1) (λ_=>true) (λ_=>.bl true) fh _ _ (λx hx=>⟨[x],rfl,λK h=>h,λ_ K h=>?_⟩) ?_⟩
 . have:∃i:Int,x= .int i/\1<=i/\i<=1000000:=by
    simp only[fw,List.not_mem_nil,or_false]at hx;rcases hx with rfl|rfl|rfl
    . exact⟨a,rfl,k⟩
    . exact⟨b,rfl,l⟩
    . exact⟨c,rfl,m⟩
   obtain⟨i,rfl,g,j⟩:=this;walk_at "ev";rw[nQ,fE g j];exact h
 . refine(Mz (bs:=[true,true,true])).mpr ?_
   show xn _ Q (.bl true) M;rw[iF,ah rfl,nQ,fE f.1 f.2];exact h
theorem WK{x:Str}(h:x= "door"∨x= "place"∨x= "talk"):inR (.str x) [.str "door",.str "place",.str "talk"]=true:=by rcases h with rfl|rfl|rfl<;>decide+kernel
theorem Vr{x:Str}(h:x= "all"∨x= "place"∨x= "talk"):inR (.str x) [.str "all",.str "place",.str "talk"]=true:=by rcases h with rfl|rfl|rfl<;>decide+kernel
theorem W8{x:Str}(h:x= "next"∨x= "keep"):inR (.str x) [.str "next",.str "keep"]=true:=by rcases h with rfl|rfl<;>decide+kernel
structure Fm where
 low:Int
 high:Int
 lend:Str
 sieve:Str
 pick:Str
 most:Int
 renew:Bool
 t0:Int
 t1:Int
 t2:Int
 t3:Int
noncomputable def Fm.times (f:Fm):RV:=.tup [.int f.t0,.int f.t1,.int f.t2,.int f.t3]
noncomputable def Fm.r (f:Fm):RV:=.tup [.int f.low,.int f.high,.str f.lend,.str f.sieve,.str f.pick,.int f.most,.bl f.renew,f.times]
structure Fm.Ok(f:Fm):Prop where
 lo:1<=f.low
 le:f.low<=f.high
 hi:f.high<=9999
 wide:f.high<=f.low+199
 lend:f.lend= "door"∨f.lend= "place"∨f.lend= "talk"
 sieve:f.sieve= "all"∨f.sieve= "place"∨f.sieve= "talk"
 pick:f.pick= "next"∨f.pick= "keep"
 most:1<=f.most/\f.most<=200
 t0:1<=f.t0/\f.t0<=1000000
 t1:1<=f.t1/\f.t1<=1000000
 t2:1<=f.t2/\f.t2<=1000000
 t3:0<=f.t3/\f.t3<=1000000
theorem Tz{f:Fm}(a:f.Ok)(h:Q (.bl true) M):aw (P e) (n+5) 17 [f.r] M Q:=by
 unfold Fm.r;rw[us (i:=17) (d:=yd) rfl];simp only[yd];unfold HU;walk_at "ev";unfold HS;walk_at "ev";unfold HR;walk_at "ev";simp only[WK a.lend,Vr a.sieve,W8 a.pick,yL,↓reduceIte,Bool.not_true,jI,true_and];unfold I0;walk_at "ev";rw[nQ,fE a.most.1 a.most.2];walk_at "ev";unfold IZ;walk_at "ev";rw[UL a.lo a.le a.hi a.wide,iF,ah rfl];exact To a.t0 a.t1 a.t2 a.t3 h
end
section
variable {M:RM}
theorem Cc{x a:Addr}(hx:M x=none)(h:M a=some o):a≠x:=λz=>by
 rw[z,hx]at h;cases h
theorem KZ{x a:Addr}(h:put M a o x=none):M x=none/\x≠a:=by
 unfold put at h
 by_cases z:x=a
 . rw[ah z]at h;cases h
 . rw[ae z]at h;exact⟨h,z⟩
theorem yi{a b:Addr}(h:a≠b):put (put M a o) b o'=put (put M b o') a o:=by
 funext c;unfold put
 by_cases d:c=b
 . rw[ah d,ae (by rw[d];exactλz=>h z.symm),ah d]
 . rw[ae d,ae d]
end
section
noncomputable def lay (ad:Nat->Addr):Nat->List RO->RM->RM
 |_,[],M=>M
 |k,o::r,M=>put (lay ad (k+1) r M) (ad k) o
def Ij(ad:Nat->Addr)(n:Nat):Prop:=∀i j,i<n->j<n->ad i=ad j->i=j
variable {ad:Nat->Addr}{M:RM}{os:List RO}{o:RO}{i k:Nat}{x:Addr}
theorem Lq:∀{os k i},Ij ad (k+os.length)->i<os.length->lay ad k os M (ad (k+i))=os[i]?
 |o::r,k,0,_,_=>bF
 |o::r,k,i+1,H,h=>by
  have h:i<r.length:=Nat.lt_of_succ_lt_succ h;have e1:k+(i+1)=k+1+i:=by omega
  have a:Ij ad (k+1+r.length):=by rw[cQ]at H;rwa [show k+1+r.length=k+(r.length+1) by omega]
  rw[e1];refine(put_ne λz=>?_).trans ((Lq a h).trans rfl)
  have:=a _ _ (by omega) (by omega) z
  omega
theorem Lp:∀{os k i},Ij ad (k+os.length)->i<os.length->put (lay ad k os M) (ad (k+i)) o=lay ad k (os.set i o) M
 |_::r,k,0,_,_=>iD
 |u::r,k,i+1,H,h=>by
  have h:i<r.length:=Nat.lt_of_succ_lt_succ h;have e1:k+(i+1)=k+1+i:=by omega
  have a:Ij ad (k+1+r.length):=by rw[cQ]at H;rwa [show k+1+r.length=k+(r.length+1) by omega]
  rw[e1];show put (put (lay ad (k+1) r M) (ad k) u) (ad (k+1+i)) o=put (lay ad (k+1) (r.set i o) M) (ad k) u;rw[yi λz=>by have:=a _ _ (by omega) (by omega) z;omega,Lp a h]
theorem MK:∀{os k},(∀i,i<os.length->ad (k+i)≠x)->lay ad k os M x=M x
 | [],_,_=>rfl
 |o::r,k,h=>(put_ne (cN (h 0 (Nat.succ_pos _)))).trans (MK λi hi=>by
  have:=h (i+1) (Nat.succ_lt_succ hi)
  rwa [show k+1+i=k+(i+1) by omega])
abbrev laid(ad:Nat->Addr)(os:List RO)(M:RM):RM:=lay ad 0 os M
theorem lg(H:Ij ad os.length)(h:i<os.length):lay ad 0 os M (ad i)=os[i]?:=by
 have:=Lq (M:=M) (k:=0) (i:=i) (by rwa [jf]) h
 rwa [jf]at this
theorem lp(H:Ij ad os.length)(h:i<os.length):put (lay ad 0 os M) (ad i) o=lay ad 0 (os.set i o) M:=by
 have:=Lp (M:=M) (o:=o) (k:=0) (i:=i) (by rwa [jf]) h
 rwa [jf]at this
theorem BF:∀{os k},(∀j,j<k+os.length->ad j=ad' j)->lay ad k os M=lay ad' k os M
 | [],_,_=>rfl
 |o::r,k,h=>by
  show put (lay ad (k+1) r M) (ad k) o=put (lay ad' (k+1) r M) (ad' k) o;rw[BF (os:=r) (k:=k+1) λj a=>h j (by rw[cQ];omega),h k (by rw[cQ];omega)]
theorem nS:∀{os k},lay ad k (os++ [o]) M=lay ad k os (put M (ad (k+os.length)) o)
 | [],_=>rfl
 |u::r,k=>by
  show put (lay ad (k+1) (r++ [o]) M) (ad k) u=put (lay ad (k+1) r (put M (ad (k+(r.length+1))) o)) (ad k) u;rw[nS,show k+1+r.length=k+(r.length+1) by omega]
theorem Bu:∀{os k},(∀i,i<os.length->ad (k+i)≠x)->put (lay ad k os M) x o=lay ad k os (put M x o)
 | [],_,_=>rfl
 |u::r,k,h=>by
  show put (put (lay ad (k+1) r M) (ad k) u) x o=put (lay ad (k+1) r (put M x o)) (ad k) u;rw[yi (a:=ad k) (h 0 (Nat.succ_pos _)),Bu λi hi=>by
   have:=h (i+1) (Nat.succ_lt_succ hi)
   rwa [show k+1+i=k+(i+1) by omega]]
theorem AX:∀{os k},lay ad k os M x=none->M x=none
 | [],_,h=>h
 |_::_,_,h=>AX (KZ h).1
theorem ML(H:Ij ad os.length)(h:i<os.length):∃u,lay ad 0 os M (ad i)=some u:=⟨os[i],by rw[lg H h];simp[h]⟩
theorem Pu(H:Ij ad k)(g:os.length=k)(hx:lay ad 0 os M x=none):∃a,(∀j,j<k->ad j=a j)/\a k=x/\Ij a (k+1)/\∀o,put (lay ad 0 os M) x o=lay a 0 (os++ [o]) M:=by
 subst g;have c:∀j,j<os.length->ad j≠x:=λj b z=>by
  obtain⟨u,e⟩:=ML (M:=M) H b;rw[z,hx]at e;cases e
 have d:∀j,j<os.length->ad j=(λj=>if j=os.length then x else ad j) j:=λj b=>by
  show _=if j=os.length then x else ad j
  rw[ae (by omega)]
 have f:(λj=>if j=os.length then x else ad j) os.length=x:=ah rfl
 refine⟨λj=>if j=os.length then x else ad j,d,f,λi j hi b z=>?_,λo=>?_⟩
 . dsimp only at z
   by_cases p:i=os.length<;>by_cases q:j=os.length
   . omega
   . rw[ah p,ae q]at z;exact aS z.symm (c j (by omega))
   . rw[ae p,ah q]at z;exact aS z (c i (by omega))
   . rw[ae p,ae q]at z;exact H i j (by omega) (by omega) z
 . rw[nS,jf,ah rfl,Bu λj b=>by rw[jf];exact c j b]
   exact BF λj b=>d j (by omega)
end
section
variable {κ κ' β:Type}[DecidableEq κ][DecidableEq κ']{g:κ->κ'}{v:β->RV}
noncomputable def enc (g:κ->κ')(v:β->RV)(l:List (κ×β)):List (κ'×RV):=l.map λx=>(g x.1,v x.2)
theorem nU(c:∀a b,g a=g b->a=b):∀{l:List (κ×β)},lk (enc g v l) (g k)=(lk l k).map v
 | []=>rfl
 |(j,x)::r=>by
  show lk ((g j,v x)::enc g v r) (g k)=_;rw[gk,gk]
  by_cases h:j=k
  . rw[ah h,ah (by rw[h])];rfl
  . rw[ae h,ae (λz=>h (c _ _ z))];exact nU c
theorem jU(hg:∀a b,g a=g b->a=b){l:List (κ×β)}:pt (enc g v l) (g k) (v y)=enc g v (pt l k y):=by
 have e1:((enc g v l).any λkv=>decide (kv.1=g k))=(l.any λkv=>decide (kv.1=k)):=by
  unfold enc;rw[List.any_map];congr 1;funext x;exact wH.mpr ⟨λz=>hg _ _ z,λz=>by show g x.1=g k;rw[z]⟩
 unfold pt;rw[e1];split
 . unfold enc
   rw[bR,bR];refine nv λx _=>?_
   show(if g x.1=g k then(g x.1,v y)else(g x.1,v x.2))=(g (if x.1=k then(x.1,y)else x).1,v (if x.1=k then(x.1,y)else x).2)
   by_cases h:x.1=k
   . rw[ah h,ah (by rw[h])]
   . rw[ae h,ae (λz=>h (hg _ _ z))]
 . unfold enc;rw[fV];rfl
theorem nW(c:∀a b,g a=g b->a=b){l:List (κ×β)}:dr (enc g v l) (g k)=enc g v (dr l k):=by
 unfold dr enc;rw[List.filter_map];congr 2;funext x;exact wH.mpr ⟨λz q=>z (by rw[<-q]),λz q=>z (c _ _ q)⟩
theorem L5{l:List (κ×β)}(h:lk l k=none):dr l k=l:=by
 unfold dr;refine wz.mpr λx hx=>?_
 unfold lk at h;rw[Option.map_eq_none_iff,wC]at h;have:=h x hx;simpa using this
theorem gP{l:List (κ×β)}:(enc g v l).length=l.length:=by simp[enc]
theorem Ma{l:List (κ×β)}:(pt l k y).length<=l.length+1:=by
 unfold pt;split<;>simp
theorem sh{l:List (κ×β)}(h:lk l k=none):pt l k y=l++ [(k,y)]:=by
 unfold pt;rw[ae];intro z;obtain⟨x,hx,e⟩:=List.any_eq_true.mp z;unfold lk at h;rw[Option.map_eq_none_iff,wC]at h;exact h x hx e
theorem iA(a b)(h:(Sum.inl a:Key)= .inl b):a=b:=Sum.inl.inj h
theorem i7(a b:TK)(h:id a=id b):a=b:=h
end
section
variable {e:Env}{n:Nat}{M:RM}{Q:ao}
structure aC where
 low:Int
 high:Int
 mark:Int
 taken:List (Int×Unit)
 qJ:List (Int×Int)
noncomputable def eT (l:List (Int×Unit)):bT:=enc Sum.inl (λ_=>.bl true) l
def eU(l:List (Int×Int)):bT:=enc Sum.inl RV.int l
structure sC(e:Env)(M:RM)(a ta un:Addr)(p:aC):Prop where
 o:M a=some (dP e (.int p.low) (.int p.high) (.int p.mark) (.ref ta) (.ref un))
 t:M ta=some (.dk (eT p.taken))
 u:M un=some (.dk (eU p.qJ))
def aC.has(p:aC)(i:Int):Bool:=decide (p.low<=i)&&decide (i<=p.high)
noncomputable def aC.free (p:aC)(i m:Int):Bool:=p.has i&& !(lk p.taken i).isSome&&(match lk p.qJ i with|none=>true|some u=>decide (u<=m))
theorem NF{l:List (Int×Unit)}{i:Int}:(lk (eT l) (.inl i)).isSome=(lk l i).isSome:=by
 unfold eT;rw[nU iA];simp
theorem BX{l:List (Int×Int)}{i:Int}:lk (eU l) (.inl i)=(lk l i).map RV.int:=nU iA
theorem NW{a:Addr}{l h i:Int}{mk b un:RV}(o:M a=some (dP e (.int l) (.int h) mk b un)):aw (P e) (n+1) 34 [.ref a,.int i] M Q=Q (.bl (decide (l<=i)&&decide (i<=h))) M:=by
 rw[us (i:=34) (d:=uz) rfl];simp only[uz];walk_at "ev";rw[o];walk_at "ev";rw[o];walk_at "ev";exact N7
theorem AU{a c un:Addr}{p:aC}{i m:Int}(h:sC e M a c un p):aw (P e) (n+2) 58 [.ref a,.int i,.int m] M Q=Q (.bl (p.free i m)) M:=by
 obtain⟨b,f,g⟩:=h;rw[us (i:=58) (d:=ur) rfl];simp only[ur];walk_at "evs";rw[NW b];walk_at "evs";rw[NF,BX];unfold aC.free aC.has;cases(decide (p.low<=i)&&decide (i<=p.high))<;>cases(lk p.taken i).isSome<;>cases lk p.qJ i<;>simp[wO,Bv,eC]<;>rfl
noncomputable def aC.line (p:aC):List Int:=(List.range (p.high+1-p.mark).toNat).map (λ(i:Nat)=>p.mark+(i:Int))++(List.range (p.mark-p.low).toNat).map λ(i:Nat)=>p.low+(i:Int)
structure aC.Ok(p:aC):Prop where
 lo:1<=p.low
 mlo:p.low<=p.mark
 mhi:p.mark<=p.high
 hi:p.high<=9999
 wide:p.high<=p.low+199
theorem yj{a:Int}:jS a k=((List.range k).map λ(i:Nat)=>a+(i:Int)).map RV.int:=by unfold jS;rw[bR];rfl
theorem Vk(p:aC)(a:p.Ok):p.line.length<=200:=by
 obtain⟨o1,b,c,d,f⟩:=a;unfold aC.line;simp;omega
theorem SS{a g un:Addr}{p:aC}(c:p.Ok)(h:sC e M a g un p)(f:Q (.ls (p.line.map RV.int)) M):aw (P e) (n+1) 19 [.ref a] M Q:=by
 have b:=Vk p c;obtain⟨j,k,l⟩:=h;obtain⟨o1,m,o,r,s⟩:=c;rw[us (i:=19) (d:=ui) rfl];simp only[ui];walk_at "evs";rw[yj,yj,<-fV];refine⟨by omega,by omega,by omega,by omega,?_,f⟩
 unfold aC.line at b;simp only[ba,fe]at b ⊢;exact bQ b (by decide)
noncomputable def aC.pick (p:aC)(b:Bool)(a m:Int):Option Int:=if(b&&p.free a m)=true then some a else p.line.find? λi=>p.free i m
def qq:Option Int->RV
 |some i=>.int i
 |none=>.aq
theorem Vx{a ta un:Addr}{p:aC}{pick:Str}(ok:p.Ok)(h:sC e M a ta un p)(hq:Q (qq (p.pick (pick== "keep") d m)) M):aw (P e) (n+3) 72 [.ref a,.str pick,.int d,.int m] M Q:=by
 obtain⟨ho,ht,hu⟩:=id h;have rest:∀(xs:List Int) (z:Option RV),Q (qq (xs.find? λi=>p.free i m)) M->jw (ja 4) (tr ((P e).Gn (n+2)) (.se (.aV (.me 58 (.v 0) (.ec (.v 4) (.ec (.v 3) .e0))) (.se (.re (.v 4)) .en) .en) .en)).S
  { nx:=(tr ((P e).Gn (n+2)) (.se (.re .n) .en)).S (rd Q),rt:=Q,bk:=(rd Q).bk,ct:=(rd Q).ct } cZ id (xs.map RV.int) [some (.ref a),some (.str pick),some (.int d),some (.int m),z] M:=by
  intro xs
  induction xs with
  |nil=>intro z hq;refine⟨fh,?_⟩;show Q .aq M;exact hq
  |cons x xs ih=>
   intro z hq;refine⟨fh,?_⟩;unfold ja;walk_at "evs";rw[AU h,qe];rw[jF]at hq;cases e1:p.free x m with
   |true=>rw[e1]at hq;rw[ah rfl];first|exact hq|exact And.intro fh hq
   |false=>rw[e1]at hq;rw[ae (by simp)];exact ih _ hq
 have tail:Q (qq (p.line.find? λi=>p.free i m)) M->aw (P e) (n+2) 19 [.ref a] M (kS λxs ok un M1=>jw (ja 4) (tr ((P e).Gn (n+2)) (.se (.aV (.me 58 (.v 0) (.ec (.v 4) (.ec (.v 3) .e0))) (.se (.re (.v 4)) .en) .en) .en)).S
  { nx:=(tr ((P e).Gn (n+2)) (.se (.re .n) .en)).S (rd Q),rt:=Q,bk:=(rd Q).bk,ct:=(rd Q).ct } ok un xs [some (.ref a),some (.str pick),some (.int d),some (.int m),none] M1):=λhq=>SS ok h (rest _ _ hq)
 rw[us (i:=72) (d:=uc) rfl];simp only[uc];walk_at "evs";unfold aC.pick at hq;cases e1:(pick== "keep")with
 |false=>
  rw[e1]at hq;simp only[Bool.false_and,jI,↓reduceIte]at hq ⊢;exact tail hq
 |true=>
  rw[e1]at hq;simp only[wJ,↓reduceIte]at hq ⊢;rw[AU h,qe];cases e2:p.free d m with
  |true=>rw[e2]at hq;rw[ah rfl];exact hq
  |false=>
   rw[e2]at hq;simp only[jI,↓reduceIte]at hq ⊢;rw[ho,RW];exact tail hq
theorem rK{a:Addr}(h:M a=some o):put M a o=M:=by
 funext b;unfold put;by_cases z:b=a
 . rw[ah z,z,h]
 . rw[ae z]
end
section
theorem BW[DecidableEq κ]{l:List (κ×β)}:lk (pt l k y) k=some y:=by
 induction l with
 |nil=>show lk [(k,y)] k=_;rw[gk,ah rfl]
 |cons x r ih=>
  obtain⟨j,z⟩:=x;unfold pt at ih ⊢;rw[kf]
  by_cases h:j=k
  . rw[ah (by simp[h])]
    show lk ((if(j,z).1=k then((j,z).1,y)else(j,z))::_) k=_
    rw[ah h,gk,ah h]
  . rw[show(decide ((j,z).1=k)||r.any λkv=>decide (kv.1=k))=r.any λkv=>decide (kv.1=k) by simp[h]]
    split
    . rename_i h2
      rw[ah h2]at ih;show lk ((if(j,z).1=k then((j,z).1,y)else(j,z))::_) k=_
      rw[ae h,gk,ae h];exact ih
    . rename_i h2
      rw[ae h2]at ih;show lk ((j,z)::(r++ [(k,y)])) k=_;rw[gk,ae h];exact ih
theorem yM[DecidableEq κ]:∀{l:List (κ×β)},(lk l k).isSome=decide (k∈l.map (·.1))
 | []=>by simp[lk]
 |(j,y)::l=>by
  rw[gk]
  by_cases h:j=k
  . rw[ah h];simp[h]
  . rw[ae h,yM (l:=l)]
    simp[cN h]
theorem BY[DecidableEq κ]:∀{l:List (κ×β)} {x:κ×β},(l.map (·.1)).Nodup->x∈l->lk l x.1=some x.2
 |(j,y)::l,x,nd,hx=>by
  rw[gk];rw[bU,iT]at nd;rcases fw.mp hx with rfl|hx
  . rw[ah rfl]
  . have a:j∉l.map (·.1):=nd.1
    rw[ae (λ(z:j=x.1)=>a (by rw[z];exact List.mem_map_of_mem (f:=(·.1)) hx)),BY nd.2 hx]
theorem gm{g:α->β}:∀{l:List α} {a b:α},(l.map g).Nodup->a∈l->b∈l->g a=g b->a=b
 |z::l,a,b,nd,c,d,h=>by
  rw[bU,iT]at nd;rcases fw.mp c with e|c<;>rcases fw.mp d with f|d
  . rw[e,f]
  . exact aS (aP.mpr ⟨b,d,by rw[<-h,e]⟩) nd.1
  . exact aS (aP.mpr ⟨a,c,by rw[h,f]⟩) nd.1
  . exact gm nd.2 c d h
theorem br[DecidableEq κ]{l:List (κ×β)}:lk l k=none↔k∉l.map (·.1):=by
 have:=yM (l:=l) (k:=k);cases e:lk l k with
 |none=>rw[e]at this;simpa using this.symm
 |some y=>rw[e]at this;simpa using this.symm
theorem iH[DecidableEq κ]:∀{l:List (κ×β)},lk l k=some y->(k,y)∈l
 |(j,z)::l,h=>by
  rw[gk]at h
  by_cases q:j=k
  . rw[ah q]at h;cases h;rw[q];exact .head _
  . rw[ae q]at h;exact .tail _ (iH h)
theorem BE[DecidableEq κ]:∀{l:List (κ×β)} {r:List (κ×β)},lk (l++r) k=match lk l k with|some y=>some y|none=>lk r k
 | [],r=>rfl
 |(j,y)::l,r=>by
  show lk ((j,y)::(l++r)) k=_;rw[gk,gk]
  by_cases h:j=k
  . rw[ah h,ah h]
  . rw[ae h,ae h];exact BE
theorem rJ{l:List α}{a:α}(h:l.Nodup)(b:a∉l):(l++ [a]).Nodup:=by
 rw[List.nodup_append];refine⟨h,by simp,λx hx y c=>?_⟩
 cases jc.mp c;exactλz=>b (z ▸ hx)
theorem yG{κ b c:Type}[DecidableEq κ]{a:Type}[DecidableEq a]{g:b->a}{h:b->c}{l:List b}{k:a}:dr (l.map λx=>(g x,h x)) k=(l.filter λx=>decide (g x≠k)).map λx=>(g x,h x):=by
 unfold dr;rw[List.filter_map];rfl
theorem yN[DecidableEq κ]{l:List (κ×β)}(h:k∈l.map (·.1)):(lk l k).isSome=true:=by
 cases q:lk l k with
 |none=>exact aS h (br.mp q)
 |some _=>rfl
theorem ve{g:α->β}{l:List α}{p:α->Bool}(h:(l.map g).Nodup):((l.filter p).map g).Nodup:=h.sublist (List.filter_sublist.map _)
theorem Jy{g:α->β}:∀{c:List β} {l:List α},c.Perm (l.map g)->∃l2:List α,l2.Perm l/\l2.map g=c
 | [],l,h=>by
  have:l= []:=by simpa using h.nil_eq
  exact⟨[],by rw[this],rfl⟩
 |b::c,l,h=>by
  obtain⟨a,e,rfl⟩:=aP.mp (h.mem_iff.mp (.head _));obtain⟨s,t,rfl⟩:=List.append_of_mem e;have d:c.Perm ((s++t).map g):=by
   refine List.Perm.cons_inv (a:=g a) (h.trans ?_);rw[fV,bU,fV];exact List.perm_middle
  obtain⟨l2,f,rfl⟩:=Jy d;exact⟨a::l2,(f.cons a).trans List.perm_middle.symm,rfl⟩
theorem sub_len:∀{l r:List Int},l.Nodup->(∀x∈l,x∈r)->l.length<=r.length
 | [],_,_,_=>jN _
 |x::l,r,nd,h=>by
  rw[iT]at nd;have d:=sub_len (l:=l) (r:=r.erase x) nd.2 λy c=>(List.mem_erase_of_ne (a:=y) (b:=x) (λ(z:y=x)=>nd.1 (z ▸ c))).mpr (h y (.tail _ c))
  have e:=List.length_erase_of_mem (h x (.head _));have f:=List.length_pos_of_mem (h x (.head _));rw[cQ];omega
theorem qyF{a:Int}{n:Nat}:((List.range n).map λ(j:Nat)=>a+(j:Int)).Nodup:=by
 rw[List.nodup_iff_pairwise_ne,List.pairwise_map];refine List.nodup_range.imp λh z=>h ?_
 omega
theorem MI[DecidableEq κ]:∀{l:List (κ×β)},lk l k=some y->k∈l.map (·.1):=λ{l} h=>by
 have:=yM (l:=l) (k:=k);rw[h]at this;simpa using this
theorem Vj[DecidableEq κ](h:j≠k):∀{l:List (κ×β)},lk (pt l k y) j=lk l j:=by
 intro l;unfold pt;split
 . rename_i a
   clear a
   induction l with
   |nil=>rfl
   |cons p l ih=>
    rw[bU,gk]
    by_cases z:p.1=k
    . rw[ah z]
      show(if p.1=j then _ else _)=_
      rw[ae (λq=>h (q.symm.trans z)),gk,ae (λq=>h (q.symm.trans z))]
      exact ih
    . rw[ae z,gk]
      split
      . rfl
      . exact ih
 . rw[BE]
   cases lk l j with
   |some y=>rfl
   |none=>show lk [(k,y)] j=none;rw[gk,ae (cN h)];rfl
end
section
structure bG where
 kind:Str
 house:Int
 door:Int
 place:Int
 far:Int
noncomputable def bG.k (i:bG):TK:=[some (.inr i.kind),some (.inl i.house),some (.inl i.door),some (.inl i.place),some (.inl i.far)]
noncomputable def bG.r (i:bG):RV:=.tup [.str i.kind,.int i.house,.int i.door,.int i.place,.int i.far]
noncomputable def oK (k:Str)(p f:Int):TK:=[some (.inr k),some (.inl p),some (.inl f)]
abbrev bo(i:bG):TK:=oK i.kind i.place i.far
noncomputable def bO (f:Fm)(i:bG):TK:=if f.lend= "door" then [some (.inr i.kind),some (.inl i.house),some (.inl i.door),none,none]else if f.lend= "place" then [some (.inr i.kind),some (.inl i.house),some (.inl i.door),some (.inl i.place),none]else i.k
theorem LK:∀k,gB (k.map oR)=some k
 | []=>rfl
 |x::r=>by
  have e1:n9 (oR x)=some x:=by cases x with|none=>rfl|some k=>cases k<;>rfl
  show(match n9 (oR x),gB (r.map oR)with|some k,some ks=>some (k::ks)|_,_=>none)=_
  rw[e1,LK r]
theorem AK(k):eZ (bu k)=some k:=LK k
variable {e:Env}{n:Nat}{M:RM}{Q:ao}{ad:Nat->Addr}{f:Fm}{i j:bG}{now mk ov u m:Int}{st sr:RV}{ds:LR}{os:List RO}{o:RO}{x:Addr}
theorem JT:aw (P e) (n+1) 31 [f.r,i.r] M Q=Q (bu (bO f i)) M:=by
 unfold Fm.r bG.r bO;rw[VV]
 by_cases a:f.lend= "door"
 . rw[ah a,ah a];rfl
 . rw[ae a,ae a]
   by_cases b:f.lend= "place"
   . rw[ah b,ah b];rfl
   . rw[ae b,ae b];rfl
def Of(ad:Nat->Addr)(n:Nat)(x:Addr):Prop:=∀j,j<n->ad j≠x
theorem lo(h:Of ad os.length x):lay ad 0 os M x=M x:=MK λi hi=>by rw[jf];exact h i hi
theorem lop(h:Of ad os.length x):put (lay ad 0 os M) x o=lay ad 0 os (put M x o):=Bu λi hi=>by rw[jf];exact h i hi
theorem of_none(H:Ij ad k)(c:os.length=k)(hx:lay ad 0 os M x=none):Of ad k x/\M x=none:=by
 subst c;refine⟨λj b z=>?_,AX hx⟩
 obtain⟨u,a⟩:=ML (M:=M) H b;rw[z,hx]at a;cases a
abbrev cG(e:Env)(ad:Nat->Addr)(f:Fm):RO:=bx e f.r (.ref (ad 1)) (.ref (ad 10)) (.ref (ad 9)) .aq
abbrev cA(e:Env)(ad:Nat->Addr)(f:Fm)(now:Int):RO:=bN e f.r (.ref (ad 2)) (.int now) (.ref (ad 5)) (.ref (ad 6)) (.ref (ad 7)) (.ref (ad 8))
noncomputable abbrev cP (e:Env) (ad:Nat->Addr) (f:Fm) (mk:Int):RO:=dP e (.int f.low) (.int f.high) (.int mk) (.ref (ad 3)) (.ref (ad 4))
structure Rl where
 m:Int
 house:Int
 door:Int
noncomputable def qD (R:Rl)(k:Str):RV:=.tup [.str k,.int R.m,.aq,.int R.house,.int R.door]
noncomputable abbrev zF (R:Rl):Nat->bT
 |0=>[]
 |1=>[(.inl 0,qD R "note")]
 |_=>[(.inl 0,qD R "note"),(.inl 1,qD R "line")]
abbrev cR(e:Env)(ad:Nat->Addr)(c:Nat):RO:=i4 e (.int c) (.ref (ad 11))
noncomputable def eA (l:List (TK×Addr)):List (TK×RV):=enc id RV.ref l
def eB(l:List (Int×Addr)):bT:=enc Sum.inl RV.ref l
def eH(l:List (Int×TK)):bT:=enc Sum.inl bu l
def eN(l:List (TK×Int)):List (TK×RV):=enc id RV.int l
theorem yQ{l:List (TK×Addr)}:lk (eA l) k=(lk l k).map RV.ref:=nU (g:=id) i7
theorem m6{l:List (Int×Addr)}{i:Int}:lk (eB l) (.inl i)=(lk l i).map RV.ref:=nU iA
theorem NG{l:List (TK×Int)}:lk (eN l) k=(lk l k).map RV.int:=nU (g:=id) i7
theorem NH{l:List (Int×TK)}{i:Int}:lk (eH l) (.inl i)=(lk l i).map bu:=nU iA
def wg:Option Addr->RV
 |some a=>.ref a
 |none=>.aq
theorem vw{a:Addr}:wg (some a)= .ref a:=rfl
theorem yK:wg none= .aq:=rfl
theorem Mf{a:Int}:qq (some a)= .int a:=rfl
theorem Yk:qq none= .aq:=rfl
structure Cn where
 c:Nat
 now:Int
 mr:Int
 T:List (Int×Unit)
 U:List (Int×Int)
 B:List (TK×Addr)
 N:List (Int×Addr)
 H:List (Int×TK)
 K:List (TK×Int)
 ds:LR
noncomputable abbrev LG (e:Env) (ad:Nat->Addr) (f:Fm) (R:Rl) (c:Cn) (M:RM):RM:=laid ad [cG e ad f,cA e ad f c.now,cP e ad f c.mr,.dk (eT c.T),.dk (eU c.U),.dt (eA c.B),.dk (eB c.N),.dk (eH c.H),.dt (eN c.K),.lst c.ds,cR e ad c.c,.dk (zF R c.c)] M
variable {R:Rl}{c:Cn}
theorem RH:eZ i.r=some i.k:=rfl
theorem DI:dR i.r (.int 0) M Q=Q (.str i.kind) M:=bI.trans (by rw[Ol];rfl)
theorem DJ:dR i.r (.int 1) M Q=Q (.int i.house) M:=bI.trans (by rw[Oj];rfl)
theorem DK:dR i.r (.int 2) M Q=Q (.int i.door) M:=bI.trans (by rw[PV];rfl)
theorem O6:dR f.r (.int 0) M Q=Q (.int f.low) M:=bI.trans (by rw[Ol];rfl)
theorem DG:dR f.r (.int 1) M Q=Q (.int f.high) M:=bI.trans (by rw[Oj];rfl)
theorem O7:dR f.r (.int 4) M Q=Q (.str f.pick) M:=bI.trans (by rw[PQ];rfl)
theorem O8:dR f.r (.int 5) M Q=Q (.int f.most) M:=bI.trans (by rw[PN];rfl)
theorem DH:dR f.r (.int 6) M Q=Q (.bl f.renew) M:=bI.trans (by rw[PM];rfl)
theorem O9:dR f.r (.int 7) M Q=Q f.times M:=bI.trans (by rw[PL];rfl)
theorem Rc:dR f.times (.int 3) M Q=Q (.int f.t3) M:=bI.trans (by rw[PU];rfl)
theorem JG(H:Ij ad 12):aw (P e) (n+1) 39 [.ref (ad 1),i.r] (LG e ad f R c M) Q=Q (wg (lk c.B i.k)) (LG e ad f R c M):=by
 rw[us (i:=39) (d:=ue) rfl];simp only[ue];walk_at "evl";rw[yW RH,yQ];cases lk c.B i.k<;>rfl
theorem SQ{k p q:RV}(H:Ij ad 12)(h:lk c.N m=none):aw (P e) (n+1) 76 [.ref (ad 1),k,.int m,p,q] (LG e ad f R c M) Q=Q .aq (LG e ad f R c M):=by
 have a:lk (eB c.N) (.inl m)=none:=by rw[m6,h];rfl
 rw[us (i:=76) (d:=pJ) rfl];simp only[pJ];walk_at "evl"
theorem SO{p q:Int}{b:Addr}(H:Ij ad 12)(h:lk c.N m=some b)(ob:Of ad 12 b)(g:M b=some (.dt (eA D))):aw (P e) (n+1) 76 [.ref (ad 1),.str k,.int m,.int p,.int q] (LG e ad f R c M) Q=Q (wg (lk D (oK k p q))) (LG e ad f R c M):=by
 have a:lk (eB c.N) (.inl m)=some (.ref b):=by rw[m6,h];rfl
 rw[us (i:=76) (d:=pJ) rfl];simp only[pJ];walk_at "evl";rw[yW (show _=some (oK k p q)from rfl),yQ];cases lk D (oK k p q)<;>rfl
theorem SR(H:Ij ad 12):aw (P e) (n+2) 40 [.ref (ad 1),i.r] (LG e ad f R c M) Q=Q (qq (lk c.K (bO f i))) (LG e ad f R c M):=by
 rw[us (i:=40) (d:=uw) rfl];simp only[uw];walk_at "evl";rw[JT];walk_at "evl";rw[yW (AK _),NG];cases lk c.K (bO f i)<;>rfl
end
section
variable {e:Env}{n:Nat}{M:RM}{Q:ao}{ad:Nat->Addr}{f:Fm}{i j:bG}{R:Rl}{c:Cn}{now mk ov u m mo:Int}{ds:LR}{st s1 wd:Str}{b x y:Addr}{D:List (TK×Addr)}
noncomputable def DN (h:Int):RV->Bool
 | .tup [_,.tup (_::.int j::_)]=>j==h
 |_=>false
noncomputable def DM:RV->RV
 | .tup [k,_]=>k
 |_=>.aq
theorem Xr(s:Ij ad 12)(w:∀x∈c.H,∃k j r,x.2=k::some (.inl j)::r)(z:c.H.length<1000)(A:∀l:LR,l.length<=c.H.length->Q (.ls l) (LG e ad f R c M)):
 aw (P e) (n+1) 41 [.ref (ad 1),.int h] (LG e ad f R c M) Q:=by
 have o:LG e ad f R c M (ad 7)=some (.dk (eH c.H)):=lg s (Nat.le_of_ble_eq_true rfl);rw[us (i:=41) (d:=uN) rfl];simp only[uN];walk_at "evl";unfold qz;simp only[o];refine⟨by unfold gA eH;rw[ba,gP];exact eG z (by decide),iB (DN h) DM bF _ _ (λx hx=>?_) ?_⟩
 . obtain⟨E,g,rfl⟩:=aP.mp hx
   obtain⟨y,C,rfl⟩:=aP.mp g;obtain⟨k,j,r,e1⟩:=w y C;have v:bu y.2= .tup (oR k::.int j::r.map oR):=by rw[e1];rfl
   show ∃t,fv true 2 (.tup [.int y.1,bu y.2])=some t/\_;rw[v];refine⟨_,rfl,λK a=>?_,λ_ K a=>?_⟩
   . walk_at "ev";exact a
   . walk_at "ev";exact a
 . show Q (.ls (([]++((gA (eH c.H)).filter (DN h)).map DM))) (put (put _ (ad 7) (.fk (eH c.H))) (ad 7) (.dk (eH c.H)))
   rw[iD,rK o,ka];refine A _ ?_;rw[ba];refine bQ (kc _ _) ?_;unfold gA eH;rw[ba,gP];exact aN _
def pS(f:Fm)(c:Cn):aC:=⟨f.low,f.high,c.mr,c.T,c.U⟩
theorem NS(H:Ij ad 12):sC e (LG e ad f R c M) (ad 2) (ad 3) (ad 4) (pS f c):=⟨lg H (Nat.le_of_ble_eq_true rfl),lg H (Nat.le_of_ble_eq_true rfl),lg H (Nat.le_of_ble_eq_true rfl)⟩
theorem Sr(H:Ij ad 12)(g:(pS f c).Ok)(a:Q (qq ((pS f c).pick (f.pick== "keep") m c.now)) (LG e ad f R c M)):aw (P e) (n+4) 47 [.ref (ad 0),.int m] (LG e ad f R c M) Q:=by
 rw[us (i:=47) (d:=ux) rfl];simp only[ux];walk_at "evl";rw[O7];exact Vx g (NS H) a
noncomputable def nm (f:Fm)(m:Int):Int:=if m=f.high then f.low else m+1
noncomputable def Cn.iu (c:Cn)(f:Fm)(i:bG)(m:Int):Cn:={ c with mr:=nm f m,T:=pt c.T m (),U:=dr c.U m,H:=pt c.H m (bO f i),K:=pt c.K (bO f i) m }
theorem XT(H:Ij ad 12)(l1:c.T.length<1000)(l2:c.H.length<1000)(l3:c.K.length<1000)(h:Q .aq (LG e ad f R (c.iu f i m) M)):
 aw (P e) (n+2) 60 [.ref (ad 1),.int m,i.r] (LG e ad f R c M) Q:=by
 have e1:dr (eU c.U) (Sum.inl m)=eU (dr c.U m):=nW iA;have w:pt (eT c.T) (Sum.inl m) (RV.bl true)=eT (pt c.T m ()):=jU (v:=λ_:Unit=>RV.bl true) iA (y:=())
 have a:pt (eH c.H) (Sum.inl m) (bu (bO f i))=eH (pt c.H m (bO f i)):=jU iA;have o:pt (eN c.K) (bO f i) (RV.int m)=eN (pt c.K (bO f i) m):=jU (g:=id) i7;have A:(eT c.T).length<sizeLine:=by unfold eT;rw[gP];exact eG l1 (by decide)
 have C:(eH c.H).length<sizeLine:=by unfold eH;rw[gP];exact eG l2 (by decide)
 have t:(eN c.K).length<sizeLine:=by unfold eN;rw[gP];exact eG l3 (by decide)
 rw[us (i:=60) (d:=uL) rfl];simp only[uL];unfold Ia;walk_at "evl";rw[JT];unfold HZ;walk_at "evl";rw[us (i:=35) (d:=uW) rfl];simp only[uW];walk_at "evl";rw[BX];unfold Cn.iu nm at h;have fin:∀l,l=dr c.U m->∀k,k=(if m=f.high then f.low else m+1)->(tr ((P e).Gn (n+1)) CN).S (rd Q) [some (.ref (ad 1)),some (.int m),some i.r,some (bu (bO f i))] (LG e ad f R { c with mr:=k,T:=pt c.T m (),U:=l } M):=λU' r k s=>by
  subst r;subst s;unfold CN;walk_at "evl";unfold HY;walk_at "evl";rw[qd (AK _),o];refine⟨t,?_⟩;rw[PK,lp H (Nat.le_of_ble_eq_true rfl)];exact h
 clear h a o;cases a:lk c.U m with
 |none=>
  rw[ae (by simp)]
  by_cases z:m=f.high
  . have q:=fin _ (L5 a).symm _ (ah z).symm
    rw[ah (by simpa using z)];clear z fin;walk_at "evl"
  . have q:=fin _ (L5 a).symm _ (ae z).symm
    rw[ae (by simpa using z)];clear z fin;walk_at "evl"
 |some v=>
  rw[ah (by simp)]
  refine⟨rfl,?_⟩
  by_cases z:m=f.high
  . have q:=fin _ rfl _ (ah z).symm
    rw[ah (by simpa using z)];clear z fin;walk_at "evl"
  . have q:=fin _ rfl _ (ae z).symm
    rw[ae (by simpa using z)];clear z fin;walk_at "evl"
theorem B0(tb:Tb e)(z:Ws st)(a:∀v:Int,Q (.int v) M):aw (P e) (n+1) 32 [f.r,.str st] M Q:=by
 unfold Fm.r Fm.times;exact XR tb z a
noncomputable def Cn.b0 (c:Cn)(i:bG)(m:Int)(x y:Addr):Cn:={ c with B:=pt c.B i.k x,N:=pt c.N m y }
noncomputable def Cn.b1 (c:Cn)(i:bG)(x:Addr):Cn:={ c with B:=pt c.B i.k x }
abbrev gF(e:Env)(i:bG)(m:Int)(st:Str)(ov:Int):RO:=fC e i.r (.int m) (.str st) (.int ov)
theorem VA(tb:Tb e)(z:Ws st)(k:Ij ad 12)(l1:c.B.length<1000)(l2:c.N.length<1000)(l:lk c.N m=none)
 (a:∀x y ov,M x=none->Of ad 12 x->M y=none->Of ad 12 y->x≠y->Q .aq (LG e ad f R (c.b0 i m x y) (put (put M x (gF e i m st ov)) y (.dt (eA [(bo i,x)]))))):
 aw (P e) (n+3) 73 [.ref (ad 1),i.r,.int m,.str st] (LG e ad f R c M) Q:=by
 have A:(eA c.B).length<sizeLine:=by unfold eA;rw[gP];exact eG l1 (by decide)
 have H:(eB c.N).length<sizeLine:=by unfold eB;rw[gP];exact eG l2 (by decide)
 have E:lk (eB c.N) (.inl m)=none:=by rw[m6,l];rfl
 rw[us (i:=73) (d:=pN) rfl];simp only[pN];rw[show i.r= .tup [.str i.kind,.int i.house,.int i.door,.int i.place,.int i.far]from rfl];unfold Cu;walk_at "evl"
 unfold Ct;walk_at "evl";refine B0 tb z λv=>?_
 rw[p7];intro x hx;obtain⟨o1,r⟩:=of_none k rfl hx;rw[us (i:=75) (d:=pH) rfl];simp only[pH];walk_at "evl";unfold Cs;walk_at "evl";have e1:pt (eA c.B) i.k (.ref x)=eA (pt c.B i.k x):=jU (g:=id) i7;rw[qd (show _=some i.k from rfl),e1]
 refine⟨A,?_⟩;unfold Cr;walk_at "evl";intro y o;obtain⟨w,s⟩:=of_none k rfl o;obtain⟨t,h⟩:=KZ s;have h:x≠y:=λz=>h z.symm
 have C:pt (eB c.N) (.inl m) (.ref y)=eB (pt c.N m y):=jU iA;have a:=a x y (c.now+v) r o1 t w h;have F:lk (eB (pt c.N m y)) (.inl m)=some (.ref y):=by rw[m6,BW];rfl
 walk_at "evl";unfold C5;walk_at "evl";rw[qd (show _=some (bo i)from rfl)]
 refine⟨by decide,?_⟩
 walk_at "evl";exact a
theorem Vz(tb:Tb e)(z:Ws st)(k:Ij ad 12)(l1:c.B.length<1000)(l2:D.length<1000)(o:lk c.N m=some b)(ob:Of ad 12 b)(r:M b=some (.dt (eA D)))
 (a:∀x ov,M x=none->Of ad 12 x->x≠b->Q .aq (LG e ad f R (c.b1 i x) (put (put M x (gF e i m st ov)) b (.dt (eA (pt D (bo i) x)))))):
 aw (P e) (n+3) 73 [.ref (ad 1),i.r,.int m,.str st] (LG e ad f R c M) Q:=by
 have t:(eA c.B).length<sizeLine:=by unfold eA;rw[gP];exact eG l1 (by decide)
 have w:(eA D).length<sizeLine:=by unfold eA;rw[gP];exact eG l2 (by decide)
 have A:lk (eB c.N) (.inl m)=some (.ref b):=by rw[m6,o];rfl
 rw[us (i:=73) (d:=pN) rfl];simp only[pN];rw[show i.r= .tup [.str i.kind,.int i.house,.int i.door,.int i.place,.int i.far]from rfl];unfold Cu;walk_at "evl"
 unfold Ct;walk_at "evl";refine B0 tb z λv=>?_
 rw[p7];intro x hx;obtain⟨o1,h⟩:=of_none k rfl hx;have s:b≠x:=Cc h r;rw[us (i:=75) (d:=pH) rfl];simp only[pH];walk_at "evl";unfold Cs;walk_at "evl";have e1:pt (eA c.B) i.k (.ref x)=eA (pt c.B i.k x):=jU (g:=id) i7;rw[qd (show _=some i.k from rfl),e1]
 refine⟨t,?_⟩;unfold Cr;walk_at "evl";have l:pt (eA D) (bo i) (.ref x)=eA (pt D (bo i) x):=jU (g:=id) i7;have a:=a x (c.now+v) h o1 (cN s);unfold C5;walk_at "evl";rw[qd (show _=some (bo i)from rfl),l]
 refine⟨w,?_⟩;walk_at "evl";exact a
theorem BC(tb:Tb e)(z:Ws s1)(g:Ij ad 12)(h:Of ad 12 x)(hx:M x=some (gF e i m st ov))(a:∀ov,Q .aq (LG e ad f R c (put M x (gF e i m s1 ov)))):
 aw (P e) (n+4) 61 [.ref (ad 1),.ref x,.str s1] (LG e ad f R c M) Q:=by
 have hs:(s1==("shut":Str))=false:=by rcases z with rfl|rfl|rfl|rfl|rfl|rfl<;>decide+kernel
 rw[us (i:=61) (d:=pG) rfl];simp only[pG];walk_at "evl";refine B0 tb z λv=>?_
 have a:=a (c.now+v);rw[p7];walk_at "evl"
end
section
variable {e:Env}{n:Nat}{M:RM}{Q:ao}{ad:Nat->Addr}{f:Fm}{i j:bG}{R:Rl}{c:Cn}{now mk ov u m mo:Int}{ds:LR}{st s1 wd:Str}{b x y:Addr}{D:List (TK×Addr)}{hk:TK}
theorem Bk{a:Addr}(h:M a=some (.dt kvs)):fy "len" [.ref a] M Q=Q (.int kvs.length) M:=by
 show(match M a with|some (.lst xs)=>Q (.int xs.length) M|some (.dk kvs)=>Q (.int kvs.length) M|some (.dt kvs)=>Q (.int kvs.length) M|_=>False)=_
 rw[h]
theorem Bg(r:Ij ad 12)(v:Of ad 12 x)(hx:M x=some (gF e i m st ov))(l:lk c.N m=some b)(ob:Of ad 12 b)(t:M b=some (.dt (eA D)))(l1:(lk c.B i.k).isSome=true)(l2:(lk D (bo i)).isSome=true)
 (o:(tr ((P e).Gn (n+2)) wk).S (rd Q) [some (.ref (ad 1)),some (.ref x),some (.int mo),some (.int m),some (.str i.kind),some (.int i.house),some (.int i.door),some (.int i.place),some (.int i.far)] (LG e ad f R { c with B:=dr c.B i.k } (put M b (.dt (eA (dr D (bo i))))))):
 aw (P e) (n+3) 63 [.ref (ad 1),.ref x,.int mo] (LG e ad f R c M) Q:=by
 have e1:dr (eA c.B) i.k=eA (dr c.B i.k):=nW (g:=id) i7;have a:dr (eA D) (bo i)=eA (dr D (bo i)):=nW (g:=id) i7;have s:lk (eB c.N) (.inl m)=some (.ref b):=by rw[m6,l];rfl
 have h:(lk (eA c.B) i.k).isSome=true:=by rw[yQ,qR];exact l1
 have k:(lk (eA D) (bo i)).isSome=true:=by rw[yQ,qR];exact l2
 replace hx:M x=some (fC e (.tup [.str i.kind,.int i.house,.int i.door,.int i.place,.int i.far]) (.int m) (.str st) (.int ov)):=hx
 rw[us (i:=63) (d:=uV) rfl];simp only[uV];unfold HG;walk_at "evl";unfold Iw;walk_at "evl";unfold Iv;walk_at "evl";rw[BR (show _=some i.k from rfl),e1]
 refine⟨h,?_⟩;unfold Iu;walk_at "evl";rw[BR (show _=some (bo i)from rfl),a]
 refine⟨k,?_⟩;rw[lop ob];exact o
theorem VS(d:Ij ad 12)(l:Of ad 12 x)(hx:M x=some (gF e i m st ov))(a:lk c.N m=some b)(ob:Of ad 12 b)(g:M b=some (.dt (eA D)))(l1:(lk c.B i.k).isSome=true)(l2:(lk D (bo i)).isSome=true)
 (h:0<(dr D (bo i)).length) (k:Q .aq (LG e ad f R { c with B:=dr c.B i.k } (put M b (.dt (eA (dr D (bo i))))))):aw (P e) (n+3) 63 [.ref (ad 1),.ref x,.int mo] (LG e ad f R c M) Q:=by
 have o:lk (eB c.N) (.inl m)=some (.ref b):=by rw[m6,a];rfl
 refine Bg d l hx a ob g l1 l2 ?_;unfold wk;walk_at "evl";rw[Bk (kvs:=eA (dr D (bo i))) (by walk_at "evl")];walk_at "ev"
 rw[ah (by unfold eA;rw[gP];exact fK (by omega))]
 exact k
theorem VR(g:Ij ad 12)(l:Of ad 12 x)(hx:M x=some (gF e i m st ov))(d:lk c.N m=some b)(ob:Of ad 12 b)(k:M b=some (.dt (eA D)))(l1:(lk c.B i.k).isSome=true)(l2:(lk D (bo i)).isSome=true)
 (a:dr D (bo i)= []) (h:lk c.H m=none) (s:Q .aq (LG e ad f R { c with B:=dr c.B i.k,N:=dr c.N m } (put M b (.dt (eA []))))):aw (P e) (n+3) 63 [.ref (ad 1),.ref x,.int mo] (LG e ad f R c M) Q:=by
 have r:lk (eB c.N) (.inl m)=some (.ref b):=by rw[m6,d];rfl
 have e1:dr (eB c.N) (.inl m)=eB (dr c.N m):=nW iA;have o:lk (eH c.H) (.inl m)=none:=by rw[NH,h];rfl
 refine Bg g l hx d ob k l1 l2 ?_;rw[a];unfold wk;walk_at "evl";rw[Bk (kvs:=[]) (by walk_at "evl";rfl)];walk_at "ev"
 unfold Cw;walk_at "evl";unfold Cv;walk_at "evl"
theorem VT(k:Ij ad 12)(v:Of ad 12 x)(hx:M x=some (gF e i m st ov))(h:lk c.N m=some b)(ob:Of ad 12 b)(s:M b=some (.dt (eA D)))(l1:(lk c.B i.k).isSome=true)(l2:(lk D (bo i)).isSome=true)
 (a:dr D (bo i)= []) (l:lk c.H m=some hk) (o:(lk c.K hk).isSome=true) (r:(lk c.T m).isSome=true) (t:c.U.length<1000)
 (L:Q .aq (LG e ad f R { c with B:=dr c.B i.k,N:=dr c.N m,K:=dr c.K hk,H:=dr c.H m,T:=dr c.T m,U:=pt c.U m (mo+f.t3) } (put M b (.dt (eA []))))):aw (P e) (n+3) 63 [.ref (ad 1),.ref x,.int mo] (LG e ad f R c M) Q:=by
 have z:lk (eB c.N) (.inl m)=some (.ref b):=by rw[m6,h];rfl
 have e1:dr (eB c.N) (.inl m)=eB (dr c.N m):=nW iA;have w:lk (eH c.H) (.inl m)=some (bu hk):=by rw[NH,l];rfl
 have A:dr (eN c.K) hk=eN (dr c.K hk):=nW (g:=id) i7;have C:dr (eH c.H) (.inl m)=eH (dr c.H m):=nW iA;have E:dr (eT c.T) (.inl m)=eT (dr c.T m):=nW iA;have F:pt (eU c.U) (.inl m) (RV.int (mo+f.t3))=eU (pt c.U m (mo+f.t3)):=jU iA;have I:(lk (eN c.K) hk).isSome=true:=by rw[NG,qR];exact o
 have J:(lk (eT c.T) (.inl m)).isSome=true:=by rw[NF];exact r
 have O:(eU c.U).length<sizeLine:=by unfold eU;rw[gP];exact eG t (by decide)
 refine Bg k v hx h ob s l1 l2 ?_;rw[a];unfold wk;walk_at "evl";rw[Bk (kvs:=[]) (by walk_at "evl";rfl)];walk_at "ev"
 unfold Cw;walk_at "evl";unfold Cv;walk_at "evl";rw[us (i:=62) (d:=uf) rfl];simp only[uf];walk_at "evl";rw[BR (AK _)];walk_at "evl";rw[O9,Rc,p7];rw[us (i:=59) (d:=uB) rfl];simp only[uB];walk_at "evl"
end
section
structure Tk where
 i:bG
 a:Addr
 m:Int
 st:Str
 ov:Int
def outs(a:List Tk)(m:Int):List (TK×Addr):=(a.filter λT=>decide (T.m=m)).map λT=>(bo T.i,T.a)
def j6(a:List Tk):List (TK×Addr):=a.map λT=>(T.i.k,T.a)
structure bG.Ok(i:bG):Prop where
 kind:Kd i.kind
 house:0<=i.house/\i.house<=99
 door:1<=i.door/\i.door<=9999
 place:1<=i.place/\i.place<=1000000
 far:1<=i.far/\i.far<=9999
def Sw(k s:Str):Prop:=k= "note"/\s= "note"∨k= "line"/\(s= "asked"∨s= "called"∨s= "up"∨s= "near"∨s= "far")
theorem Sw.ws{k s:Str}(h:Sw k s):Ws s:=h.elim (λh=>.inl h.2) λh=>.inr h.2
abbrev oA(e:Env)(T:Tk):RO:=gF e T.i T.m T.st T.ov
def Rl.Out(R:Rl)(f:Fm):Prop:=¬(f.low<=R.m/\R.m<=f.high)
structure Gd(e:Env)(ad:Nat->Addr)(f:Fm)(R:Rl)(k d:Nat)(c:Cn)(tl:List Tk)(M0 M:RM):Prop where
 ij:Ij ad 12
 cB:c.B=j6 tl
 cT:c.T=c.K.map λx=>(x.2,())
 cH:c.H=c.K.map λx=>(x.2,x.1)
 tk:∀T∈tl,M T.a=some (oA e T)/\Of ad 12 T.a
 nb:∀x∈c.N,M x.2=some (.dt (eA (outs tl x.1)))/\Of ad 12 x.2
 fr:∀a o,M0 a=some o->M a=some o/\Of ad 12 a/\(∀T∈tl,T.a≠a)/\∀x∈c.N,x.2≠a
 d1:(tl.map λT=>T.i.k).Nodup
 d2:(c.N.map (·.2)).Nodup
 d3:(c.K.map (·.2)).Nodup
 d4:(c.K.map (·.1)).Nodup
 d5:(c.N.map (·.1)).Nodup
 d6:(tl.map λT=>T.a).Nodup
 od:∀T∈tl,∀U∈tl,T.m=U.m->bo T.i=bo U.i->T=U
 tn:∀T∈tl,(T.m=R.m/\T.i.house=R.house/\T.i.door=R.door)∨lk c.K (bO f T.i)=some T.m
 tb:∀T∈tl,T.m∈c.N.map (·.1)
 hk:∀x∈c.K,(∃i:bG,x.1=bO f i)/\f.low<=x.2/\x.2<=f.high
 ws:∀T∈tl,Sw T.i.kind T.st/\T.i.Ok
 mr:f.low<=c.mr/\c.mr<=f.high
 s0:tl.length<=k
 s1:c.K.length<=k
 s2:c.N.length<=k
 s3:c.U.length+c.K.length<=k
 s4:c.ds.length<=d
variable {e:Env}{n:Nat}{M M0:RM}{Q:ao}{ad:Nat->Addr}{f:Fm}{i j:bG}{R:Rl}{k d:Nat}{c:Cn}{tl:List Tk}{now mk ov u m mo:Int}{v:RV}{st s1 wd:Str}{b x y:Addr}{D:List (TK×Addr)}{hk:TK}{T U:Tk}
theorem Gd.mono(G:Gd e ad f R k d c tl M0 M)(h:k<=k')(h':d<=d'):Gd e ad f R k' d' c tl M0 M:={ G with s0:=bQ G.s0 h,s1:=bQ G.s1 h,s2:=bQ G.s2 h,s3:=bQ G.s3 h,s4:=bQ G.s4 h' }
theorem Gd.book(G:Gd e ad f R k d c tl M0 M):Gd e ad f R k (d+1) { c with ds:=c.ds++ [v] } tl M0 M:={ G with s4:=by show(c.ds++ [v]).length<=d+1;rw[fe];exact Nat.succ_le_succ G.s4 }
theorem Gd.at_(G:Gd e ad f R k d c tl M0 M){t:Int}:Gd e ad f R k d { c with now:=t } tl M0 M:={ G with }
theorem UD{i j:bG}(h:bO f i=bO f j)(a:bo i=bo j):i=j:=by
 cases i;cases j;unfold bo oK at a;simp only[List.cons.injEq,j7,Sum.inr.injEq,Sum.inl.injEq,and_true]at a;obtain⟨rfl,rfl,rfl⟩:=a;unfold bO bG.k at h;split at h
 . simp only[List.cons.injEq,j7,Sum.inr.injEq,Sum.inl.injEq,and_true,true_and]at h;obtain⟨rfl,rfl⟩:=h;rfl
 . split at h<;>(simp only[List.cons.injEq,j7,Sum.inr.injEq,Sum.inl.injEq,and_true,true_and]at h;obtain⟨rfl,rfl⟩:=h;rfl)
theorem BZ{i j:bG}(h:i.k=j.k):i=j:=by
 cases i;cases j;unfold bG.k at h;simp only[List.cons.injEq,j7,Sum.inr.injEq,Sum.inl.injEq,and_true]at h;obtain⟨rfl,rfl,rfl,rfl,rfl⟩:=h;rfl
theorem Gd.jg(G:Gd e ad f R k d c tl M0 M)(h:lk c.B i.k=none):∀T∈tl,T.i≠i:=λT a z=>by
 rw[G.cB]at h;exact br.mp h (aP.mpr ⟨_,aP.mpr ⟨T,a,rfl⟩,by rw[z]⟩)
theorem Gd.oG(G:Gd e ad f R k d c tl M0 M)(h:lk c.B i.k=some x):∃T∈tl,T.i=i/\T.a=x:=by
 rw[G.cB]at h;obtain⟨T,g,e1⟩:=aP.mp (iH h);injection e1 with e1 a
 exact⟨T,g,BZ e1,a⟩
theorem Gd.nr(G:Gd e ad f R k d c tl M0 M)(ro:R.Out f)(h:lk c.K (bO f i)=some m):m≠R.m:=λz=>ro (by rw[<-z];exact(G.hk _ (iH h)).2)
theorem Gd.gL(G:Gd e ad f R k d c tl M0 M)(ro:R.Out f)(h:lk c.K (bO f i)=some m)(hB:∀T∈tl,T.i≠i):∀U∈tl,U.m=m->bo U.i≠bo i:=λU hU e1 e2=>by
 rcases G.tn U hU with⟨z,_⟩|z
 . exact G.nr ro h (e1.symm.trans z)
 . rw[e1]at z
   have:=gm G.d3 (iH z) (iH h) rfl;injection this with this
   exact hB U hU (UD this e2)
theorem Gd.iu(G:Gd e ad f R k d c tl M0 M)(h:lk c.K (bO f i)=none)(l:f.low<=m/\m<=f.high)(g:m∉c.K.map (·.2)):Gd e ad f R (k+1) d (c.iu f i m) tl M0 M:=by
 have a:pt c.K (bO f i) m=c.K++ [(bO f i,m)]:=sh h;have eH:pt c.H m (bO f i)=(c.K++ [(bO f i,m)]).map λx=>(x.2,x.1):=by
  rw[G.cH,sh (br.mpr λz=>g (by rwa [bR]at z)),fV];rfl
 have eT:pt c.T m ()=(c.K++ [(bO f i,m)]).map λx=>(x.2,()):=by
  rw[G.cT,sh (br.mpr λz=>g (by rwa [bR]at z)),fV];rfl
 have l1:(dr c.U m).length<=c.U.length:=kc _ _;have l3:=G.s3;have l4:=G.s1;refine { G with
  cT:=eT.trans (by show _=(pt c.K (bO f i) m).map _;rw[a])
  cH:=eH.trans (by show _=(pt c.K (bO f i) m).map _;rw[a])
  d3:=by show((pt c.K (bO f i) m).map _).Nodup;rw[a,fV];exact rJ G.d3 g
  d4:=by show((pt c.K (bO f i) m).map _).Nodup;rw[a,fV];exact rJ G.d4 (br.mp h)
  tn:=λT o=>(G.tn T o).imp_right λz=>by show lk (pt c.K (bO f i) m) _=_;rw[a,BE,z]
  hk:=λx hx=>by
   replace hx:x∈pt c.K (bO f i) m:=hx
   rw[a]at hx;rcases eS.mp hx with z|z
   . exact G.hk x z
   . cases jc.mp z;exact⟨⟨i,rfl⟩,l⟩
  mr:=by show f.low<=nm f m/\nm f m<=f.high;unfold nm;have:=l;split<;>omega
  s0:=qS G.s0
  s1:=by show(pt c.K (bO f i) m).length<=k+1;rw[a,fe];exact Nat.succ_le_succ l4
  s2:=qS G.s2
  s3:=by show(dr c.U m).length+(pt c.K (bO f i) m).length<=k+1;rw[a,fe];show _+(c.K.length+1)<=_;omega }
theorem A7:outs (tl++ [T]) m=outs tl m++if T.m=m then [(bo T.i,T.a)]else []:=by
 unfold outs;rw[List.filter_append,fV]
 by_cases z:T.m=m<;>simp[z]
theorem U7(h:∀U∈tl,U.m=m->bo U.i≠bo i):lk (outs tl m) (bo i)=none:=br.mpr λz=>by
 obtain⟨p,l,e1⟩:=aP.mp z;obtain⟨U,a,rfl⟩:=aP.mp l;obtain⟨a,g⟩:=eR.mp a;exact h U a (j9 g) e1
theorem Gd.qU(G:Gd e ad f R k d c tl M0 M)(a:T∈tl){p:Int×Addr}(g:p∈c.N):T.a≠p.2:=λz=>by
 have:=(G.tk T a).1;rw[z,(G.nb p g).1]at this;cases this
theorem Gd.add(G:Gd e ad f R k d c tl M0 M){c':Cn}(hB:∀U∈tl,U.i≠T.i)(ho:∀U∈tl,U.m=T.m->bo U.i≠bo T.i)(hm:(T.m=R.m/\T.i.house=R.house/\T.i.door=R.door)∨lk c.K (bO f T.i)=some T.m)(hw:Sw T.i.kind T.st/\T.i.Ok)
 (q1:c'.B=pt c.B T.i.k T.a) (q2:c'.T=c.T) (q3:c'.H=c.H) (q4:c'.K=c.K) (q5:c'.U=c.U) (q6:c'.ds=c.ds) (q7:c'.mr=c.mr)
 (hx:M T.a=none) (ox:Of ad 12 T.a) (M1:M' T.a=some (oA e T)) (M2:∀a,a≠T.a->(∀p∈c'.N,p.1=T.m->p.2≠a)->M' a=M a)
 (n1:∀p∈c'.N,p.1=T.m->M' p.2=some (.dt (eA (outs (tl++ [T]) p.1)))/\Of ad 12 p.2/\p.2≠T.a/\(p∈c.N∨M p.2=none)) (n2:∀p∈c'.N,p.1≠T.m->p∈c.N) (n3:(c'.N.map (·.1)).Nodup) (n4:(c'.N.map (·.2)).Nodup) (n5:∀p∈c.N,p.1∈c'.N.map (·.1)) (n6:T.m∈c'.N.map (·.1)) (n7:c'.N.length<=k) (h0:tl.length<k):
 Gd e ad f R k d c' (tl++ [T]) M0 M':=by
 have ne:∀U∈tl,U.a≠T.a:=λU hU z=>by have:=(G.tk U hU).1;rw[z,hx]at this;cases this
 have nn:∀U∈tl,∀p∈c'.N,p.1=T.m->p.2≠U.a:=λU hU p hp e1 z=>by
  rcases(n1 p hp e1).2.2.2 with h|h
  . exact G.qU hU h z.symm
  . have:=(G.tk U hU).1;rw[<-z,h]at this;cases this
 have eB:c'.B=j6 (tl++ [T]):=by
  rw[q1,G.cB,sh]
  . unfold j6;rw[fV];rfl
  . refine br.mpr λz=>?_
    obtain⟨p,hp,e1⟩:=aP.mp z;obtain⟨U,hU,rfl⟩:=aP.mp hp;exact hB U hU (BZ e1)
 have two:∀{p:Tk->Prop},(∀U∈tl,p U)->p T->∀U∈tl++ [T],p U:=λh1 h2 U hU=>by
  rcases eS.mp hU with z|z
  . exact h1 U z
  . cases jc.mp z;exact h2
 refine { ij:=G.ij,cB:=eB,cT:=by rw[q2,q4];exact G.cT,cH:=by rw[q3,q4];exact G.cH,tk:=two (λU hU=>?_) ⟨M1,ox⟩,nb:=λp hp=>?_,fr:=λa o h=>?_,d1:=?_,d2:=n4,d3:=by rw[q4];exact G.d3,d4:=by rw[q4];exact G.d4,d5:=n3,d6:=?_,od:=?_,tn:=by rw[q4];exact two G.tn hm,tb:=?_,hk:=by rw[q4];exact G.hk,ws:=two G.ws hw,mr:=by rw[q7];exact G.mr,s0:=?_,s1:=by rw[q4];exact G.s1,s2:=n7,s3:=by rw[q4,q5];exact G.s3,s4:=by rw[q6];exact G.s4 }
 . obtain⟨h1,h2⟩:=G.tk U hU
   exact⟨by rw[M2 _ (ne U hU) (nn U hU)];exact h1,h2⟩
 . by_cases z:p.1=T.m
   . exact⟨(n1 p hp z).1,(n1 p hp z).2.1⟩
   . have h:=n2 p hp z
     obtain⟨h1,h2⟩:=G.nb p h;refine⟨?_,h2⟩;rw[M2 _ (λq=>by rw[q,hx]at h1;cases h1) (λq hq e1 e2=>?_),h1,A7,ae (cN z),oE]
     rw[gm n4 hq hp e2]at e1;exact z e1
 . obtain⟨h1,h2,h3,h4⟩:=G.fr a o h
   have h5:T.a≠a:=λz=>by rw[<-z,hx]at h1;cases h1
   have h6:∀p∈c'.N,p.2≠a:=λp hp z=>by
    by_cases e1:p.1=T.m
    . rcases(n1 p hp e1).2.2.2 with q|q
      . exact h4 p q z
      . rw[z,h1]at q;cases q
    . exact h4 p (n2 p hp e1) z
   exact⟨by rw[M2 a (cN h5) λp hp _=>h6 p hp];exact h1,h2,two h3 h5,h6⟩
 . rw[fV]
   refine rJ G.d1 λz=>?_
   obtain⟨U,hU,e1⟩:=aP.mp z;exact hB U hU (BZ e1)
 . rw[fV]
   refine rJ G.d6 λz=>?_
   obtain⟨U,hU,e1⟩:=aP.mp z;exact ne U hU e1
 . refine two (λV hV=>two (λW hW=>G.od V hV W hW) λe1 e2=>?_) (two (λW hW e1 e2=>?_) λ_ _=>rfl)
   . exact aS e2 (ho V hV e1)
   . exact aS e2.symm (ho W hW e1.symm)
 . refine two (λU hU=>?_) n6
   obtain⟨p,hp,e1⟩:=aP.mp (G.tb U hU);rw[<-e1];exact n5 p hp
 . rw[fe];exact h0
end
section
variable {e:Env}{n:Nat}{M M0:RM}{Q:ao}{ad:Nat->Addr}{f:Fm}{i j:bG}{R:Rl}{k d:Nat}{c:Cn}{tl:List Tk}{now mk ov u m mo:Int}{v:RV}{st s1 wd:Str}{b x y:Addr}{D:List (TK×Addr)}{hk:TK}{T U:Tk}
theorem Gd.b0(G:Gd e ad f R k d c tl M0 M)(A:∀U∈tl,U.i≠i)(F:∀U∈tl,U.m=m->bo U.i≠bo i)(E:(m=R.m/\i.house=R.house/\i.door=R.door)∨lk c.K (bO f i)=some m)(H:Sw i.kind st/\i.Ok)
 (s:lk c.N m=none) (hx:M x=none) (I:Of ad 12 x) (t:M y=none) (J:Of ad 12 y) (o:x≠y) (h0:tl.length<k) (r:c.N.length<k):Gd e ad f R k d (c.b0 i m x y) (tl++ [⟨i,x,m,st,ov⟩]) M0 (put (put M x (gF e i m st ov)) y (.dt (eA [(bo i,x)]))):=by
 have eN:(c.b0 i m x y).N=c.N++ [(m,y)]:=sh s;have nm:m∉c.N.map (·.1):=br.mp s
 have e0:outs tl m= []:=by
  unfold outs;rw[List.filter_eq_nil_iff.mpr λU C h=>nm (by rw[<-j9 h];exact G.tb U C)];rfl
 have one:∀p∈(c.b0 i m x y).N,p.1=m->p=(m,y):=λp g z=>by
  rw[eN]at g;rcases eS.mp g with h|h
  . exact aS (aP.mpr ⟨p,h,z⟩) nm
  . exact jc.mp h
 refine G.add (T:=⟨i,x,m,st,ov⟩) A F E H rfl rfl rfl rfl rfl rfl rfl hx I ((put_ne o).trans bF) (λa w r=>?_) (λp g z=>?_) (λp g z=>?_) ?_ ?_ (λp g=>?_) ?_ ?_ h0
 . have:y≠a:=r (m,y) (by rw[eN];exact eS.mpr (.inr (.head _))) rfl
   rw[put_ne (cN this),put_ne w]
 . cases one p g z
   refine⟨?_,J,cN o,.inr t⟩;rw[bF,A7,e0];exact congrArg (λl=>some (RO.dt (eA l))) (by rw[ah rfl];rfl)
 . rw[eN]at g
   rcases eS.mp g with h|h
   . exact h
   . cases jc.mp h;exact aS rfl z
 . rw[eN,fV];exact rJ G.d5 nm
 . rw[eN,fV]
   refine rJ G.d2 λz=>?_
   obtain⟨p,g,e1⟩:=aP.mp z;have:=(G.nb p g).1;rw[show p.2=y from e1,t]at this;cases this
 . rw[eN,fV];exact eS.mpr (.inl (aP.mpr ⟨p,g,rfl⟩))
 . rw[eN,fV];exact eS.mpr (.inr (.head _))
 . rw[eN,fe];exact r
theorem Gd.b1(G:Gd e ad f R k d c tl M0 M)(t:∀U∈tl,U.i≠i)(h:∀U∈tl,U.m=m->bo U.i≠bo i)(A:(m=R.m/\i.house=R.house/\i.door=R.door)∨lk c.K (bO f i)=some m)(C:Sw i.kind st/\i.Ok)
 (w:lk c.N m=some b) (hx:M x=none) (E:Of ad 12 x) (h0:tl.length<k):Gd e ad f R k d (c.b1 i x) (tl++ [⟨i,x,m,st,ov⟩]) M0 (put (put M x (gF e i m st ov)) b (.dt (eA (pt (outs tl m) (bo i) x)))):=by
 have g:=iH w;obtain⟨b1,b2⟩:=G.nb _ g;have o:x≠b:=λz=>by rw[z]at hx;rw[hx]at b1;cases b1
 have one:∀p∈c.N,p.1=m->p=(m,b):=λp a z=>gm G.d5 a g z
 refine G.add (T:=⟨i,x,m,st,ov⟩) t h A C rfl rfl rfl rfl rfl rfl rfl hx E ((put_ne o).trans bF) (λa r s=>?_) (λp a z=>?_) (λp a z=>a) G.d5 G.d2 (λp a=>aP.mpr ⟨p,a,rfl⟩) (aP.mpr ⟨_,g,rfl⟩) G.s2 h0
 . rw[put_ne (cN (s (m,b) g rfl)),put_ne r]
 . cases one p a z
   refine⟨?_,b2,cN o,.inl a⟩;rw[bF,A7,sh (U7 h)];exact congrArg (λl=>some (RO.dt (eA l))) (by rw[ah rfl])
noncomputable def fF (x:Addr)(s:Str)(o:Int)(U:Tk):Tk:=if U.a=x then { U with st:=s,ov:=o }else U
theorem cY:(fF x st o U).i=U.i:=by unfold fF;split<;>rfl
theorem vN:(fF x st o U).a=U.a:=by unfold fF;split<;>rfl
theorem eL:(fF x st o U).m=U.m:=by unfold fF;split<;>rfl
theorem La:∀{tl:List Tk},outs (tl.map (fF x st o)) m=outs tl m
 | []=>rfl
 |U::tl=>by
  have a:outs (tl.map (fF x st o)) m=outs tl m:=La;unfold outs at a ⊢;rw[bU,je,je,eL];split
  . rw[bU,bU,cY,vN,a]
  . exact a
theorem Gd.lead(G:Gd e ad f R k d c tl M0 M)(w:T∈tl)(hs:Sw T.i.kind st):Gd e ad f R k d c (tl.map (fF T.a st ov)) M0 (put M T.a (gF e T.i T.m st ov)):=by
 have l:∀{p:Tk->Prop},(∀U∈tl,p (fF T.a st ov U))->∀U∈tl.map (fF T.a st ov),p U:=λh U r=>by
  obtain⟨V,A,rfl⟩:=aP.mp r;exact h V A
 refine { G with cB:=?_,tk:=l λU r=>?_,nb:=λp E=>?_,fr:=λa o h=>?_,d1:=?_,d6:=?_,od:=l λU r=>l λV A s t=>?_,tn:=l λU r=>by rw[cY,eL];exact G.tn U r,tb:=l λU r=>by rw[eL];exact G.tb U r,ws:=l λU r=>?_,s0:=by rw[ba];exact G.s0 }
 . rw[G.cB];unfold j6;rw[bR];exact nv λU _=>by show _=((fF T.a st ov U).i.k,(fF T.a st ov U).a);rw[cY,vN]
 . rw[vN]
   obtain⟨s,t⟩:=G.tk U r;refine⟨?_,t⟩
   by_cases z:U.a=T.a
   . cases gm G.d6 r w z
     rw[bF];unfold fF;rw[ah rfl]
   . rw[put_ne z,s];unfold fF;rw[ae z]
 . obtain⟨s,t⟩:=G.nb p E
   rw[La];exact⟨(put_ne (cN (G.qU w E))).trans s,t⟩
 . obtain⟨s,t,C,F⟩:=G.fr a o h
   exact⟨(put_ne (cN (C T w))).trans s,t,l λU r=>by rw[vN];exact C U r,F⟩
 . rw[bR,nv (g:=λU:Tk=>U.i.k) λU _=>by show(fF T.a st ov U).i.k=_;rw[cY]];exact G.d1
 . rw[bR,nv (g:=λU:Tk=>U.a) λU _=>by show(fF T.a st ov U).a=_;rw[vN]];exact G.d6
 . rw[eL,eL]at s
   rw[cY,cY]at t;rw[G.od U r V A s t]
 . rw[cY]
   obtain⟨s,t⟩:=G.ws U r;refine⟨?_,t⟩;unfold fF;split
   . rename_i z;rw[gm G.d6 r w z];exact hs
   . exact s
def gn(tl:List Tk)(T:Tk):List Tk:=tl.filter λU=>decide (U.a≠T.a)
theorem Gd.pv(G:Gd e ad f R k d c tl M0 M)(a:T∈tl):dr c.B T.i.k=j6 (gn tl T):=by
 rw[G.cB];unfold j6 gn;rw[yG (κ:=Int)];congr 1;exact wD λU g=>wH.mpr ⟨λz q=>z (by rw[gm G.d6 g a q]),λz q=>z (by rw[gm G.d1 g a q])⟩
theorem Gd.pA(G:Gd e ad f R k d c tl M0 M)(a:T∈tl):dr (outs tl T.m) (bo T.i)=outs (gn tl T) T.m:=by
 unfold outs gn;rw[yG (κ:=Int),List.filter_filter,List.filter_filter];congr 1;refine wD λU g=>?_
 by_cases z:U.m=T.m
 . simp only[z,decide_true,Bool.and_true,wJ]
   exact wH.mpr ⟨λy q=>y (by rw[gm G.d6 g a q]),λy q=>y (by rw[G.od U g T a z q])⟩
 . simp[z]
theorem Gd.pz(G:Gd e ad f R k d c tl M0 M)(a:T∈tl)(h:m≠T.m):outs (gn tl T) m=outs tl m:=by
 unfold outs gn;rw[List.filter_filter];congr 1;refine wD λU g=>?_
 by_cases z:U.m=m
 . have:U.a≠T.a:=λq=>h (by rw[<-z,gm G.d6 g a q])
   simp[z,this]
 . simp[z]
theorem Gd.less(G:Gd e ad f R k d c tl M0 M){c':Cn}(W:T∈tl)(Y:lk c.N T.m=some b)(q1:c'.B=dr c.B T.i.k)(q2:c'.T=c'.K.map λx=>(x.2,()))(q3:c'.H=c'.K.map λx=>(x.2,x.1))(q4:c'.mr=c.mr)(q5:c'.ds=c.ds)
 (L:c'.N=c.N∨c'.N=dr c.N T.m/\outs (gn tl T) T.m= []) (J:c'.K=c.K∨c'.K=(c.K.filter λx=>decide (x.2≠T.m))/\outs (gn tl T) T.m= []) (u1:c'.U.length+c'.K.length<=k):
 Gd e ad f R k d c' (gn tl T) M0 (put M b (.dt (eA (outs (gn tl T) T.m)))):=by
 have I:=iH Y;have sub:∀U∈gn tl T,U∈tl:=λU l=>(eR.mp l).1
 have s:∀p∈c'.N,p∈c.N:=λp r=>by
  rcases L with z|⟨z,_⟩
  . rwa [z]at r
  . rw[z]at r;exact(eR.mp r).1
 have F:∀p∈c'.K,p∈c.K:=λp r=>by
  rcases J with z|⟨z,_⟩
  . rwa [z]at r
  . rw[z]at r;exact(eR.mp r).1
 have w:outs (gn tl T) T.m= []->∀U∈gn tl T,U.m≠T.m:=λh U l z=>by
  have:(bo U.i,U.a)∈outs (gn tl T) T.m:=aP.mpr ⟨U,eR.mpr ⟨l,fK z⟩,rfl⟩;rw[h]at this;cases this
 have lN:c'.N.length<=c.N.length:=by
  rcases L with z|⟨z,_⟩
  . rw[z];exact aN _
  . rw[z];exact kc _ _
 have lK:c'.K.length<=c.K.length:=by
  rcases J with z|⟨z,_⟩
  . rw[z];exact aN _
  . rw[z];exact kc _ _
 have E:∀{H:Type} {g:Int×Addr->H},(c.N.map g).Nodup->(c'.N.map g).Nodup:=λ{H g} h=>by
  rcases L with z|⟨z,_⟩
  . rw[z];exact h
  . rw[z];exact ve h
 have t:∀{H:Type} {g:TK×Int->H},(c.K.map g).Nodup->(c'.K.map g).Nodup:=λ{H g} h=>by
  rcases J with z|⟨z,_⟩
  . rw[z];exact h
  . rw[z];exact ve h
 refine { ij:=G.ij,cB:=by rw[q1];exact G.pv W,cT:=q2,cH:=q3,tk:=λU l=>?_,nb:=λp r=>?_,fr:=λa o h=>?_,d1:=ve G.d1,d2:=E G.d2,d3:=t G.d3,d4:=t G.d4,d5:=E G.d5,d6:=ve G.d6,od:=λU l V Z=>G.od U (sub U l) V (sub V Z),tn:=λU l=>?_,tb:=λU l=>?_,hk:=λx hx=>G.hk x (F x hx),ws:=λU l=>G.ws U (sub U l),mr:=by rw[q4];exact G.mr,s0:=bQ (kc _ _) G.s0,s1:=bQ lK G.s1,s2:=bQ lN G.s2,s3:=u1,s4:=by rw[q5];exact G.s4 }
 . obtain⟨A,C⟩:=G.tk U (sub U l)
   exact⟨(put_ne (G.qU (sub U l) I)).trans A,C⟩
 . obtain⟨A,C⟩:=G.nb p (s p r)
   refine⟨?_,C⟩
   by_cases z:p.1=T.m
   . cases gm G.d5 (s p r) I z
     exact bF
   . rw[put_ne (λq=>z (by rw[gm G.d2 (s p r) I q])),A,G.pz W z]
 . obtain⟨A,C,X,O⟩:=G.fr a o h
   exact⟨(put_ne (cN (O _ I))).trans A,C,λU l=>X U (sub U l),λp r=>O p (s p r)⟩
 . refine(G.tn U (sub U l)).imp_right λz=>?_
   rcases J with q|⟨q,h⟩
   . rw[q];exact z
   . have N:=w h U l
     have:(bO f U.i,U.m)∈c'.K:=by rw[q];exact eR.mpr ⟨iH z,fK N⟩
     exact BY (t G.d4) this
 . rcases L with q|⟨q,h⟩
   . rw[q];exact G.tb U (sub U l)
   . obtain⟨p,r,e1⟩:=aP.mp (G.tb U (sub U l))
     rw[q];exact aP.mpr ⟨p,eR.mpr ⟨r,fK (by rw[e1];exact w h U l)⟩,e1⟩
theorem Gd.end_(G:Gd e ad f R k d c tl M0 M)(hk:k<1000)(a:T∈tl)(s:∀l C,Gd e ad f R k d l (gn tl T) M0 C->l.now=c.now->l.ds=c.ds->l.c=c.c->Q .aq (LG e ad f R l C)):
 aw (P e) (n+3) 63 [.ref (ad 1),.ref T.a,.int mo] (LG e ad f R c M) Q:=by
 obtain⟨w,A⟩:=G.tk T a;obtain⟨p,E,e1⟩:=aP.mp (G.tb T a);obtain⟨L,b⟩:=p;cases e1;have g:lk c.N T.m=some b:=BY G.d5 E;obtain⟨b1,b2⟩:=G.nb _ E;have l1:(lk c.B T.i.k).isSome=true:=by rw[G.cB];exact yN (aP.mpr ⟨_,aP.mpr ⟨T,a,rfl⟩,rfl⟩)
 have l2:(lk (outs tl T.m) (bo T.i)).isSome=true:=yN (aP.mpr ⟨_,aP.mpr ⟨T,eR.mpr ⟨a,fK rfl⟩,rfl⟩,rfl⟩);have lo:=G.pA a;have s3:=G.s3
 by_cases z:outs (gn tl T) T.m= []
 . have F:=lo.trans z
   cases hH:lk c.H T.m with
   |none=>
    refine VR G.ij A w g b2 b1 l1 l2 F hH ?_;rw[<-z];exact s _ _ (G.less a g rfl G.cT G.cH rfl rfl (.inr ⟨rfl,z⟩) (.inl rfl) s3) rfl rfl rfl
   |some h=>
    have o:(h,T.m)∈c.K:=by
     have:=iH hH;rw[G.cH]at this;obtain⟨x,hx,e1⟩:=aP.mp this;injection e1 with e1 H
     rw[<-e1,<-H];exact hx
    have t:∀x∈c.K,(x.1≠h↔x.2≠T.m):=λx hx=>⟨λz q=>z (by rw[gm G.d3 hx o q]),λz q=>z (by rw[gm G.d4 hx o q])⟩
    have r:dr c.K h=c.K.filter λx=>decide (x.2≠T.m):=wD λx hx=>wH.mpr (t x hx)
    refine VT G.ij A w g b2 b1 l1 l2 F hH (yN (aP.mpr ⟨_,o,rfl⟩)) (by rw[G.cT];exact yN (aP.mpr ⟨_,aP.mpr ⟨_,o,rfl⟩,rfl⟩)) (by omega) ?_
    rw[<-z];refine s _ _ (G.less a g rfl ?_ ?_ rfl rfl (.inr ⟨rfl,z⟩) (.inr ⟨r,z⟩) ?_) rfl rfl rfl
    . show dr c.T T.m=(dr c.K h).map _
      rw[G.cT,r];exact yG (κ:=Int)
    . show dr c.H T.m=(dr c.K h).map _
      rw[G.cH,r];exact yG (κ:=Int)
    . show(pt c.U T.m _).length+(dr c.K h).length<=k
      have I:(pt c.U T.m (mo+f.t3)).length<=c.U.length+1:=Ma;have J:(dr c.K h).length<c.K.length:=by
       unfold dr;exact List.length_filter_lt_length_iff_exists.mpr ⟨_,o,by simp⟩
      omega
 . refine VS G.ij A w g b2 b1 l1 l2 ?_ ?_
   . rw[lo];exact List.length_pos_iff.mpr z
   . rw[lo]
     exact s _ _ (G.less a g rfl G.cT G.cH rfl rfl (.inl rfl) (.inl rfl) s3) rfl rfl rfl
end
section
variable {e:Env}{n:Nat}{M M0:RM}{Q:ao}{ad:Nat->Addr}{f:Fm}{i j:bG}{R:Rl}{k d:Nat}{c:Cn}{tl:List Tk}{t ov u m mo:Int}{v:RV}{st s1 wd:Str}{b x y:Addr}{T U:Tk}
noncomputable def cD (e:Env):RO:=.tb e.lP (P e).S.lp (P e).S.lq
theorem Xk{fr rp rbi rbn rho rnu:RV}{t:Addr}{nw k:Int}{tv:au}{σ:bw}{N:RM->Prop}(ht:M t=some (bN e fr rp (.int nw) rbi rbn rho rnu))(hv:∀K:ao,K (.int k) M->tv σ M K)(hN:N (put M t (bN e fr rp (.int (nw+k)) rbi rbn rho rnu))):ph (e.C 3) "now" tv σ N (.ref t) M:=by
 unfold ph;simp only[ht];refine⟨rfl,?_⟩;show tv σ M _;refine hv _ ?_;show(match M t with|some (.ins C2 fs2)=>_|_=>False)
 rw[ht];exact⟨rfl,by show(7:Nat)<1000;decide,hN⟩
theorem VU{fr rp now rbn rho rnu:RV}{t bi:Addr}{l:List (TK×Addr)}(ht:M t=some (bN e fr rp now (.ref bi) rbn rho rnu))(hb:M bi=some (.dt (eA l))):aw (P e) (n+1) 20 [.ref t] M Q=Q (.ls (l.map λx=>.ref x.2)) M:=by
 have e1:(eA l).map (·.2)=l.map λx=>RV.ref x.2:=by unfold eA enc;rw[bR];rfl
 rw[us (i:=20) (d:=pK) rfl];simp only[pK];walk_at "evs"
noncomputable def xu (M:RM)(now:Int):RV->Bool
 | .ref a=>match M a with
  |some (.ins _ fs)=>match fs.lookup ("over":Str)with
   |some (.int o)=>decide (o<=now)
   |_=>false
  |_=>false
 |_=>false
structure Kp(c c':Cn):Prop where
 ds:c'.ds=c.ds
 c:c'.c=c.c
theorem Kp.trans{c1 c2:Cn}(h:Kp c c1)(h':Kp c1 c2):Kp c c2:=⟨h'.ds.trans h.ds,h'.c.trans h.c⟩
theorem Mr(hk:k<1000){D:RD}{z1 z2:Option RV}:∀(l:List Tk) {c:Cn} {tl:List Tk} {M:RM} {z3:Option RV},Gd e ad f R k d c tl M0 M->(∀T∈l,T∈tl)->(l.map (·.a)).Nodup->(∀c' tl' M' z,Gd e ad f R k d c' tl' M0 M'->(∀T∈tl',T∈tl)->Kp c c'->D.nx [some (.ref (ad 1)),z1,z2,z] (LG e ad f R c' M'))->
 jw (ja 3) (tr ((P e).Gn (n+3)) (.se (.ex (.me 63 (.v 0) (.ec (.v 3) (.ec (.fl 2 "over" (.v 3)) .e0)))) .en)).S D cZ id (l.map λT=>RV.ref T.a) [some (.ref (ad 1)),z1,z2,z3] (LG e ad f R c M)
 | [],c,tl,M,z3,G,_,_,hq=>⟨fh,hq _ _ _ _ G (λ_ h=>h) ⟨rfl,rfl⟩⟩
 |T::l,c,tl,M,z3,G,hT,nd,hq=>by
  obtain⟨t1,t2⟩:=G.tk T (hT T (.head _));have Hj:=G.ij;rw[bU,iT]at nd;refine⟨fh,?_⟩;unfold ja;walk_at "evl";refine G.end_ hk (hT T (.head _)) λc' M' G' _ h1 h2=>?_
  refine Mr hk l G' (λU hU=>?_) nd.2 λc2 tl2 M2 z G2 s2 k2=>hq c2 tl2 M2 z G2 (λU hU=>(eR.mp (s2 U hU)).1) (Kp.trans ⟨h1,h2⟩ k2)
  refine eR.mpr ⟨hT U (.tail _ hU),fK λz=>nd.1 ?_⟩
  rw[<-z];exact List.mem_map_of_mem (f:=(·.a)) hU
theorem TR(G:Gd e ad f R k d c tl M0 M)(hk:k<64)(htb:M0 e.lP=some (cD e))(hq:∀c' tl' M',Gd e ad f R k d c' tl' M0 M'->(∀T∈tl',T∈tl)->Kp c c'->Q .aq (LG e ad f R c' M')):
 aw (P e) (n+4) 42 [.ref (ad 1),.int t] (LG e ad f R c M) Q:=by
 have Hj:=G.ij;have G1:=G.at_ (t:=c.now+t);obtain⟨p1,p2,p3,p4⟩:=G.fr _ _ htb;rw[us (i:=42) (d:=aG) rfl];simp only[aG];walk_at "ev";rw[Fc];walk_at "ev";refine Xk (lg Hj (Nat.le_of_ble_eq_true rfl)) (λK hK=>by walk_at "ev";exact hK) ?_
 rw[lp Hj (Nat.le_of_ble_eq_true rfl)];have ht1:LG e ad f R { c with now:=c.now+t } M (ad 1)=some (cA e ad f (c.now+t)):=lg Hj (Nat.le_of_ble_eq_true rfl)
 have hb1:LG e ad f R { c with now:=c.now+t } M (ad 5)=some (.dt (eA c.B)):=lg Hj (Nat.le_of_ble_eq_true rfl)
 have htb1:LG e ad f R { c with now:=c.now+t } M e.lP=some (cD e):=(lo p2).trans p1
 have hat:∀T∈tl,LG e ad f R { c with now:=c.now+t } M T.a=some (oA e T):=λT hT=>(lo (G.tk T hT).2).trans (G.tk T hT).1
 show(tr ((P e).Gn (n+3)) _).S _ _ (LG e ad f R { c with now:=c.now+t } M)
 generalize hL:LG e ad f R { c with now:=c.now+t } M=L at ht1 hb1 htb1 hat ⊢
 walk_at "ev";rw[ht1];walk_at "ev";rw[VU ht1 hb1,Ng];have exs:(c.B.map λx=>RV.ref x.2)=tl.map λT=>RV.ref T.a:=by rw[G.cB];unfold j6;rw[bR];rfl
 rw[exs];have hov:∀T∈tl,xu L (c.now+t) (.ref T.a)=decide (T.ov<=c.now+t):=λT hT=>by
  unfold xu;simp only[hat T hT];rfl
 have h64:tl.length<64:=gG G.s0 hk;refine⟨by rw[ba];exact eG h64 (by decide),iB (bd:=fv false 1) (xu L (c.now+t)) id fh _ _ (λx hx=>?_) ?_⟩
 . obtain⟨T,hT,rfl⟩:=aP.mp hx
   have h:=hat T hT;refine⟨[.ref T.a],rfl,λK hK=>?_,λ_ K hK=>?_⟩
   . rw[hov T hT]at hK
     show(tr ((P e).Gn (n+3)) _).T [some (.ref T.a),some (.ref (ad 1))] _ K;walk_at "ev";rw[h];walk_at "ev";rw[ht1];walk_at "ev";exact hK
   . show(tr ((P e).Gn (n+3)) _).E [some (.ref T.a),some (.ref (ad 1))] _ K
     walk_at "ev";exact hK
 . rw[sA,ka,List.map_id]
   have ef:(tl.map λT=>RV.ref T.a).filter (xu L (c.now+t))=(tl.filter λT=>decide (T.ov<=c.now+t)).map λT=>RV.ref T.a:=by
    rw[List.filter_map];congr 1;exact wD λT hT=>hov T hT
   have sub:∀T∈tl.filter λT=>decide (T.ov<=c.now+t),T∈tl:=λT h=>(eR.mp h).1
   rw[ef];refine⟨(tl.filter λT=>decide (T.ov<=c.now+t)).map λT=>(T.ov,T.a),.inl (by rw[bR,bR];rfl),λz hz=>?_,?_,htb1,λys' hp hs=>?_⟩
   . obtain⟨T,hT,rfl⟩:=aP.mp hz
     exact⟨_,hat T (sub T hT),rfl⟩
   . rw[ba];exact gG (kc _ _) h64
   . obtain⟨ys,py,rfl⟩:=Jy hp
     rw[Ng,show((ys.map λT=>(T.ov,T.a)).map Prod.snd).map RV.ref=ys.map λT=>RV.ref T.a by rw[bR,bR];rfl]
     subst hL;refine Mr (eG hk (by decide)) ys G1 (λT hT=>sub T (py.mem_iff.mp hT)) ?_ λc' tl' M' z G' s' k'=>hq c' tl' M' G' s' ⟨k'.ds,k'.c⟩
     exact(py.map _).nodup_iff.mpr (ve G.d6)
end
section
variable {e:Env}{n:Nat}{M M0:RM}{Q:ao}{ad:Nat->Addr}{f:Fm}{i j:bG}{R:Rl}{k d:Nat}{c:Cn}{tl:List Tk}{t ov u m mo:Int}{v:RV}{st s1 wd:Str}{b x y:Addr}{T U:Tk}
theorem Ui{p:aC}{b:Bool}{d t:Int}(h:p.pick b d t=some m):p.free m t=true:=by
 unfold aC.pick at h;split at h
 . rename_i z;cases h;exact(aY _ _ ▸ z).2
 . exact List.find?_some (p:=λi=>p.free i t) h
theorem Gd.f7(G:Gd e ad f R k d c tl M0 M)(h:(pS f c).free m c.now=true):m∉c.K.map (·.2)/\f.low<=m/\m<=f.high:=by
 unfold aC.free aC.has pS at h;simp only[aY,fU,jd]at h;refine⟨λz=>?_,h.1.1.1,h.1.1.2⟩
 have:=yM (l:=c.K.map λx=>(x.2,())) (k:=m)
 rw[<-G.cT,h.1.2,G.cT,bR]at this;exact aS z (by simpa using this)
theorem Gd.iL(G:Gd e ad f R k d c tl M0 M)(hw:f.high=f.low+199)(h:k<200):∃x,(pS f c).free x c.now=true:=by
 have s3:=G.s3;refine Classical.byContradiction λno=>?_
 have all:∀x∈(List.range 200).map (λ(j:Nat)=>f.low+(j:Int)),x∈c.U.map (·.1)++c.K.map (·.2):=λx hx=>by
  obtain⟨j,hj,rfl⟩:=aP.mp hx;have hj:=jL.mp hj;refine Classical.byContradiction λz=>no ⟨f.low+j,?_⟩
  rw[eS,not_or]at z;unfold aC.free aC.has pS;have a1:lk c.T (f.low+j)=none:=by
   cases q:lk c.T (f.low+j)with
   |none=>rfl
   |some y=>rw[G.cT]at q;exact aS (by have:=MI q;rw[bR]at this;exact this) z.2
  have a2:lk c.U (f.low+j)=none:=by
   cases q:lk c.U (f.low+j)with
   |none=>rfl
   |some y=>exact aS (MI q) z.1
  dsimp only;rw[a1,a2];simp;omega
 have:=sub_len qyF all;rw[ba,zP,fe,ba,ba]at this;omega
theorem Gd.iz(G:Gd e ad f R k d c tl M0 M)(a:f.high=f.low+199)(h:k<200){b:Bool}{dd:Int}:∃x,(pS f c).pick b dd c.now=some x:=by
 unfold aC.pick
 by_cases z:(b&&(pS f c).free dd c.now)=true
 . rw[ah z];exact⟨_,rfl⟩
 . rw[ae z]
   obtain⟨x,hx⟩:=G.iL a h;cases q:(pS f c).line.find? λi=>(pS f c).free i c.now with
   |some y=>exact⟨y,rfl⟩
   |none=>
    rw[wC]at q;have l:=(G.f7 hx).2;have g:=G.mr;refine aS hx (q x ?_);unfold aC.line pS;rw[eS,aP,aP];dsimp only
    by_cases y:c.mr<=x
    . exact .inl ⟨(x-c.mr).toNat,jL.mpr (by omega),by omega⟩
    . exact .inr ⟨(x-f.low).toNat,jL.mpr (by omega),by omega⟩
theorem Gd.DW(G:Gd e ad f R k d c tl M0 M)(a:f.Ok):(pS f c).Ok:=⟨a.lo,G.mr.1,G.mr.2,a.hi,a.wide⟩
def Wo(k w:Str):Prop:=k= "note"/\w= "say"∨k= "line"/\w= "open"
theorem Wo.kw{k w:Str}(h:Wo k w):Kw k w:=h.imp_right λh=>⟨h.1,.inl h.2⟩
noncomputable def OC (p:TK×Str):Bool:=!decide (p.1[2]? =some (some (.inr "open")))||(decide (p.2= "asked")||(decide (p.2= "called")||decide (p.2= "up")))
theorem Vn:steps.all OC=true:=by decide+kernel
theorem ql{k w l:Str}{g:Option Str}(h:Wo k w)(hx:nx k g l w=some st):Sw k st:=by
 unfold nx at hx;rcases h with⟨rfl,rfl⟩|⟨rfl,rfl⟩
 . rw[ah rfl]at hx
   split at hx
   . cases hx;exact .inl ⟨rfl,rfl⟩
   . cases hx
 . rw[ae (by decide+kernel)]at hx
   unfold xq at hx;rw[ae (by decide+kernel)]at hx
   obtain⟨p,o,rfl⟩:=Option.map_eq_some_iff.mp hx;have r:=j9 (List.find?_some (p:=λp:TK×Str=>decide (p.1= [some (.inr l),g.map Sum.inr,some (.inr "open")])) o)
   have a:=dw.mp Vn p (Dm o);unfold OC at a;rw[r,show(decide (([some (.inr l),g.map Sum.inr,some (.inr "open")]:TK)[2]? =some (some (.inr "open"))))=true from fK rfl,Bool.not_true,Bool.false_or,oF,oF,fU,fU,fU]at a
   exact .inr ⟨rfl,by rcases a with h|h|h<;>simp[h]⟩
theorem Yw{k w:Str}(h:Wo k w):∃s,nx k none "house" w=some s:=by
 rcases h with⟨rfl,rfl⟩|⟨rfl,rfl⟩
 . exact⟨"note",by decide+kernel⟩
 . exact⟨"asked",by decide+kernel⟩
theorem Yx{k w:Str}(h:Wo k w):∃s,nx k none "far" w=some s:=by
 rcases h with⟨rfl,rfl⟩|⟨rfl,rfl⟩
 . exact⟨"note",by decide+kernel⟩
 . exact⟨"called",by decide+kernel⟩
noncomputable abbrev led (m:Int):RV:=.tup [.str "led",.int m]
abbrev kept(x:Str):RV:=.tup [.str "kept",.str x]
def Sub(tl a:List Tk):Prop:=∀T∈a,∃U∈tl,U.i=T.i/\U.m=T.m
def fX(i:bG)(m:Int)(tl a:List Tk):Prop:=(∃T∈a,T.i=i/\T.m=m)/\∀T∈a,T.i=i/\T.m=m∨∃U∈tl,U.i=T.i/\U.m=T.m
theorem fX.snoc{x:Addr}:fX i m tl (tl++ [⟨i,x,m,st,ov⟩]):=⟨⟨_,eS.mpr (.inr (.head _)),rfl,rfl⟩,λT a=>by
 rcases eS.mp a with h|h
 . exact .inr ⟨T,h,rfl,rfl⟩
 . cases jc.mp h;exact .inl ⟨rfl,rfl⟩⟩
theorem fX.led(a:T∈tl):fX T.i T.m tl (tl.map (fF x st ov)):=⟨⟨_,aP.mpr ⟨T,a,rfl⟩,cY,eL⟩,λV g=>by
 obtain⟨W,h,rfl⟩:=aP.mp g;exact .inr ⟨W,h,cY.symm,eL.symm⟩⟩
theorem Gd.begin(G:Gd e ad f R k d c tl M0 M)(tb:Tb e)(I:k<900)(h0:tl.length<k)(D:c.N.length<k)(s:∀U∈tl,U.i≠i)(z:∀U∈tl,U.m=m->bo U.i≠bo i)(w:(m=R.m/\i.house=R.house/\i.door=R.door)∨lk c.K (bO f i)=some m)(g:Sw i.kind st/\i.Ok)
 (A:∀h a r,Gd e ad f R k d h a M0 r->fX i m tl a->Kp c h->Q .aq (LG e ad f R h r)):aw (P e) (n+3) 73 [.ref (ad 1),i.r,.int m,.str st] (LG e ad f R c M) Q:=by
 have C:c.B.length<1000:=by rw[G.cB];unfold j6;rw[ba];exact gG G.s0 (by omega)
 cases hN:lk c.N m with
 |none=>exact VA tb g.1.ws G.ij C (gG G.s2 (by omega)) hN λx y ov hx o F H l=>A _ _ _ (G.b0 (ov:=ov) s z w g hN hx o F H l h0 D) fX.snoc ⟨rfl,rfl⟩
 |some b=>
  obtain⟨b1,b2⟩:=G.nb _ (iH hN);refine Vz tb g.1.ws G.ij C ?_ hN b2 b1 λx ov hx o E=>A _ _ _ (G.b1 (ov:=ov) s z w g hN hx o h0) fX.snoc ⟨rfl,rfl⟩
  unfold outs;rw[ba];exact gG (bQ (kc _ _) G.s0) (by omega)
theorem Gd.mK(G:Gd e ad f R k d c tl M0 M):∀x∈c.H,∃k j r,x.2=k::some (.inl j)::r:=λx hx=>by
 rw[G.cH]at hx;obtain⟨y,a,rfl⟩:=aP.mp hx;obtain⟨⟨i,h⟩,_⟩:=G.hk y a;show ∃k j r,y.1=_;rw[h];unfold bO bG.k;split
 . exact⟨_,_,_,rfl⟩
 . split<;>exact⟨_,_,_,rfl⟩
theorem Gd.begin_out(G:Gd e ad f R k d c tl M0 M)(tb:Tb e)(ck:f.Ok)(ro:R.Out f)(hwd:f.high=f.low+199)(hmo:f.most=200)(hk:k<190)(hB:∀U∈tl,U.i≠i)(hw:Sw i.kind st/\i.Ok)
 (hq:∀m c' tl' M',Gd e ad f R (k+1) d c' tl' M0 M'->fX i m tl tl'->Kp c c'->Q (led m) (LG e ad f R c' M')):aw (P e) (n+5) 66 [.ref (ad 0),i.r,.str st] (LG e ad f R c M) Q:=by
 have Hj:=G.ij;rw[us (i:=66) (d:=um) rfl];simp only[um];unfold Ir;walk_at "evl";rw[SR Hj];cases hK:lk c.K (bO f i)with
 |some m=>
  rw[Mf];unfold C4;walk_at "evl";unfold C3;walk_at "evl";exact(G.mono (iU _) (aN _)).begin tb (by omega) (tG G.s0) (tG G.s2) hB (G.gL ro hK hB) (.inr hK) hw λc' tl' M' G' h1 h2=>by unfold C0;walk_at "ev";exact hq m c' tl' M' G' h1 h2
 |none=>
  rw[Yk];unfold C4;walk_at "evl";rw[DJ];have lH:c.H.length=c.K.length:=by rw[G.cH,ba]
  have s1:=G.s1;refine Xr Hj G.mK (by omega) λl hl=>?_
  walk_at "evl";rw[O8];walk_at "evl";rw[ae (by simp;omega),DK]
  obtain⟨m,hp⟩:=G.iz hwd (by omega) (b:=f.pick== "keep") (dd:=i.door)
  refine Sr Hj (G.DW ck) ?_;rw[hp,Mf];walk_at "evl";obtain⟨f1,f2⟩:=G.f7 (Ui hp);have lT:c.T.length=c.K.length:=by rw[G.cT,ba]
  refine XT Hj (by omega) (by omega) (by omega) ?_
  have G1:=G.iu hK f2 f1;have hK1:lk (c.iu f i m).K (bO f i)=some m:=BW;unfold C3;walk_at "evl";refine G1.begin tb (by omega) (tG G.s0) (tG G.s2) hB (G1.gL ro hK1 hB) (.inr hK1) hw λc' tl' M' G' h1 h2=>?_
  unfold C0;walk_at "ev";exact hq m c' tl' M' G' h1 ⟨h2.ds,h2.c⟩
def wq(i:bG)(tl:List Tk)(v:RV)(a:List Tk):Prop:=(v=kept "astray"/\a=tl)∨∃m,v=led m/\fX i m tl a
theorem Gd.lead_out(G:Gd e ad f R k d c tl M0 M)(tb:Tb e)(E:f.Ok)(ro:R.Out f)(z:f.high=f.low+199)(r:f.most=200)(I:k<190)(A:i.Ok)(h:Wo i.kind wd)
 (w:∀v g a l,Gd e ad f R (k+1) d g a M0 l->wq i tl v a->Kp c g->Q v (LG e ad f R g l)):aw (P e) (n+6) 65 [.ref (ad 0),i.r,.str wd] (LG e ad f R c M) Q:=by
 have C:=G.ij;rw[us (i:=65) (d:=uo) rfl];simp only[uo];unfold Io;walk_at "evl";rw[JG C];cases hB:lk c.B i.k with
 |none=>
  rw[yK];unfold CP;walk_at "evl";obtain⟨s,hs⟩:=Yw h;rw[DI,NV,hs,show oS (some s)= .str s from rfl]
  unfold y7;walk_at "evl";unfold CO;walk_at "evl";exact G.begin_out tb E ro z r I (G.jg hB) ⟨ql h hs,A⟩ λm g a l D F H=>w _ _ _ _ D (.inr ⟨m,rfl,F⟩) H
 |some x=>
  obtain⟨T,o,rfl,rfl⟩:=G.oG hB;obtain⟨J,L⟩:=G.tk T o;rw[vw];unfold CP;walk_at "evl";rw[DI];walk_at "evl";rw[Cd];cases hs:nx T.i.kind (some T.st) "house" wd with
  |none=>
   rw[show oS none= .aq from rfl]
   unfold y7;walk_at "evl";exact w _ _ _ _ (G.mono (iU _) (aN _)) (.inl ⟨rfl,rfl⟩) ⟨rfl,rfl⟩
  |some s=>
   rw[show oS (some s)= .str s from rfl]
   unfold y7;walk_at "evl";unfold CO;walk_at "evl";unfold Im;walk_at "evl";refine BC tb (ql h hs).ws C L J λov=>?_
   have G1:=G.lead (ov:=ov) o (ql h hs);have N:put M T.a (gF e T.i T.m s ov) T.a=some (gF e T.i T.m s ov):=bF;unfold Il;walk_at "evl";exact w _ _ _ _ (G1.mono (iU _) (aN _)) (.inr ⟨T.m,rfl,fX.led o⟩) ⟨rfl,rfl⟩
end
section
variable {e:Env}{n:Nat}{M M0:RM}{Q:ao}{ad:Nat->Addr}{f:Fm}{i j:bG}{R:Rl}{k d:Nat}{c:Cn}{tl:List Tk}{t ov u m mo p q:Int}{v:RV}{st s1 wd kd:Str}{b x y:Addr}{T U:Tk}
theorem Bo(h:lk (outs tl m) κ=some x):∃T∈tl,T.m=m/\bo T.i=κ/\T.a=x:=by
 obtain⟨T,a,e1⟩:=aP.mp (iH h);obtain⟨a,l⟩:=eR.mp a;injection e1 with e1 g
 exact⟨T,a,j9 l,e1,g⟩
theorem Gd.fB(G:Gd e ad f R k d c tl M0 M)(a:T∈tl):lk (outs tl T.m) (bo T.i)=some T.a:=by
 cases h:lk (outs tl T.m) (bo T.i)with
 |none=>exact aS (aP.mpr ⟨_,aP.mpr ⟨T,eR.mpr ⟨a,fK rfl⟩,rfl⟩,rfl⟩) (br.mp h)
 |some x=>
  obtain⟨U,r,g,l,o⟩:=Bo h;rw[<-o,G.od U r T a g l]
theorem Gd.of_outer(G:Gd e ad f R k d c tl M0 M):aw (P e) (n+1) 76 [.ref (ad 1),.str kd,.int m,.int p,.int q] (LG e ad f R c M) Q=Q (wg (lk (outs tl m) (oK kd p q))) (LG e ad f R c M):=by
 cases hN:lk c.N m with
 |none=>
  rw[SQ G.ij hN];have:outs tl m= []:=by
   unfold outs;rw[List.filter_eq_nil_iff.mpr λU a h=>br.mp hN (by rw[<-j9 h];exact G.tb U a)];rfl
  rw[this];rfl
 |some b=>
  obtain⟨b1,b2⟩:=G.nb _ (iH hN);exact SO G.ij hN b2 b1
noncomputable abbrev mL (h d:Int):RV:=.tup [.str "in",.int h,.int d]
theorem fX.same(a:T∈tl):fX T.i T.m tl tl:=⟨⟨T,a,rfl,rfl⟩,λV g=>.inr ⟨V,g,rfl,rfl⟩⟩
theorem Gd.lead_in(G:Gd e ad f R k d c tl M0 M)(tb:Tb e)(g:T∈tl)(l:Wo T.i.kind wd)(H:Q (kept "astray") (LG e ad f R c M))(w:∀a r,Gd e ad f R k d c a M0 r->fX T.i T.m tl a->Q (mL T.i.house T.i.door) (LG e ad f R c r)):
 aw (P e) (n+5) 67 [.ref (ad 0),.ref T.a,.str wd] (LG e ad f R c M) Q:=by
 have o:=G.ij;obtain⟨C,D⟩:=G.tk T g;have E:M T.a=some (fC e (.tup [.str T.i.kind,.int T.i.house,.int T.i.door,.int T.i.place,.int T.i.far]) (.int T.m) (.str T.st) (.int T.ov)):=C;clear C;rw[us (i:=67) (d:=pL) rfl];simp only[pL];unfold CZ;walk_at "evl";unfold CY;walk_at "evl";rw[Cd];cases hs:nx T.i.kind (some T.st) "far" wd with
 |none=>rw[show oS none= .aq from rfl];unfold y9;walk_at "evl"
 |some s=>
  rw[show oS (some s)= .str s from rfl]
  unfold y9;walk_at "evl";unfold CW;walk_at "evl";rw[DH];unfold CV;walk_at "evl";unfold CU;(try walk_at "ev");have F:Q (mL T.i.house T.i.door) (LG e ad f R c M):=w tl M G (fX.same g);have z:∀ov,Q (mL T.i.house T.i.door) (LG e ad f R c (put M T.a (gF e T.i T.m s ov))):=λov=>w _ _ (G.lead (ov:=ov) g (ql l hs)) (fX.led g)
  by_cases h:f.renew=true
  . rw[ah h]
    exact BC tb (ql l hs).ws o D E z
  . rw[ae h]
    by_cases A:s=T.st
    . rw[ae (by simpa using A)];exact F
    . rw[ah (by simpa using A)]
      exact BC tb (ql l hs).ws o D E z
theorem Yy(h:Sw kd st)(a:kd= "line"):nx kd (some st) "far" "break" =some ("shut":Str):=by
 subst a;rcases h with⟨h,_⟩|⟨_,h⟩
 . exact aS h (by decide+kernel)
 . rcases h with rfl|rfl|rfl|rfl|rfl<;>decide+kernel
theorem Gd.jl(G:Gd e ad f R k d c tl M0 M)(hd:k<1000)(hT:T∈tl)(hk:T.i.kind= "line")(hq:∀c' tl' M',Gd e ad f R k d c' tl' M0 M'->(∀T∈tl',T∈tl)->Kp c c'->Q (mL T.i.house T.i.door) (LG e ad f R c' M')):
 aw (P e) (n+5) 67 [.ref (ad 0),.ref T.a,.str "break"] (LG e ad f R c M) Q:=by
 have Hj:=G.ij;obtain⟨t1,t2⟩:=G.tk T hT;have t3:M T.a=some (fC e (.tup [.str T.i.kind,.int T.i.house,.int T.i.door,.int T.i.place,.int T.i.far]) (.int T.m) (.str T.st) (.int T.ov)):=t1;clear t1;have hs:=(G.ws T hT).1;have hb:nx "line" (some T.st) "far" "break" =some ("shut":Str):=Yy (hk ▸ hs) rfl;have lead:aw (P e) (n+4) 61 [.ref (ad 1),.ref T.a,.str "shut"] (LG e ad f R c M) λv M'=>Q (mL T.i.house T.i.door) M':=by
  rw[us (i:=61) (d:=pG) rfl];simp only[pG];walk_at "evl";exact G.end_ hd hT λc' M' G' _ z1 z2=>hq c' _ M' G' (λU hU=>(eR.mp hU).1) ⟨z1,z2⟩
 rw[us (i:=67) (d:=pL) rfl];simp only[pL];unfold CZ;walk_at "evl";unfold CY;walk_at "evl";rw[Cd,hb,show oS (some ("shut":Str))= .str "shut" from rfl]
 unfold y9;walk_at "evl";unfold CW;walk_at "evl";rw[DH];unfold CV;walk_at "evl";unfold CU;(try walk_at "evl")
 by_cases h:f.renew=true
 . rw[ah h];trivial
 . rw[ae h]
   rw[ah (by
    have:("shut":Str)≠T.st:=λz=>by
     rw[<-z]at hs;rcases hs with⟨_,h⟩|⟨_,h⟩
     . exact aS h (by decide+kernel)
     . rcases h with h|h|h|h|h<;>exact aS h (by decide+kernel)
    simpa using this)]
   trivial
theorem MX(ro:R.Out f)(a:Ij ad 12):aw (P e) (n+1) 34 [.ref (ad 2),.int R.m] (LG e ad f R c M) Q=Q (.bl false) (LG e ad f R c M):=by
 rw[NW (lg a (Nat.le_of_ble_eq_true rfl))];unfold Rl.Out at ro;rw[show(decide (f.low<=R.m)&&decide (R.m<=f.high))=false by rw[<-Bool.not_eq_true,aY,fU,fU];exact ro]
theorem Nb{D:RD}{h dd p:RV}{g:RV}(a:D.rt (.tup [h,dd]) L):(tr ((P e).Gn n) vC).S D [some g,some (.str kd),some (.int m),some p,some (.str kd),some (.int m),some .aq,some h,some dd,z9] L:=by
 unfold vC;walk_at "z";unfold BP;walk_at "ev";exact a
theorem Y4{D:RD}{h dd p:RV}{g:RV}(a:D.nx [some g,some (.str "line"),some (.int m),some p,some (.str "note"),some (.int m),some .aq,some h,some dd,some (.bl true)] L):(tr ((P e).Gn n) vC).S D [some g,some (.str "line"),some (.int m),some p,some (.str "note"),some (.int m),some .aq,some h,some dd,z9] L:=by
 unfold vC;walk_at "z";unfold BP;walk_at "ev";rw[ae (by decide+kernel)]
 exact a
theorem Xu(r:Kd kd)(h:Ij ad 12)(o:c.c=2)(g:Q (.tup [.int R.house,.int R.door]) (LG e ad f R c M)):aw (P e) (n+1) 71 [.ref (ad 10),.str kd,.int R.m,.int p] (LG e ad f R c M) Q:=by
 have l:LG e ad f R c M (ad 10)=some (cR e ad c.c):=lg h (Nat.le_of_ble_eq_true rfl);have a:LG e ad f R c M (ad 11)=some (.dk [(.inl 0,qD R "note"),(.inl 1,qD R "line")]):=(lg h (Nat.le_of_ble_eq_true rfl)).trans (by rw[o];rfl)
 generalize LG e ad f R c M=L at l a g ⊢;rw[us (i:=71) (d:=ug) rfl];simp only[ug];unfold II;walk_at "evs";unfold sQ;walk_at "evs";refine⟨bF,rfl,?_⟩;rcases r with rfl|rfl
 . refine Nb ⟨bF,?_⟩
   dsimp only;rw[iD,rK a];exact g
 . refine Y4 ?_
   refine⟨bF,rfl,?_⟩;refine Nb ⟨bF,?_⟩;dsimp only;rw[iD,rK a];exact g
end
section
variable {e:Env}{n:Nat}{M M0:RM}{Q:ao}{ad:Nat->Addr}{f:Fm}{i j:bG}{R:Rl}{k d:Nat}{c:Cn}{tl:List Tk}{t ov u m mo p q:Int}{v:RV}{st s1 wd kd:Str}{b x y:Addr}{T U:Tk}
def sJ(R:Rl)(i:bG)(tl:List Tk)(v:RV)(a:List Tk):Prop:=((v=kept "astray"∨v=kept "clash")/\a=tl)∨v=mL i.house i.door/\fX i R.m tl a
theorem LI{i:bG}(h:bo i=oK kd p q):i.kind=kd/\i.place=p/\i.far=q:=by
 unfold bo oK at h;simp only[List.cons.injEq,j7,Sum.inr.injEq,Sum.inl.injEq,and_true]at h;exact h
theorem Gd.kj(G:Gd e ad f R k d c tl M0 M)(tb:Tb e)(E:c.c=2)(L:k<800)(hi:i.house=R.house/\i.door=R.door)(g:i.Ok)(r:Wo i.kind wd)(F:lk (outs tl R.m) (bo i)=none)
 (w:∀v l a h,Gd e ad f R (k+1) d l a M0 h->sJ R i tl v a->Kp c l->Q v (LG e ad f R l h)):aw (P e) (n+5) 82 [.ref (ad 0),.str i.kind,.int i.place,.int i.far,.int R.m,.str wd] (LG e ad f R c M) Q:=by
 have o:=G.ij;have H:RV.tup [.str i.kind,.int R.house,.int R.door,.int i.place,.int i.far]=i.r:=by unfold bG.r;rw[hi.1,hi.2]
 obtain⟨s,hs⟩:=Yx r;rw[us (i:=82) (d:=uu) rfl];simp only[uu];unfold Jb;walk_at "evl";refine Xu g.kind o E ?_;unfold Ja;walk_at "evl";unfold HQ;walk_at "evl";unfold HP;walk_at "evl";rw[NV,hs,show oS (some s)= .str s from rfl];(try walk_at "evl")
 unfold HN;walk_at "evl";unfold HM;(try walk_at "evl")
 (try rw[H])
 unfold HL;walk_at "evl";rw[JG o];cases hB:lk c.B i.k with
 |some x=>
  rw[vw];walk_at "evl";exact w _ _ _ _ (G.mono (iU _) (aN _)) (.inl ⟨.inr rfl,rfl⟩) ⟨rfl,rfl⟩
 |none=>
  rw[yK];walk_at "evl";unfold HK;walk_at "evl";refine(G.mono (iU _) (aN _)).begin tb (by omega) (tG G.s0) (tG G.s2) (G.jg hB) (λU D I J=>?_) (.inl ⟨rfl,hi⟩) ⟨ql r hs,g⟩ λc' a h z A C=>?_
  . have:=G.fB D
    rw[I,J,F]at this;cases this
  . unfold HJ;walk_at "ev"
    have:=w _ _ _ _ z (.inr ⟨rfl,A⟩) C;rw[hi.1,hi.2]at this;exact this
theorem Gd.hZ(G:Gd e ad f R k d c tl M0 M)(tb:Tb e)(ro:R.Out f)(J:c.c=2)(L:k<800)(hi:i.house=R.house/\i.door=R.door)(A:i.Ok)(D:Wo i.kind wd)
 (w:∀v s a g,Gd e ad f R (k+1) d s a M0 g->sJ R i tl v a->Kp c s->Q v (LG e ad f R s g)):aw (P e) (n+6) 81 [.ref (ad 0),.str i.kind,.int i.place,.int i.far,.int R.m,.str wd] (LG e ad f R c M) Q:=by
 have H:=G.ij;rw[us (i:=81) (d:=pM) rfl];simp only[pM];unfold Cy;walk_at "evl";rw[G.of_outer];cases hn:lk (outs tl R.m) (oK i.kind i.place i.far)with
 |some x=>
  obtain⟨T,C,E,N,rfl⟩:=Bo hn;have I:T.i=i:=by
   obtain⟨l,o,r⟩:=LI N;rcases G.tn T C with⟨_,b1,b2⟩|z
   . rw[<-hi.1]at b1;rw[<-hi.2]at b2
     cases i;cases h:T.i;rw[h]at l o r b1 b2;dsimp only at l o r b1 b2;subst l o r b1 b2;rfl
   . exact aS E (G.nr ro z)
  subst I;rw[vw];(try walk_at "evl");unfold zb;walk_at "evl";refine G.lead_in tb C D (w _ _ _ _ (G.mono (iU _) (aN _)) (.inl ⟨.inl rfl,rfl⟩) ⟨rfl,rfl⟩) λtl' g F h=>?_
  rw[E]at h;exact w _ _ _ _ (F.mono (iU _) (aN _)) (.inr ⟨rfl,h⟩) ⟨rfl,rfl⟩
 |none=>
  rw[yK];(try walk_at "evl");unfold zb;walk_at "evl";unfold HI;walk_at "evl";rw[MX ro H];walk_at "evl";unfold HH;walk_at "evl";exact G.kj tb J L hi A D hn w
theorem Gd.jk(G:Gd e ad f R k d c tl M0 M)(s:k<1000)(o:T∈tl)(r:T.i.kind= "line")(w:∀g a l,Gd e ad f R k d g a M0 l->(∀T∈a,T∈tl)->Kp c g->Q (mL T.i.house T.i.door) (LG e ad f R g l)):
 aw (P e) (n+6) 81 [.ref (ad 0),.str T.i.kind,.int T.i.place,.int T.i.far,.int T.m,.str "break"] (LG e ad f R c M) Q:=by
 have z:=G.ij;rw[us (i:=81) (d:=pM) rfl];simp only[pM];unfold Cy;have h:id (T.i.kind= "line"):=r;clear r;walk_at "evl";rw[G.of_outer,G.fB o,vw];unfold zb;walk_at "evl";exact G.jl s o h w
end
section
variable {e:Env}{n:Nat}{M M0 L:RM}{Q:ao}{ad:Nat->Addr}{f:Fm}{i j:bG}{R:Rl}{k d k' d':Nat}{c:Cn}{tl:List Tk}{t ov u m mo p q:Int}{v:RV}{st s1 wd kd:Str}{a b x y g:Addr}{T U:Tk}{o o':RO}
theorem Hc{nm:Str}{ps:LR}{L:RM}{g dn:Addr}{A N rs O:RV}{post:RV->RM->Prop}(W:L g=some (bx e A N rs (.ref dn) O))(H:∀Q:ao,Q (.bl true) L->aw (P e) (n+8) 15 [.tup (.str nm::ps)] L Q)
 (F:∀K:ao,(∀v M2,post v M2->K v M2)->aw (P e) (n+8) 64 [.ref g,.str nm,.tup ps] L K)
 (J:∀v M2,post v M2->∃l s r w h,M2 g=some (bx e l s r (.ref dn) w)/\M2 dn=some (.lst h)/\h.length<1000/\Q v (put M2 dn (.lst (h++ [.tup [.tup (.str nm::ps),v]])))):aw (P e) (n+9) 44 [.ref g,.tup (.str nm::ps)] L Q:=by
 rw[us (i:=44) (d:=uJ) rfl];simp only[uJ];walk_at "ev";refine H _ ?_;walk_at "evs";rw[GR];refine F _ λv M2 I=>?_
 obtain⟨l,s,r,w,h,C,z,D,E⟩:=J v M2 I;rw[C];walk_at "ev";rw[z];walk_at "ev";exact⟨h,_,rfl,z,eG D (by decide),E⟩
variable {fr rt rs rdd wi:RV}{ps:LR}{k1 k2 k3 k4 k5 k6:RV}
theorem qzw(h:L g=some (bx e fr rt rs rdd wi)):aw (P e) (n+1) 64 [.ref g,.str "out",.tup ps] L Q=aw (P e) n 46 [.ref g,.tup ps] L Q:=by
 rw[us (i:=64) (d:=mR) rfl];simp only[mR];unfold y8;walk_at "evs"
theorem MA(h:L g=some (bx e fr rt rs rdd wi)):aw (P e) (n+1) 64 [.ref g,.str "come",.tup [k1,k2,k3,k4,k5,k6]] L Q=aw (P e) n 81 [.ref g,k1,k2,k3,k4,k5] L Q:=by
 rw[us (i:=64) (d:=mR) rfl];simp only[mR];unfold y8;walk_at "evs";rw[ae (by decide+kernel)];unfold CT;walk_at "evs"
theorem Ac{nm:Str}(h:(nm==("out":Str))=false)(l:(nm==("come":Str))=false):aw (P e) (n+1) 64 [.ref g,.str nm,.tup ps] L Q=(tr ((P e).Gn n) wt).S (rd Q) [some (.ref g),some (.str nm),some (.tup ps),none,none,none,none,none,none] L:=by
 rw[us (i:=64) (d:=mR) rfl];simp only[mR];unfold y8;walk_at "ev";rw[ae (by rw[h];decide)];unfold CT;walk_at "ev"
 rw[ae (by rw[l];decide)]
theorem Zx(h:L g=some (bx e fr rt rs rdd wi)):aw (P e) (n+1) 64 [.ref g,.str "lost",.tup ps] L Q=aw (P e) n 48 [.ref g,.tup ps] L Q:=by
 rw[Ac (by decide+kernel) (by decide+kernel)];unfold wt;walk_at "evs"
theorem Zv{h l r s w z v7:RV}(A:L g=some (bx e fr (.ref tt) rs rdd wi))(C:L tt=some (bN e h l r s w z v7)):aw (P e) (n+1) 64 [.ref g,.str "wait",.tup [k1]] L Q=aw (P e) n 42 [.ref tt,k1] L λ_ M1=>Q .aq M1:=by
 rw[Ac (by decide+kernel) (by decide+kernel)];unfold wt;walk_at "ev"
 rw[ae (by decide+kernel)];unfold CS;walk_at "evs"
theorem Zw(h:L g=some (bx e fr rt rs rdd wi)):aw (P e) (n+1) 64 [.ref g,.str "rule",.tup ps] L Q=aw (P e) n 49 [.ref g,.tup ps] L Q:=by
 rw[Ac (by decide+kernel) (by decide+kernel)];unfold wt;walk_at "ev"
 rw[ae (by decide+kernel)];unfold CS;walk_at "ev"
 rw[ae (by decide+kernel)];unfold Iq;walk_at "evs"
theorem Gd.jP{nm:Str}{post:RV->Cn->List Tk->Prop}(G:Gd e ad f R k d c tl M0 M)(D:∀Q:ao,Q (.bl true) (LG e ad f R c M)->aw (P e) (n+8) 15 [.tup (.str nm::ps)] (LG e ad f R c M) Q)(E:d<1000)
 (C:∀K:ao,(∀v l h r,Gd e ad f R k' d l h M0 r->post v l h->K v (LG e ad f R l r))->aw (P e) (n+8) 64 [.ref (ad 0),.str nm,.tup ps] (LG e ad f R c M) K)
 (F:∀v l h r x,Gd e ad f R k' (d+1) { l with ds:=x } h M0 r->post v l h->Q v (LG e ad f R { l with ds:=x } r)):aw (P e) (n+9) 44 [.ref (ad 0),.tup (.str nm::ps)] (LG e ad f R c M) Q:=by
 have z:=G.ij;refine Hc (dn:=ad 9) (post:=λv L=>∃l h r,L=LG e ad f R l r/\Gd e ad f R k' d l h M0 r/\post v l h) (lg z (Nat.le_of_ble_eq_true rfl)) D (λK A=>C K λv l h r w s=>A _ _ ⟨l,h,r,rfl,w,s⟩) λv H s=>?_
 obtain⟨l,h,r,rfl,w,s⟩:=s;refine⟨_,_,_,_,l.ds,lg z (Nat.le_of_ble_eq_true rfl),lg z (Nat.le_of_ble_eq_true rfl),gG w.s4 E,?_⟩;rw[lp z (Nat.le_of_ble_eq_true rfl)];exact F v l h r _ w.book s
noncomputable def Gt (e:Env)(g:Addr)(f:Fm)(R:Rl)(k:Nat)(c:Cn)(tl:List Tk)(M0 L:RM):Prop:=c.c=2/\∃ad M,Gd e ad f R k (k+4) c tl M0 M/\L=LG e ad f R c M/\ad 0=g
theorem Gt.of(G:Gd e ad f R k d c tl M0 M)(h:c.c=2)(r:k<=k')(l:d<=k'+4):Gt e (ad 0) f R k' c tl M0 (LG e ad f R c M):=⟨h,ad,M,G.mono r l,rfl,rfl⟩
theorem Gt.at_(h:Gt e g f R k c tl M0 L)(ha:M0 a=some o):L a=some o:=by
 obtain⟨_,ad,M,G,rfl,_⟩:=h;obtain⟨h1,h2,_⟩:=G.fr a o ha;exact(lo h2).trans h1
theorem Gt.other(h:Gt e g f R k c tl M0 L)(C:M0 a=some o):Gt e g f R k c tl (put M0 a o') (put L a o'):=by
 obtain⟨D,ad,M,G,rfl,E⟩:=h;obtain⟨F,s,w,A⟩:=G.fr a o C;refine⟨D,ad,put M a o',{ G with tk:=λT r=>⟨(put_ne (w T r)).trans (G.tk T r).1,(G.tk T r).2⟩,nb:=λx hx=>⟨(put_ne (A x hx)).trans (G.nb x hx).1,(G.nb x hx).2⟩,fr:=λb u l=>?_ },lop s,E⟩
 by_cases z:b=a
 . subst z;rw[bF]at l;cases l;exact⟨bF,s,w,A⟩
 . rw[put_ne z]at l ⊢;exact G.fr b u l
theorem Gt.new(h:Gt e g f R k c tl M0 L)(D:L a=none):Gt e g f R k c tl (put M0 a o) (put L a o):=by
 obtain⟨E,ad,M,G,rfl,F⟩:=h;obtain⟨w,s⟩:=of_none G.ij rfl D;have A:∀T∈tl,T.a≠a:=λT l=>Cc s (G.tk T l).1
 have C:∀x∈c.N,x.2≠a:=λx hx=>Cc s (G.nb x hx).1
 refine⟨E,ad,put M a o,{ G with tk:=λT l=>⟨(put_ne (A T l)).trans (G.tk T l).1,(G.tk T l).2⟩,nb:=λx hx=>⟨(put_ne (C x hx)).trans (G.nb x hx).1,(G.nb x hx).2⟩,fr:=λb u r=>?_ },lop w,F⟩
 by_cases z:b=a
 . subst z;rw[bF]at r;cases r;exact⟨bF,w,A,C⟩
 . rw[put_ne z]at r ⊢;exact G.fr b u r
theorem Gt.gate(h:Gt e g f R k c tl M0 L):∃rt rs rd,L g=some (bx e f.r rt rs rd .aq):=by
 obtain⟨_,ad,M,G,rfl,rfl⟩:=h;exact⟨_,_,_,lg G.ij (Nat.le_of_ble_eq_true rfl)⟩
theorem Gt.out(h:Gt e g f R k c tl M0 L)(tb:Tb e)(J:f.Ok)(ro:R.Out f)(D:f.high=f.low+199)(C:f.most=200)(A:k<190)(r:i.Ok)(F:Wo i.kind wd)
 (X:∀v s l E,Gt e g f R (k+1) s l M0 E->wq i tl v l->Q v E):aw (P e) (n+10) 84 [.ref g,.str i.kind,.int i.house,.int i.door,.int i.place,.int i.far,.str wd,.str ""] L Q:=by
 obtain⟨W,ad,M,G,rfl,rfl⟩:=h;have H:=G.ij;have Y:=r.place;rw[us (i:=84) (d:=uA) rfl];simp only[uA];walk_at "evl";refine G.jP (k':=k+1) (post:=λv s l=>s.c=2/\wq i tl v l) (λQ O=>rY tb.out (Vy F.kw r.house r.door ⟨by omega,by omega⟩ r.far O)) (by omega) (λK N=>?_) λv s l I x z w=>X _ _ _ _ (Gt.of z w.1 (aN _) (by omega)) w.2
 rw[qzw (lg H (Nat.le_of_ble_eq_true rfl))];rw[us (i:=46) (d:=uD) rfl];simp only[uD];walk_at "evl";rw[show RV.tup [.str i.kind,.int i.house,.int i.door,.int i.place,.int i.far]=i.r from rfl]
 refine G.lead_out tb J ro D C A r F λv s l I z w A=>?_
 (try walk_at "evl")
 rw[ah (by simp;omega)]
 exact N _ _ _ _ z ⟨A.c.trans W,w⟩
theorem Gt.come(h:Gt e g f R k c tl M0 L)(tb:Tb e)(W:f.Ok)(ro:R.Out f)(N:1<=R.m/\R.m<=9999)(D:k<190)(hi:i.house=R.house/\i.door=R.door)(r:i.Ok)(E:Wo i.kind wd)
 (O:∀v s l A,Gt e g f R (k+1) s l M0 A->sJ R i tl v l->Q v A):aw (P e) (n+10) 83 [.ref g,.str i.kind,.int i.place,.int i.far,.int R.m,.str wd,.str ""] L Q:=by
 obtain⟨C,ad,M,G,rfl,rfl⟩:=h;have F:=G.ij;rw[us (i:=83) (d:=pI) rfl];simp only[pI];walk_at "evl";refine G.jP (k':=k+1) (post:=λv s l=>s.c=2/\sJ R i tl v l) (λQ J=>rY tb.come (J0 E.kw r.place r.far N J)) (by omega) (λK I=>?_) λv s l H x z w=>O _ _ _ _ (Gt.of z w.1 (aN _) (by omega)) w.2
 rw[MA (lg F (Nat.le_of_ble_eq_true rfl))];exact G.hZ tb ro C (by omega) hi r E λv s l H z w D=>I _ _ _ _ z ⟨D.c.trans C,w⟩
theorem Gd.qE(G:Gd e ad f R k d c tl M0 M)(h:f.Ok)(r:1<=R.m/\R.m<=9999)(l:T∈tl):1<=T.m/\T.m<=9999:=by
 rcases G.tn T l with⟨z,_⟩|z
 . rw[z];exact r
 . have:=(G.hk _ (iH z)).2
   have s:=h.lo;have w:=h.hi;dsimp only at this;omega
theorem Gt.brk(h:Gt e g f R k c tl M0 L)(tb:Tb e)(I:f.Ok)(Y:1<=R.m/\R.m<=9999)(D:k<190)(A:T∈tl)(E:T.i.kind= "line")
 (hq:∀w l C,Gt e g f R (k+1) w l M0 C->(∀T∈l,T∈tl)->Q (mL T.i.house T.i.door) C):aw (P e) (n+10) 83 [.ref g,.str T.i.kind,.int T.i.place,.int T.i.far,.int T.m,.str "break",.str ""] L Q:=by
 obtain⟨X,ad,M,G,rfl,rfl⟩:=h;have F:=G.ij;have s:=(G.ws T A).2;have r:id (T.i.kind= "line"):=E;clear E;rw[us (i:=83) (d:=pI) rfl];simp only[pI];walk_at "evl";refine G.jP (k':=k) (post:=λv w l=>w.c=2/\v=mL T.i.house T.i.door/\∀T∈l,T∈tl) (λQ W=>rY tb.come (J0 (.inr ⟨r,.inr rfl⟩) s.place s.far (G.qE I Y A) W)) (by omega) (λK O=>?_) λv w l H x z Z=>by
  obtain⟨J,rfl,N⟩:=Z;exact hq _ _ _ (Gt.of z J (iU _) (by omega)) N
 rw[MA (lg F (Nat.le_of_ble_eq_true rfl))];exact G.jk (by omega) A r λc' l H z hs D=>O _ _ _ _ z ⟨D.c.trans X,rfl,hs⟩
theorem Gt.wait(h:Gt e g f R k c tl M0 L)(tb:Tb e)(C:M0 e.lP=some (cD e))(A:k<64)(w:0<=t)(z:t<=1000000)(O:∀r l E,Gt e g f R (k+1) r l M0 E->(∀T∈l,T∈tl)->Q .aq E):aw (P e) (n+10) 45 [.ref g,.int t] L Q:=by
 obtain⟨J,ad,M,G,rfl,rfl⟩:=h;have D:=G.ij;rw[us (i:=45) (d:=uC) rfl];simp only[uC];walk_at "evl";refine G.jP (k':=k) (post:=λv r l=>r.c=2/\v= .aq/\∀T∈l,T∈tl) (λQ I=>rY tb.wait (Tu w z I)) (by omega) (λK H=>?_) λv r l F x s N=>by
  obtain⟨w,rfl,z⟩:=N;exact O _ _ _ (Gt.of s w (iU _) (by omega)) z
 rw[Zv (lg D (Nat.le_of_ble_eq_true rfl)) (lg D (Nat.le_of_ble_eq_true rfl))];exact TR G A C λc' l F s hs A=>H _ _ _ _ s ⟨A.c.trans J,rfl,hs⟩
def B6(tl:List Tk)(kd:Str)(m p q:Int)(v:RV):Prop:=(v=kept "nobody"/\∀T∈tl,T.m=m->bo T.i≠oK kd p q)∨∃T∈tl,T.m=m/\bo T.i=oK kd p q/\v= .tup [.str "told",.int T.i.house,.int T.i.door]
theorem Gt.lost(h:Gt e g f R k c tl M0 L)(tb:Tb e)(hk:k<190)(s:Kd kd)(Y:1<=t/\t<=1000000)(W:1<=m/\m<=9999)(w:1<=p/\p<=1000000)(z:1<=q/\q<=9999)(X:∀v D x,Gt e g f R (k+1) { c with ds:=x } tl M0 D->B6 tl kd m p q v->Q v D):
 aw (P e) (n+10) 79 [.ref g,.int t,.str kd,.int m,.int p,.int q] L Q:=by
 obtain⟨O,ad,M,G,rfl,rfl⟩:=h;have I:=G.ij;rw[us (i:=79) (d:=uF) rfl];simp only[uF];walk_at "evl";refine G.jP (k':=k) (post:=λv E l=>(E=c/\l=tl)/\B6 tl kd m p q v) (λQ N=>rY tb.lost (Tx s Y W w z N)) (by omega) (λK F=>?_) λv E l Z x H w=>by
  obtain⟨⟨rfl,rfl⟩,J⟩:=w;exact X _ _ x (Gt.of H O (iU _) (by omega)) J
 rw[Zx (lg I (Nat.le_of_ble_eq_true rfl))];rw[us (i:=48) (d:=uj) rfl];simp only[uj];unfold HX;walk_at "evl";unfold HW;walk_at "evl";rw[G.of_outer];cases hn:lk (outs tl m) (oK kd p q)with
 |none=>
  rw[yK];unfold CM;walk_at "evl";refine F _ _ _ _ G ⟨⟨rfl,rfl⟩,.inl ⟨rfl,λT r A C=>?_⟩⟩
  have:=G.fB r;rw[A,C,hn]at this;cases this
 |some x=>
  obtain⟨T,r,A,C,rfl⟩:=Bo hn;obtain⟨t1,t2⟩:=G.tk T r;rw[vw];unfold CM;walk_at "evl";unfold HV;walk_at "evl";rw[DJ];walk_at "evl";rw[DK];exact F _ _ _ _ G ⟨⟨rfl,rfl⟩,.inr ⟨T,r,A,C,rfl⟩⟩
end
section
variable {e:Env}{n:Nat}{M:RM}{Q:ao}{g t pl ta un bi bn ho nu:Addr}
noncomputable def aC.many (p:aC)(m:Int):Nat:=(((List.range (p.high+1-p.low).toNat).map λ(i:Nat)=>p.low+(i:Int)).filter λi=>p.free i m).length
theorem Kl{p:Int->Bool}{q:RV->Bool}(h:∀i,q (.int i)=p i):∀(l:List Int),((l.map RV.int).filter q)=(l.filter p).map RV.int
 | []=>rfl
 |i::l=>by
  rw[bU,je,je,h i,Kl h l];split<;>rfl
def GL(p:aC)(m:Int):RV->Bool
 | .int i=>p.free i m
 |_=>false
theorem Sz{p:aC}(c:p.Ok)(h:sC e M pl ta un p)(b:Q (.int (p.many m)) M):aw (P e) (n+3) 37 [.ref pl,.int m] M Q:=by
 obtain⟨ho,f,j⟩:=id h;obtain⟨o1,k,l,o,r⟩:=c;rw[us (i:=37) (d:=uh) rfl];simp only[uh];walk_at "evs";refine⟨⟨by omega,by omega,by omega,by omega⟩,by rw[AG];exact gG (show _<=200 by omega) (by decide),iB (bd:=fv false 1) (GL p m) id fh _ _ (λx hx=>?_) ?_⟩
 . rw[yj]at hx
   obtain⟨i,_,rfl⟩:=aP.mp hx;refine⟨[.int i],rfl,λK a=>?_,λ_ K a=>?_⟩
   . walk_at "ev"
     rw[ho];walk_at "ev";rw[AU h];exact a
   . walk_at "ev";exact a
 . show Q (.int (([]++((jS p.low (p.high+1-p.low).toNat).filter (GL p m)).map id).length:Nat)) M
   rw[ka,List.map_id,yj,Kl (p:=λi=>p.free i m) (λ_=>rfl),ba]
   exact b
theorem Xs{rs rd o a b c h:RV}{p:aC}(m:p.Ok)(r:M g=some (bx e f (.ref t) rs rd o))(s:M t=some (bN e fr (.ref pl) (.int nw) a b c h))(j:sC e M pl ta un p)(l:Q (.int (p.many nw)) M):aw (P e) (n+4) 23 [.ref g] M Q:=by
 have k:=j.o;rw[us (i:=23) (d:=uI) rfl];simp only[uI];walk_at "evs";exact Sz m j l
noncomputable def Ci:RV->RV
 | .tup [k,.tup r]=>.tup (k::r)
 |x=>x
theorem WW{rs rd A j k l z h:RV}{hs:List (Int×TK)}(C:M g=some (bx e f (.ref t) rs rd A))(D:M t=some (bN e fr z h j k (.ref ho) l))(m:M ho=some (.dk (eH hs)))(o:hs.length<64)(a:∀x∈hs,x.2.length<100)(s:jT (hs.map λx=>some (.inl x.1)::x.2)=true)
 (u:Q (.ls ((ju (hs.map λx=>some (.inl x.1)::x.2)).map bu)) M):aw (P e) (n+1) 24 [.ref g] M Q:=by
 rw[us (i:=24) (d:=uU) rfl];simp only[uU];walk_at "evs";unfold qz;simp only[m];refine⟨by unfold gA eH;rw[ba,gP];exact eG o (by decide),iB (λ_=>true) Ci bF _ _ (λx hx=>?_) ?_⟩
 . obtain⟨E,c,rfl⟩:=aP.mp hx
   obtain⟨y,v,rfl⟩:=aP.mp c;have w:=a y v;show ∃r,fv true 2 (.tup [.int y.1,bu y.2])=some r/\_;refine⟨_,rfl,λK b=>?_,λ_ K b=>?_⟩
   . exact b
   . unfold bu
     walk_at "ev";refine⟨?_,b⟩;rw[ba];exact bQ (show 1+y.2.length<=200 by omega) (by decide)
 . show fy "sorted" [.ls ([]++((gA (eH hs)).filter λ_=>true).map Ci)] (put (put M ho (.fk (eH hs))) ho (.dk (eH hs))) Q
   rw[iD,rK m,ka,wz.mpr (λ_ _=>rfl),Mn]
   have e1:(gA (eH hs)).map Ci=(hs.map λx=>some (.inl x.1)::x.2).map bu:=by
    unfold gA eH enc;rw[bR,bR,bR];rfl
   rw[e1];exact Ki (by rw[ba];exact o) s u
theorem TV{x:Addr}{i:bG}{s:Str}(h:M x=some (fC e i.r (.int m) (.str s) (.int ov))):aw (P e) (n+1) 21 [.ref x] M Q=Q (.tup [.str i.kind,.int m,.int i.house,.int i.door,.int i.place,.int i.far,.str s,.int ov]) M:=by
 have e0:i.r= .tup [.str i.kind,.int i.house,.int i.door,.int i.place,.int i.far]:=rfl;rw[e0]at h;rw[us (i:=21) (d:=xN) rfl];simp only[xN];walk_at "evs"
def Dh(row:Addr->TK):RV->RV
 | .ref a=>bu (row a)
 |x=>x
theorem WV{rs rd D C j k l c:RV}{f r:RV}{li:List (TK×Addr)}{row:Addr->TK}(F:M g=some (bx e f (.ref t) rs rd D))(H:M t=some (bN e r C c (.ref bi) j k l))(E:M bi=some (.dt (eA li)))(o:li.length<64)
 (hx:∀x∈li,∃(i:bG) (m h:Int) (s:Str),M x.2=some (fC e i.r (.int m) (.str s) (.int h))/\row x.2= [some (.inr i.kind),some (.inl m),some (.inl i.house),some (.inl i.door),some (.inl i.place),some (.inl i.far),some (.inr s),some (.inl h)])
 (w:jT (li.map λx=>row x.2)=true) (z:Q (.ls ((ju (li.map λx=>row x.2)).map bu)) M):aw (P e) (n+2) 25 [.ref g] M Q:=by
 rw[us (i:=25) (d:=uR) rfl];simp only[uR];walk_at "evs";rw[us (i:=20) (d:=pK) rfl];simp only[pK];walk_at "evs";have e0:List.map (λx=>x.snd) (eA li)=li.map λx=>RV.ref x.2:=by unfold eA enc;rw[bR];rfl
 rw[e0];refine⟨by rw[ba];exact eG o (by decide),iB (bd:=fv false 1) (λ_=>true) (Dh row) fh _ _ (λx b=>?_) ?_⟩
 . obtain⟨y,A,rfl⟩:=aP.mp b
   obtain⟨i,m,h,s,u,v⟩:=hx y A;refine⟨[.ref y.2],rfl,λK a=>a,λ_ K a=>?_⟩
   walk_at "ev";rw[TV u];have a:K (bu (row y.2)) M:=a;rw[v]at a;exact a
 . show fy "sorted" [.ls ([]++((li.map λx=>RV.ref x.2).filter λ_=>true).map (Dh row))] M Q
   rw[ka,wz.mpr (λ_ _=>rfl),Mn]
   have e1:(li.map λx=>RV.ref x.2).map (Dh row)=(li.map λx=>row x.2).map bu:=by rw[bR,bR];rfl
   rw[e1];exact Ki (by rw[ba];exact o) w z
theorem KS:∀a:TK,om a a=true
 | []=>rfl
 |x::xs=>by unfold om;rw[ah rfl];exact KS xs
end
section
variable {e:Env}{n:Nat}{M M0 L:RM}{Q:ao}{f:Fm}{R:Rl}{k:Nat}{c:Cn}{tl:List Tk}{g:Addr}{T:Tk}
noncomputable def gU (T:Tk):TK:=[some (.inr T.i.kind),some (.inl T.m),some (.inl T.i.house),some (.inl T.i.door),some (.inl T.i.place),some (.inl T.i.far),some (.inr T.st),some (.inl T.ov)]
noncomputable def zu (x:TK×Int):TK:=some (.inl x.2)::x.1
theorem Vl{l:List (TK×Int)}(j:(l.map (·.2)).Nodup):jT (l.map zu)=true:=by
 unfold jT;rw[aY,oF];refine⟨.inl ?_,?_⟩
 . rw[tq,dw];exactλx _=>rfl
 . rw[dw]
   intro a d;rw[dw];intro b h;obtain⟨x,hx,rfl⟩:=aP.mp d;obtain⟨y,i,rfl⟩:=aP.mp h
   by_cases z:x.2=y.2
   . rw[gm j hx i z];exact KS _
   . unfold zu om
     rw[ae (by simpa using z)];rfl
theorem Ut:jT (tl.map gU)=true:=by
 unfold jT;rw[aY,oF];refine⟨.inr ?_,?_⟩
 . rw[tq,dw];exactλx _=>rfl
 . rw[dw]
   intro a d;rw[dw];intro b h;obtain⟨m,_,rfl⟩:=aP.mp d;obtain⟨i,_,rfl⟩:=aP.mp h;unfold gU;simp only[om,iq]
   repeat' split
   all_goals rfl
def dj(tl:List Tk):List TK:=ju (tl.map gU)
def MJ(c:Cn):List TK:=ju (c.K.map zu)
theorem Gt.moment(h:Gt e g f R k c tl M0 L)(j:Q (.int c.now) L):aw (P e) (n+1) 22 [.ref g] L Q:=by
 obtain⟨_,b,M,G,rfl,rfl⟩:=h;have a:=G.ij;rw[us (i:=22) (d:=ud) rfl];simp only[ud];walk_at "evl"
theorem Gt.free(h:Gt e g f R k c tl M0 L)(a:f.Ok)(b:Q (.int ((pS f c).many c.now)) L):aw (P e) (n+4) 23 [.ref g] L Q:=by
 obtain⟨_,d,M,G,rfl,rfl⟩:=h;exact Xs (G.DW a) (lg G.ij (Nat.le_of_ble_eq_true rfl)) (lg G.ij (Nat.le_of_ble_eq_true rfl)) (NS G.ij) b
theorem Gt.lends(h:Gt e g f R k c tl M0 L)(hk:k<64)(a:Q (.ls ((MJ c).map bu)) L):aw (P e) (n+1) 24 [.ref g] L Q:=by
 obtain⟨_,d,M,G,rfl,rfl⟩:=h;have e1:(c.H.map λx=>some (.inl x.1)::x.2)=c.K.map zu:=by rw[G.cH,bR];rfl
 refine WW (hs:=c.H) (lg G.ij (Nat.le_of_ble_eq_true rfl)) (lg G.ij (Nat.le_of_ble_eq_true rfl)) (lg G.ij (Nat.le_of_ble_eq_true rfl)) ?_ (λx hx=>?_) ?_ ?_
 . rw[G.cH,ba];exact gG G.s1 hk
 . rw[G.cH]at hx
   obtain⟨y,b,rfl⟩:=aP.mp hx;obtain⟨⟨i,h⟩,_⟩:=G.hk y b;show y.1.length<100;rw[h];unfold bO bG.k;split
   . exact Nat.le_of_ble_eq_true rfl
   . split<;>exact Nat.le_of_ble_eq_true rfl
 . rw[e1];exact Vl G.d3
 . rw[e1];exact a
noncomputable def zg (tl:List Tk)(a:Addr):TK:=match tl.find? λT=>decide (T.a=a)with
 |some T=>gU T
 |none=>[]
theorem Lj(d:(tl.map λT=>T.a).Nodup)(a:T∈tl):zg tl T.a=gU T:=by
 unfold zg;cases h:tl.find? λU=>decide (U.a=T.a)with
 |none=>rw[wC]at h;exact aS (fK rfl) (h T a)
 |some U=>
  have b:=j9 (List.find?_some (p:=λU:Tk=>decide (U.a=T.a)) h)
  rw[gm d (Dm h) a b]
theorem Gt.talks(h:Gt e g f R k c tl M0 L)(b:k<64)(d:Q (.ls ((dj tl).map bu)) L):aw (P e) (n+2) 25 [.ref g] L Q:=by
 obtain⟨_,i,M,G,rfl,rfl⟩:=h;have e1:(c.B.map λx=>zg tl x.2)=tl.map gU:=by
  rw[G.cB];unfold j6;rw[bR];exact nv λT a=>Lj G.d6 a
 refine WV (li:=c.B) (row:=zg tl) (lg G.ij (Nat.le_of_ble_eq_true rfl)) (lg G.ij (Nat.le_of_ble_eq_true rfl)) (lg G.ij (Nat.le_of_ble_eq_true rfl)) ?_ (λx hx=>?_) ?_ ?_
 . rw[G.cB];unfold j6;rw[ba];exact gG G.s0 b
 . rw[G.cB]at hx
   obtain⟨T,a,rfl⟩:=aP.mp hx;exact⟨T.i,T.m,T.ov,T.st,(lo (G.tk T a).2).trans (G.tk T a).1,Lj G.d6 a⟩
 . rw[e1];exact Ut
 . rw[e1];exact d
def E8(l:List Int):List Int:=l.mergeSort λa b=>decide (a<=b)
theorem Wq{l d:List Int}(m:d.Perm l)(hs:d.Pairwise (. <= ·)):d=E8 l:=by
 refine(m.trans (List.mergeSort_perm l _).symm).eq_of_pairwise (λa b _ _ i j=>?_) hs ((List.pairwise_mergeSort (le:=λa b:Int=>decide (a<=b)) (λa b c i j=>?_) (λa b=>?_) l).imp λh=>j9 h)
 . omega
 . have:=j9 i;have:=j9 j;exact fK (by omega)
 . rw[oF,fU,fU];omega
noncomputable def uP (U:List (Int×Int))(a:Int):RV->Bool
 | .int i=>decide ((lk U i).getD 0 > a)
 |_=>false
noncomputable def uG (U:List (Int×Int)):RV->RV
 | .int i=>.tup [.int i,.int ((lk U i).getD 0)]
 |x=>x
noncomputable def yE (c:Cn):LR:=(((E8 (c.U.map (·.1))).map RV.int).filter (uP c.U c.now)).map (uG c.U)
theorem Gt.rests(h:Gt e g f R k c tl M0 L)(hk:k<64)(hq:Q (.ls (yE c)) L):aw (P e) (n+4) 26 [.ref g] L Q:=by
 obtain⟨_,ad,M,G,rfl,rfl⟩:=h;have Hj:=G.ij;have s3:=G.s3;have hu:LG e ad f R c M (ad 4)=some (.dk (eU c.U)):=lg Hj (Nat.le_of_ble_eq_true rfl);rw[us (i:=26) (d:=uS) rfl];simp only[uS];walk_at "evl";rw[us (i:=36) (d:=uq) rfl];simp only[uq];walk_at "evl";refine Xw (ns:=c.U.map (·.1)) hu (by unfold eU enc;rw[bR,bR];rfl) (by rw[ba];omega) λns' h1 h2=>?_
 have h3:=Wq h1 h2;walk_at "evl";have hl:ns'.length<=k:=by rw[h1.length_eq,ba];omega
 rw[<-h3];refine⟨by rw[ba];exact gG hl (eG hk (by decide)),iB (bd:=fv false 1) (uP c.U c.now) (uG c.U) fh _ _ (λx hx=>?_) ?_⟩
 . obtain⟨i,hi,rfl⟩:=aP.mp hx
   obtain⟨u,hu2⟩:∃u,lk c.U i=some u:=by
    cases z:lk c.U i with
    |none=>exact aS (h1.mem_iff.mp hi) (br.mp z)
    |some u=>exact⟨u,rfl⟩
   have e1:lk (eU c.U) (.inl i)=some (.int u):=by rw[BX,hu2];rfl
   refine⟨[.int i],rfl,λK hK=>?_,λ_ K hK=>?_⟩
   . unfold uP at hK;dsimp only at hK;rw[hu2]at hK
     show(tr ((P e).Gn (n+2)) _).T [some (.int i),some (.ref (ad 2)),some (.int c.now)] _ K;clear hq h3 h1 hx hi;walk_at "evl";exact hK
   . unfold uG at hK;dsimp only at hK;rw[hu2]at hK
     show(tr ((P e).Gn (n+2)) _).E [some (.int i),some (.ref (ad 2)),some (.int c.now)] _ K;clear hq h3 h1 hx hi;walk_at "evl";exact hK
 . rw[ka,h3]
   exact hq
end
section
variable {e:Env}{n:Nat}{M:RM}{Q:ao}{f:Fm}{i:bG}{R:Rl}
theorem i0{ad:Nat->Addr}{os:List RO}{x:Addr}{k:Nat}(H:Ij ad k)(F:∀j,j<k->M (ad j)=none)(l:os.length=k)(hx:lay ad 0 os M x=none):∃b,(∀j,j<k->ad j=b j)/\b k=x/\Ij b (k+1)/\(∀j,j<k+1->M (b j)=none)/\∀o,put (lay ad 0 os M) x o=lay b 0 (os++ [o]) M:=by
 obtain⟨a,c,d,g,h⟩:=Pu H l hx;refine⟨a,c,d,g,λj m=>?_,h⟩
 by_cases z:j<k
 . rw[<-c j z];exact F j z
 . rw[show j=k by omega,d];exact AX hx
theorem W7{ad:Nat->Addr}{os:List RO}{r s d:RO}(H:Ij ad 12)(a:os.length=9):lay ad 0 (os++ [r,s,d]) M=lay (λj=>if j=9 then ad 11 else if j=10 then ad 9 else if j=11 then ad 10 else ad j) 0 (os++ [d,r,s]) M:=by
 have c:ad 11≠ad 10:=λz=>by have:=H 11 10 (by decide) (by decide) z;omega
 have g:ad 11≠ad 9:=λz=>by have:=H 11 9 (by decide) (by decide) z;omega
 rw[show os++ [r,s,d]=((os++ [r])++ [s])++ [d] by simp,show os++ [d,r,s]=((os++ [d])++ [r])++ [s] by simp,nS,nS,nS,nS,nS,nS]
 simp only[fe,cQ,List.length_nil,a,Nat.reduceAdd,↓reduceIte,jf,Nat.reduceEqDiff];rw[yi c,yi g];exact BF λj b=>by
  rw[a]at b;show _=if j=9 then ad 11 else if j=10 then ad 9 else if j=11 then ad 10 else ad j
  rw[ae (by omega),ae (by omega),ae (by omega)]
noncomputable abbrev Ag (f:Fm) (j:Nat) (ds:LR):Cn:=⟨j,0,f.low,[],[],[],[],[],[],ds⟩
noncomputable def Gr (e:Env)(g:Addr)(f:Fm)(R:Rl)(j:Nat)(M0 M:RM):Prop:=∃b c,M=LG e b f R (Ag f j c) M0/\c.length=j/\Ij b 12/\b 0=g/\∀a o,M0 a=some o->Of b 12 a
theorem UC{x:Addr}(ck:f.Ok)(hx:M x=none)(hq:∀M',Gr e x f R 0 M M'->Q .aq M'):aw (P e) (n+6) 43 [.ref x,f.r] (put M x (.ins (e.C 4) [])) Q:=by
 rw[us (i:=43) (d:=uH) rfl];simp only[uH];unfold IQ;walk_at "ev";refine Tz ck ?_;obtain⟨D,_,rfl,H1,J,e1⟩:=i0 (ad:=λ_=>x) (os:=[]) (M:=M) (k:=0) (λi j hi=>aS hi (tf _)) (λj g=>aS g (tf _)) rfl hx
 rw[show put M (D 0) (.ins (e.C 4) [])=lay D 0 ([]++ [.ins (e.C 4) []]) M from e1 _]
 unfold IP;walk_at "evl";unfold IM;walk_at "evl";intro t ht;obtain⟨a2,h2,rfl,H2,L,e2⟩:=i0 (k:=1) H1 J rfl ht;rw[e2];clear e1 e2 H1 J ht;rw[us (i:=38) (d:=uM) rfl];simp only[uM];unfold Ik;walk_at "evl";unfold Ii;walk_at "evl";rw[O6,DG];intro y b;obtain⟨a3,h3,rfl,H3,N,e3⟩:=i0 (k:=2) H2 L rfl b;rw[e3];clear e3 H2 L b;rw[us (i:=57) (d:=uX) rfl];simp only[uX];walk_at "evl";intro y b;obtain⟨a4,h4,rfl,H4,O,e4⟩:=i0 (k:=3) H3 N rfl b;rw[e4];clear e4 H3 N b;walk_at "evl";intro y b;obtain⟨a5,h5,rfl,H5,U,e5⟩:=i0 (k:=4) H4 O rfl b;rw[e5];clear e5 H4 O b;walk_at "evl";unfold Ih;walk_at "evl";unfold Ig;walk_at "evl";intro y b;obtain⟨a6,h6,rfl,H6,W,e6⟩:=i0 (k:=5) H5 U rfl b;rw[e6];clear e6 H5 U b
 (try walk_at "evl")
 unfold Ie;walk_at "evl";intro y b;obtain⟨a7,h7,rfl,H7,X,e7⟩:=i0 (k:=6) H6 W rfl b;rw[e7];clear e7 H6 W b
 (try walk_at "evl")
 unfold Ic;walk_at "evl";intro y b;obtain⟨a8,h8,rfl,H8,Y,e8⟩:=i0 (k:=7) H7 X rfl b;rw[e8];clear e8 H7 X b
 (try walk_at "evl")
 unfold Ib;walk_at "evl";intro y b;obtain⟨a9,h9,rfl,H9,Z,e9⟩:=i0 (k:=8) H8 Y rfl b;rw[e9];clear e9 H8 Y b;walk_at "evl";unfold IL;walk_at "evl";intro y b;obtain⟨a10,E,rfl,m,h,u⟩:=i0 (k:=9) H9 Z rfl b;rw[u];clear u H9 Z b;rw[us (i:=18) (d:=uQ) rfl];simp only[uQ];walk_at "evl";intro y b;obtain⟨a11,F,rfl,r,l,v⟩:=i0 (k:=10) m h rfl b;rw[v];clear v m h b;walk_at "evl";unfold IK;walk_at "evl";intro y b;obtain⟨c,H,rfl,s,C,w⟩:=i0 (k:=11) r l rfl b;rw[w];clear w r l b
 (try walk_at "evl")
 unfold IJ;walk_at "evl";have e0:D 0=c 0:=by rw[h2 0 (by decide),h3 0 (by decide),h4 0 (by decide),h5 0 (by decide),h6 0 (by decide),h7 0 (by decide),h8 0 (by decide),h9 0 (by decide),E 0 (by decide),F 0 (by decide),H 0 (by decide)]
 refine hq _ ⟨λj=>if j=9 then c 11 else if j=10 then c 9 else if j=11 then c 10 else c j,[],(W7 (os:=[_,_,_,_,_,_,_,_,_]) s rfl).trans rfl,rfl,λi j hi g z=>?_,e0.symm,λa o ha j g z=>?_⟩
 . have q:∀i,i<12->∃k,k<12/\(if i=9 then c 11 else if i=10 then c 9 else if i=11 then c 10 else c i)=c k/\(i=9/\k=11∨i=10/\k=9∨i=11/\k=10∨i<9/\k=i):=λi hi=>by
    by_cases p:i=9
    . exact⟨11,by decide,by rw[ah p],.inl ⟨p,rfl⟩⟩
    . by_cases A:i=10
      . exact⟨9,by decide,by rw[ae p,ah A],.inr (.inl ⟨A,rfl⟩)⟩
      . by_cases I:i=11
        . exact⟨10,by decide,by rw[ae p,ae A,ah I],.inr (.inr (.inl ⟨I,rfl⟩))⟩
        . exact⟨i,hi,by rw[ae p,ae A,ae I],.inr (.inr (.inr ⟨by omega,rfl⟩))⟩
   obtain⟨k1,q1,q2,q3⟩:=q i hi;obtain⟨k2,q4,q5,q6⟩:=q j g;have z:c k1=c k2:=by rw[<-q2,<-q5];exact z
   have:=s k1 k2 q1 q4 z;omega
 . have q:∀j,j<12->a≠c j:=λj g z=>by have:=C j g;rw[<-z,ha]at this;cases this
   dsimp only at z;split at z
   . exact q 11 (by decide) z.symm
   . split at z
     . exact q 9 (by decide) z.symm
     . split at z
       . exact q 10 (by decide) z.symm
       . exact q j g z.symm
theorem VN{s:RV}{t:Addr}(a:M t=some (i4 e (.int m) s))(b:N (put M t (i4 e (.int (m+1)) s))):ph (e.C 0) "many_told" (tr ((P e).Gn n) (.i 1)).E σ N (.ref t) M:=by
 unfold ph;simp only[a];refine⟨rfl,?_⟩;show(match M t with|some (.ins C2 fs2)=>_|_=>False)
 rw[a];exact⟨rfl,by show(2:Nat)<1000;decide,b⟩
theorem Gr.rule{g:Addr}(h:Gr e g f R j M0 M)(tb:Tb e)(ro:R.Out f)(u:Kd kd)(A:j<5)(hs:pt (zF R j) (.inl (j:Int)) (qD R kd)=zF R (j+1))(w:(zF R j).length<5)(x:1<=R.m/\R.m<=9999)(t:0<=R.house/\R.house<=99)(s:1<=R.door/\R.door<=9999)
 (y:∀v c,Gr e g f R (j+1) M0 c->Q v c):aw (P e) (n+10) 80 [.ref g,.str kd,.int R.m,.aq,.int R.house,.int R.door] M Q:=by
 obtain⟨a,l,rfl,b,H,rfl,h⟩:=h;rw[us (i:=80) (d:=uE) rfl];simp only[uE];walk_at "evl";refine Hc (post:=λv M2=>M2=LG e a f R (Ag f (j+1) l) M0) (dn:=a 9) (lg H (Nat.le_of_ble_eq_true rfl)) (λQ r=>rY tb.rule (Tw u x t s r)) (λK o=>?_) λv M2 z=>?_
 . have k:=λv=>o v _ rfl
   rw[Zw (lg H (Nat.le_of_ble_eq_true rfl))];rw[us (i:=49) (d:=uk) rfl];simp only[uk];walk_at "evl";rw[MX ro H];walk_at "evl";rw[us (i:=78) (d:=uO) rfl];simp only[uO];walk_at "evl";refine⟨eG w (by decide),?_⟩
   rw[Fc];refine VN (m:=(j:Int)) (lg H (Nat.le_of_ble_eq_true rfl)) ?_;rw[show RV.tup [.str kd,.int R.m,.aq,.int R.house,.int R.door]=qD R kd from rfl,hs]
   rw[lp H (Nat.le_of_ble_eq_true rfl)];walk_at "evl";exact k _
 . subst z
   refine⟨_,_,_,_,l,lg H (Nat.le_of_ble_eq_true rfl),lg H (Nat.le_of_ble_eq_true rfl),by omega,?_⟩
   rw[lp H (Nat.le_of_ble_eq_true rfl)];exact y _ _ ⟨a,_,rfl,by rw[fe,b];rfl,H,rfl,h⟩
theorem Gr.gt{g:Addr}(h:Gr e g f R 2 M0 M)(k:f.Ok):∃c,Gt e g f R 0 c [] M0 M:=by
 obtain⟨j,b,rfl,l,H,rfl,h⟩:=h;refine⟨Ag f 2 b,rfl,j,M0,?_,rfl,rfl⟩;exact { ij:=H,cB:=rfl,cT:=rfl,cH:=rfl,tk:=g8 _,nb:=g8 _,fr:=λa o d=>⟨d,h a o d,g8 _,g8 _⟩,d1:=nH,d2:=nH,d3:=nH,d4:=nH,d5:=nH,d6:=nH,od:=g8 _,tn:=g8 _,tb:=g8 _,hk:=g8 _,ws:=g8 _,mr:=⟨Int.le_refl _,k.le⟩,s0:=aN _,s1:=aN _,s2:=aN _,s3:=aN _,s4:=by show b.length<=4;omega }
end
section
variable {e:Env}{n:Nat}{M:RM}{Q:ao}
theorem JH{xs:List Int}{k:Nat}:aw (P e) (n+1) 50 [.ls (xs.map RV.int),.int k] M Q=Q (.int (xs.getD k 0)) M:=by
 rw[us (i:=50) (d:=xZ) rfl];simp only[xZ];walk_at "ev";rw[ba]
 by_cases h:k<xs.length
 . rw[ah (by simpa using h),i8 (v:=RV.int (xs.getD k 0)) (by simp[h])]
   rfl
 . rw[ae (by simpa using h)]
   simp[Nat.le_of_not_lt h]
structure bY where
 a:Int
 b:Int
 c:Int
noncomputable def bY.l (g:bY):RO:=.lst [.int g.a,.int g.b,.int g.c]
structure bY.Ok(g:bY):Prop where
 a:0<=g.a
 b:0<=g.b/\g.b<2305843009213693951
 c:0<=g.c/\g.c<1000000
theorem Tj{x:Addr}{g:bY}(hx:M x=some g.l)(c:0<g.a)(f:0<m)(a:m<1073741824)(b:Q (.int (g.a % m)) (put M x (bY.l ⟨g.a / m,g.b,g.c⟩))):aw (P e) (n+1) 52 [.ref x,.int m] M Q:=by
 unfold bY.l at hx;rw[us (i:=52) (d:=rG) rfl];simp only[rG];walk_at "evs";exact b
def v9:Int:=2305843009213693951
noncomputable def qy4 (b c:Int):Int:=((((b+1000003*c) % v9)*((b+1000003*c) % v9)+7919*c ^ 2+5) % v9) ^ 3 % v9 / 13
theorem vP{i j:Int}(a:-(2 ^ 64)<i)(b:i<2 ^ 64):g9 i j:=.inl ⟨a,b⟩
theorem Sq{x:Addr}{g:bY}(hx:M x=some g.l)(f:g.Ok)(r:¬0<g.a)(s:0<m)(c:Q (.int (qy4 g.b (g.c+1) % m)) (put M x (bY.l ⟨g.a,g.b,g.c+1⟩))):aw (P e) (n+1) 52 [.ref x,.int m] M Q:=by
 obtain⟨_,⟨b1,b2⟩,h,j⟩:=f;unfold bY.l at hx;rw[us (i:=52) (d:=rG) rfl];simp only[rG];walk_at "evs";have e1:=Int.emod_nonneg (g.b+1000003*(g.c+1)) (b:=2305843009213693951) (by decide)
 have k:=Int.emod_lt_of_pos (g.b+1000003*(g.c+1)) (b:=2305843009213693951) (by decide)
 have a:∀z:Int,(z % 2305843009213693951).natAbs<2 ^ 64:=λz=>by
  have l:=Int.emod_nonneg z (b:=2305843009213693951) (by decide)
  have o:=Int.emod_lt_of_pos z (b:=2305843009213693951) (by decide)
  omega
 exact⟨vP (by decide) (by decide),vP (by omega) (by omega),by omega,vP (by decide) (by decide),a _,c⟩
noncomputable def vI (a b:Int):bY:=⟨if 10 ^ 18<=a then a-10 ^ 18 else 0,a % v9,b⟩
theorem qyk:(10:Int) ^ Int.toNat 18=10 ^ 18:=rfl
theorem yI{c t:Int}(a:∀p,M p=none->Q (.ref p) (put M p (vI c t).l)):aw (P e) (n+1) 51 [.int c,.int t] M Q:=by
 rw[us (i:=51) (d:=xX) rfl];simp only[xX];walk_at "ev";refine⟨by decide,?_⟩
 rw[qyk];unfold vI bY.l at a
 by_cases h:(10:Int) ^ 18<=c
 . rw[ah (by simpa using h)]
   simp only[ah h]at a;exact⟨by decide,a⟩
 . rw[ae (by simpa using h)]
   simp only[ae h]at a;exact a
structure bY.In(g:bY)(k:Int):Prop where
 a:0<=g.a
 b:0<=g.b/\g.b<2305843009213693951
 c:0<=g.c/\g.c<=k
theorem vo{a m:Int}(b:0<m):0<=a % m/\a % m<m:=⟨Int.emod_nonneg _ (by omega),Int.emod_lt_of_pos _ b⟩
theorem iG{x:Addr}{g:bY}(hx:M x=some g.l)(j:g.In k)(l:k<999999)(a:0<m)(b:m<1073741824)(f:∀v d,0<=v->v<m->bY.In d (k+1)->Q (.int v) (put M x d.l)):aw (P e) (n+1) 52 [.ref x,.int m] M Q:=by
 obtain⟨o1,c,i,o⟩:=j
 by_cases h:0<g.a
 . exact Tj hx h a b (f _ _ (vo a).1 (vo a).2 ⟨Int.ediv_nonneg o1 (by omega),c,i,by show g.c<=k+1;omega⟩)
 . exact Sq hx ⟨o1,c,i,by omega⟩ h a (f _ _ (vo a).1 (vo a).2 ⟨o1,c,by show 0<=g.c+1;omega,by show g.c+1<=k+1;omega⟩)
theorem sE{xs:LR}{v:Int}(h0:0<=v)(b:v<xs.length):∃y∈xs,∀{M:RM} {Q:ao},dR (.ls xs) (.int v) M Q=Q y M:=by
 obtain⟨j,rfl⟩:∃j:Nat,v=j:=⟨v.toNat,by omega⟩
 have a:j<xs.length:=by omega
 refine⟨xs[j],List.getElem_mem _,λ{M Q}=>?_⟩
 rw[XU,i8 (v:=xs[j]) (by simp[a])];rfl
theorem NJ{a:Int}:0<=a % 2305843009213693951/\a % 2305843009213693951<2305843009213693951:=vo (by decide)
theorem yy:(vI c 0).In 0:=⟨by unfold vI;dsimp only;split<;>omega,NJ,⟨Int.le_refl _,Int.le_refl _⟩⟩
theorem A1{ok:RM->Prop}{un:RM->RM}{te:au}{tt:dJ}{base:List (Option RV)}(I:LR->RM->Prop)(ht:∀σ M (K:Bool->RM->Prop),K true M->tt σ M K)(av:∀acc M,I acc M->ok M):∀(xs acc:LR) (M:RM),I acc M->
 (∀x∈xs,∀acc2 M,acc2.length<acc.length+xs.length->I acc2 M->∃bs,bd x=some bs/\∀K:ao,(∀v M',I (acc2++ [v]) M'->K v M')->te (bs.map some++base) M K)->
 (∀acc' M',acc'.length=acc.length+xs.length->I acc' M'->j3 md acc' (un M') Q)->gb bd md ok un tt te base xs acc M Q
 | [],acc,M,h,_,hq=>⟨av _ _ h,hq acc M rfl h⟩
 |x::xs,acc,M,h,hs,hq=>by
  obtain⟨bs,h1,h2⟩:=hs x (.head _) acc M (by rw[cQ];omega) h
  refine⟨av _ _ h,?_⟩;rw[h1];refine ht _ _ _ ⟨λ_=>h2 _ λv M' h'=>A1 I ht av xs _ M' h' (λy hy acc2 M2 hlt=>hs y (.tail _ hy) acc2 M2 (by rw[fe]at hlt;rw[cQ];have:acc2.length<acc.length+1+xs.length:=hlt;omega)) λacc' M'' hl h''=>hq acc' M'' ?_ h'',λz=>by cases z⟩
  rw[hl,fe];show acc.length+1+xs.length=acc.length+(xs.length+1);omega
theorem C7(l:aB){v:Int}(h0:0<=v)(b:v<l.length):∃m∈l,∀{M:RM} {Q:ao},dR (.ls (l.map RV.str)) (.int v) M Q=Q (.str m) M:=by
 obtain⟨y,d,a⟩:=sE (xs:=l.map RV.str) h0 (by rw[ba];exact b)
 obtain⟨m,c,rfl⟩:=aP.mp d;exact⟨m,c,a⟩
theorem XQ{x:Addr}{g:bY}{le si:Str}(hx:M x=some g.l)(ok:g.In k)(hk:k<900000)(hle:le= "door"∨le= "place"∨le= "talk")(hsi:si= "all"∨si= "place"∨si= "talk")
 (hq:∀f g',Fm.Ok f->f.high=f.low+199->f.most=200->bY.In g' (k+7)->Q f.r (put M x g'.l)):aw (P e) (n+2) 68 [.ref x,.str le,.str si] M Q:=by
 rw[us (i:=68) (d:=xW) rfl];simp only[xW];walk_at "ev";refine iG hx ok (by omega) (by decide) (by decide) λv1 g1 a1 b1 ok1=>?_
 walk_at "ev";refine iG bF ok1 (by omega) (by decide) (by decide) λv2 g2 a2 b2 ok2=>?_
 walk_at "ev";refine iG bF ok2 (by omega) (by decide) (by decide) λv3 g3 a3 b3 ok3=>?_
 walk_at "ev";refine iG bF ok3 (by omega) (by decide) (by decide) λv4 g4 a4 b4 ok4=>?_
 walk_at "ev";refine iG bF ok4 (by omega) (by decide) (by decide) λv5 g5 a5 b5 ok5=>?_
 walk_at "ev";refine iG bF ok5 (by omega) (by decide) (by decide) λv6 g6 a6 b6 ok6=>?_
 obtain⟨y,hy,ey⟩:=sE (xs:=[.str "next",.str "keep"]) a6 b6;rw[ey];obtain⟨pk,rfl,hpk⟩:∃pk:Str,y= .str pk/\(pk= "next"∨pk= "keep"):=by
  simp only[fw,List.not_mem_nil,or_false]at hy;rcases hy with rfl|rfl
  . exact⟨_,rfl,.inl rfl⟩
  . exact⟨_,rfl,.inr rfl⟩
 walk_at "ev";refine iG bF ok6 (by omega) (by decide) (by decide) λv7 g7 a7 b7 ok7=>?_
 walk_at "ev";have:=hq ⟨1+v1,1+v1+199,le,si,pk,200,v7==1,1+v2,1+v3,1+v4,v5⟩ g7 ⟨by dsimp only;omega,by dsimp only;omega,by dsimp only;omega,by dsimp only;omega,hle,hsi,hpk,⟨by show(1:Int)<=200;decide,by show(200:Int)<=200;decide⟩,by dsimp only;omega,by dsimp only;omega,by dsimp only;omega,by dsimp only;omega⟩ rfl rfl (by have:=ok7;rw[show k+7=k+1+1+1+1+1+1+1 by omega];exact this)
 exact this
theorem VB{xs:List Int}(h0:0<=k)(f:k<1000)(hx:0<xs.length)(l:xs.length<1000)(b:∀p g,M p=none->bY.In g 0->Q (.ref p) (put M p g.l)):aw (P e) (n+2) 53 [.ls (xs.map RV.int),.int k] M Q:=by
 obtain⟨j,rfl⟩:∃j:Nat,k=j:=⟨k.toNat,by omega⟩
 rw[us (i:=53) (d:=xI) rfl];simp only[xI];walk_at "ev";rw[ba]
 by_cases h:j<xs.length
 . rw[ah (by simpa using h),i8 (v:=RV.int (xs.getD j 0)) (by simp[h])]
   walk_at "ev";exact yI λp a=>b p _ a yy
 . rw[ae (by simpa using h)]
   refine⟨by omega,?_⟩
   have c:j % xs.length<xs.length:=Nat.mod_lt _ hx;rw[show((j:Int) % (xs.length:Int))=((j % xs.length:Nat):Int)from by simp,i8 (v:=RV.int (xs.getD (j % xs.length) 0)) (by simp[c])]
   walk_at "ev";refine⟨by decide,by decide,yI λp a=>?_⟩
   unfold bY.l;walk_at "ev";refine⟨vP (by decide) (by decide),.inl ⟨by omega,by omega⟩,vP (by decide) (by decide),?_⟩
   generalize hw:vI _ 0=wb;have w:wb.In 0:=hw ▸ yy;exact b p ⟨wb.a,_ % _,wb.c⟩ a ⟨w.a,NJ,w.c⟩
def sW(lo hi:Int)(y:RV):Prop:=∃m:Int,y= .int m/\lo<=m/\m<=hi
def B7(y:RV):Prop:=∃h d:Int,y= .tup [.int h,.int d]/\(0<=h/\h<=99)/\(1<=d/\d<=9999)
theorem Mq{x:Addr}{g:bY}{k N:Int}(hN:0<N/\N<1073741824)(hx:M x=some g.l)(ok:g.In k)(hk:k<900000)(hq:∀acc g',acc.length=3->(∀y∈acc,sW 1 N y)->bY.In g' (k+3)->Q (.ls acc) (put M x g'.l)):
 gb (fv false 1) false cZ id (tr ((P e).Gn (n+1)) (.b true)).T (tr ((P e).Gn (n+1)) (.op .Add (.i 1) (.ca 52 (.ec (.v 1) (.ec (.i N) .e0))))).E [some (.ref x)] (nums 3) [] M Q:=by
 refine A1 (λacc M'=>(∀y∈acc,sW 1 N y)/\∃g':bY,M'=put M x g'.l/\g'.In (k+acc.length)) (λσ M K h=>h) (λ_ _ _=>fh) _ _ _ ⟨g8 _,g,(rK hx).symm,by show g.In (k+0);rwa [Int.add_zero]⟩ (λy hy acc M' hlt h=>?_) λacc' M' hl h=>?_
 . obtain⟨h1,g',rfl,h3⟩:=h
   refine⟨[y],rfl,λK hK=>?_⟩
   show(tr ((P e).Gn (n+1)) _).E [some y,some (.ref x)] _ K;have hlt:acc.length<3:=hlt;walk_at "ev";refine iG (n:=n) bF h3 (by omega) hN.1 hN.2 λv1 g1 a1 b1 o1=>?_
   rw[iD,p7];refine hK _ _ ⟨λz hz=>?_,g1,rfl,⟨o1.a,o1.b,o1.c.1,by have:=o1.c.2;rw[fe];show g1.c<=k+((acc.length+1:Nat):Int);omega⟩⟩
   rcases eS.mp hz with q|q
   . exact h1 z q
   . cases jc.mp q;exact⟨1+v1,rfl,by omega,by omega⟩
 . obtain⟨h1,g',rfl,h3⟩:=h
   have hl:acc'.length=3:=hl;rw[hl]at h3;rw[sA,id_eq];exact hq acc' g' hl h1 h3
theorem TB{x:Addr}{g:bY}(hx:M x=some g.l)(ok:g.In k)(hk:k<800000)
 (hq:∀(ds ps fs:LR) g',ds.length=3->(∀y∈ds,B7 y)->ps.length=3->(∀y∈ps,sW 1 1000000 y)->fs.length=3->(∀y∈fs,sW 1 9999 y)->bY.In g' (k+12)->Q (.tup [.ls ds,.ls ps,.ls fs]) (put M x g'.l)):aw (P e) (n+2) 27 [.ref x] M Q:=by
 rw[us (i:=27) (d:=xH) rfl];simp only[xH];walk_at "ev";unfold Je;rw[bP,Cg];dsimp only[List.set_cons_zero,List.set_cons_succ];walk_at "ev";refine⟨by decide,by decide,by decide,?_⟩
 refine A1 (λacc M'=>(∀y∈acc,B7 y)/\∃g':bY,M'=put M x g'.l/\g'.In (k+2*acc.length)) (λσ M K h=>h) (λ_ _ _=>fh) _ _ _ ⟨g8 _,g,(rK hx).symm,by show g.In (k+2*0);exact⟨ok.a,ok.b,ok.c.1,by have:=ok.c.2;omega⟩⟩ (λy hy acc M' hlt h=>?_) λacc' M' hl h=>?_
 . obtain⟨h1,g',rfl,h3⟩:=h
   refine⟨[y],rfl,λK hK=>?_⟩
   show(tr ((P e).Gn (n+1)) _).E [some y,some (.ref x)] _ K;have hlt:acc.length<3:=hlt;walk_at "ev";refine iG (n:=n) bF h3 (by omega) (by decide) (by decide) λv1 g1 a1 b1 o1=>?_
   rw[iD];refine iG (n:=n) bF o1 (by omega) (by decide) (by decide) λv2 g2 a2 b2 o2=>?_
   rw[iD,p7];refine hK _ _ ⟨λz hz=>?_,g2,rfl,⟨o2.a,o2.b,o2.c.1,by have:=o2.c.2;rw[fe];show g2.c<=k+2*((acc.length+1:Nat):Int);omega⟩⟩
   rcases eS.mp hz with q|q
   . exact h1 z q
   . cases jc.mp q;exact⟨v1,1+v2,rfl,⟨a1,by omega⟩,by omega,by omega⟩
 . obtain⟨h1,g',rfl,h3⟩:=h
   have hl:acc'.length=3:=hl;rw[hl]at h3;have h3:g'.In (k+6):=h3;rw[sA,id_eq];unfold Jd;rw[bP,Cg];dsimp only[List.set_cons_zero,List.set_cons_succ];walk_at "ev";refine⟨by decide,by decide,by decide,Mq (by decide) bF h3 (by omega) λps g2 l2 p2 o2=>?_⟩
   rw[iD];unfold Jc;walk_at "ev";refine⟨by decide,by decide,by decide,Mq (by decide) bF o2 (by omega) λfs g3 l3 p3 o3=>?_⟩
   rw[iD];exact hq acc' ps fs g3 hl h1 l2 p2 l3 p3 ⟨o3.a,o3.b,o3.c.1,by have:=o3.c.2;omega⟩
end
section
variable {e:Env}{n:Nat}{M M0 L:RM}{Q:ao}{f:Fm}{R:Rl}{k:Nat}{c:Cn}{tl tl':List Tk}{E:List (TK×(Int×Int))}{g w x:Addr}{i:bG}{m q:Int}{v:RV}{T:Tk}
noncomputable def pR (x:Int×Int):RV:=.tup [.int x.1,.int x.2]
noncomputable def eW (E:List (TK×(Int×Int))):List (TK×RV):=enc id pR E
noncomputable def wK (k:Str)(m p f:Int):TK:=[some (.inr k),some (.inl m),some (.inl p),some (.inl f)]
noncomputable def wA (T:Tk):TK:=wK T.i.kind T.m T.i.place T.i.far
def Mi(tl:List Tk)(E:List (TK×(Int×Int))):Prop:=∀T∈tl,lk E (wA T)=some (T.i.house,T.i.door)
theorem XW{k k':Str}{m p f b d a:Int}(h:wK k m p f=wK k' b d a):k=k'/\m=b/\p=d/\f=a:=by
 unfold wK at h;simp only[List.cons.injEq,j7,Sum.inr.injEq,Sum.inl.injEq,and_true]at h;exact h
structure Tn(e:Env)(M0 L:RM)(g w:Addr)(f:Fm)(R:Rl)(k:Nat)(c:Cn)(tl:List Tk)(E:List (TK×(Int×Int))):Prop where
 gt:Gt e g f R k c tl M0 L
 ow:M0 w=some (.dt (eW E))
 mi:Mi tl E
 le:E.length<=k
 lp:M0 e.lP=some (cD e)
theorem Tn.new(h:Tn e M0 L g w f R k c tl E)(hx:L x=none):Tn e (put M0 x r) (put L x r) g w f R k c tl E:=by
 have a:∀y u,M0 y=some u->y≠x:=λy u b z=>by have:=h.gt.at_ b;rw[z,hx]at this;cases this
 exact⟨h.gt.new hx,(put_ne (a _ _ h.ow)).trans h.ow,h.mi,h.le,(put_ne (a _ _ h.lp)).trans h.lp⟩
theorem Tn.lst{l1 l2:LR}(h:Tn e M0 L g w f R k c tl E)(hx:M0 x=some (.lst l1)):Tn e (put M0 x (.lst l2)) (put L x (.lst l2)) g w f R k c tl E:=by
 have a:w≠x:=λz=>by have:=h.ow;rw[z,hx]at this;cases this
 have b:e.lP≠x:=λz=>by have:=h.lp;rw[z,hx]at this;cases this
 exact⟨h.gt.other hx,(put_ne a).trans h.ow,h.mi,h.le,(put_ne b).trans h.lp⟩
theorem Tn.draw{o:bY}(h:Tn e M0 L g w f R k c tl E)(hx:M0 x=some o.l)(F:o.In q)(t:q<999999)(z:0<m)(d:m<1073741824)
 (A:∀v b a j,0<=v->v<m->bY.In b (q+1)->Tn e a j g w f R k c tl E->a x=some b.l->(∀y l,y≠x->M0 y=some (.lst l)->a y=some (.lst l))->Q (.int v) j):aw (P e) (n+1) 52 [.ref x,.int m] L Q:=
 iG (h.gt.at_ hx) F t z d λv b r s D=>A v b _ _ r s D (h.lst hx) bF λy l C u=>(put_ne C).trans u
theorem Mi.sub(h:Mi tl E)(s:∀T∈tl',∃U∈tl,U.i=T.i/\U.m=T.m):Mi tl' E:=λT b=>by
 obtain⟨U,d,e1,a⟩:=s T b;have:=h U d;unfold wA at this ⊢;rw[e1,a]at this;exact this
theorem Gt.od(h:Gt e g f R k c tl M0 L):∀T∈tl,∀U∈tl,T.m=U.m->bo T.i=bo U.i->T=U:=by
 obtain⟨_,a,M,G,_⟩:=h;exact G.od
theorem Mi.new(h:Mi tl E)(y:∀T∈tl',∀U∈tl',T.m=U.m->bo T.i=bo U.i->T=U)(s:fX i m tl tl'):Mi tl' (pt E (wK i.kind m i.place i.far) (i.house,i.door)):=λT a=>by
 obtain⟨⟨V,u,b,D⟩,s⟩:=s
 by_cases z:wA T=wK i.kind m i.place i.far
 . obtain⟨d,j,l,o⟩:=XW z
   have:T=V:=y T a V u (j.trans D.symm) (by show oK _ _ _=oK _ _ _;rw[d,l,o,b])
   rw[z,BW,this,b]
 . rw[Vj z]
   rcases s T a with⟨A,C⟩|⟨U,t,e1,r⟩
   . exact aS (by unfold wA;rw[A,C]) z
   . have:=h U t
     unfold wA at this ⊢;rw[e1,r]at this;exact this
theorem NR{κ b:Type}[DecidableEq κ]{l:List (κ×b)}{a:κ}{y:b}(h:l.length<=k):(pt l a y).length<=k+1:=bQ Ma (Nat.succ_le_succ h)
structure Wd(R:Rl)(ds ps fs:LR):Prop where
 ld:ds.length=3
 hd:∀y∈ds,B7 y
 d0:∃r,ds= .tup [.int R.house,.int R.door]::r
 lp:ps.length=3
 ap:∀y∈ps,sW 1 1000000 y
 lf:fs.length=3
 af:∀y∈fs,sW 1 9999 y
noncomputable abbrev wR (ds ps fs:LR):RV:=.tup [.ls ds,.ls ps,.ls fs]
structure Gl(e:Env)(f:Fm)(R:Rl):Prop where
 tb:Tb e
 ck:f.Ok
 hw:f.high=f.low+199
 mo:f.most=200
 ro:R.Out f
 rm:1<=R.m/\R.m<=9999
 rh:0<=R.house/\R.house<=99
 rd:1<=R.door/\R.door<=9999
theorem nO{xs:LR}{p:RV->Prop}{v:Int}(d:xs.length=3)(h:∀y∈xs,p y)(h0:0<=v)(b:v<3):∃y,p y/\∀{M:RM} {Q:ao},dR (.ls xs) (.int v) M Q=Q y M:=by
 obtain⟨y,j,a⟩:=sE (xs:=xs) h0 (by rw[d];exact b)
 exact⟨y,h y j,a⟩
theorem Aq{v:Int}(h0:0<=v)(b:v<2):∃k,Kd k/\∀{M:RM} {Q:ao},dR (.ls [.str "note",.str "line"]) (.int v) M Q=Q (.str k) M:=by
 obtain⟨y,d,a⟩:=C7 ["note","line"] h0 b;exact⟨y,by unfold Kd;simpa using d,a⟩
end
section
variable {e:Env}{n:Nat}{M M0 L:RM}{Q:ao}{f:Fm}{R:Rl}{k:Nat}{c:Cn}{tl tl':List Tk}{E:List (TK×(Int×Int))}{g w x:Addr}{i:bG}{m q h d p far:Int}{v:RV}{T:Tk}{kd:Str}{ds ps fs:LR}
abbrev Kt(e:Env)(g w:Addr)(f:Fm)(R:Rl)(k:Nat)(Q:RM->Prop):Prop:=∀a b l tl' j,Tn e a b g w f R k l tl' j->Q b
theorem qj{a b:LR}(o1:aA 16 (.tup a)=true)(l:aA 16 (.tup b)=true)(h:bc (.tup a) (.tup b)=r)(j:Q (.bl r) M):eC .Eq (.tup a) (.tup b) M Q:=by
 show aA 16 (.tup a)=true/\aA 16 (.tup b)=true/\Q (.bl (bc (.tup a) (.tup b))) M;rw[h];exact⟨o1,l,j⟩
theorem DA(a:Gt e g f R (k+1) c tl' M0 L)(b:M0 w=some (.dt (eW E)))(l:Mi tl E)(le:E.length<=k)(lp:M0 e.lP=some (cD e))(r:k<64)(op:wq i tl v tl')(j:Kt e g w f R (k+1) (Q (.bl true))):
 (tr ((P e).Gn (n+10)) zB).S (rd Q) [some bg,some (.ref w),some (.ref g),some ww,some (.str i.kind),some (.int i.place),some (.int i.far),some v,some ds',some ps',some fs',some (.int i.house),some (.int i.door)] L:=by
 rcases op with⟨rfl,rfl⟩|⟨m,rfl,s⟩
 . unfold zB;walk_at "ev"
   unfold CD;walk_at "ev";rw[ae (by decide+kernel)]
   unfold CC;walk_at "ev";rw[ae (by decide+kernel)]
   exact qj (by decide+kernel) (by decide+kernel) (by decide+kernel) (j _ _ _ _ _ ⟨a,b,l,qS le,lp⟩)
 . unfold zB;walk_at "ev"
   unfold CD;walk_at "ev";unfold LY;walk_at "ev";have o:=a.at_ b;have e1:pt (eW E) (wK i.kind m i.place i.far) (pR (i.house,i.door))=eW (pt E (wK i.kind m i.place i.far) (i.house,i.door)):=jU (g:=id) i7;rw[o,qd (show _=some (wK i.kind m i.place i.far)from rfl)]
   refine⟨by unfold eW;rw[gP];exact eG (gG le r) (by decide),?_⟩
   rw[show RV.tup [.int i.house,.int i.door]=pR (i.house,i.door)from rfl,e1]
   walk_at "ev";unfold CC;walk_at "ev";have t:e.lP≠w:=λz=>by have:=lp;rw[z,b]at this;cases this
   exact j _ _ _ _ _ ⟨a.other b,bF,l.new a.od s,NR le,(put_ne t).trans lp⟩
theorem OT(G:Tn e M0 L g w f R k c tl E)(b:Gl e f R)(t:k<64)(l:i.Ok)(u:Kt e g w f R (k+1) (Q (.bl true))):
 (tr ((P e).Gn (n+10)) CF).S (rd Q) [some bg,some (.ref w),some (.ref g),some ww,some (.str i.kind),some (.int i.place),some (.int i.far),none,some ds',some ps',some fs',some (.int i.house),some (.int i.door)] L:=by
 obtain⟨_,_,_,C⟩:=G.gt.gate;obtain⟨kd,j,dd,o,a⟩:=i;have fin:∀y,Wo kd y->∀K:ao,(∀v s tl' r,Gt e g f R (k+1) s tl' M0 r->wq ⟨kd,j,dd,o,a⟩ tl v tl'->K v r)->aw (P e) (n+10) 84 [.ref g,.str kd,.int j,.int dd,.int o,.int a,.str y,.str ""] L K:=λwd h K A=>G.gt.out (i:=⟨kd,j,dd,o,a⟩) b.tb b.ck b.ro b.hw b.mo (by omega) l h A
 unfold CF;walk_at "z";rw[C];walk_at "ev";rcases id l.kind with z|z
 . replace z:kd= "note":=z
   subst z;rw[ah (by decide+kernel)]
   exact fin _ (.inl ⟨rfl,rfl⟩) _ λv s tl' r gt op=>DA (i:=⟨"note",j,dd,o,a⟩) gt G.ow G.mi G.le G.lp t op u
 . replace z:kd= "line":=z
   subst z;rw[ae (by decide+kernel)]
   exact fin _ (.inr ⟨rfl,rfl⟩) _ λv s tl' r gt op=>DA (i:=⟨"line",j,dd,o,a⟩) gt G.ow G.mi G.le G.lp t op u
theorem WU{u:bY}(G:Tn e M0 L g w f R k c tl E)(z:Gl e f R)(o:Wd R ds ps fs)(F:k<64)(a:M0 x=some u.l)(b:u.In q)(J:q<900000)(I:Kt e g w f R (k+1) (Q (.bl true))):
 aw (P e) (n+11) 74 [.ref x,.ref w,.ref g,wR ds ps fs] L Q:=by
 rw[us (i:=74) (d:=xG) rfl];simp only[xG];unfold IB;walk_at "ev";unfold IA;walk_at "z";refine G.draw a b (by omega) (by decide) (by decide) λv1 s M1 r j b1 b G a _=>?_
 obtain⟨kd,t,l⟩:=Aq j b1;rw[l];unfold Iz;walk_at "ev";refine G.draw a b (by omega) (by decide) (by decide) λv1 s M1 r j b1 b G a _=>?_
 obtain⟨y,⟨h,d,rfl,A,C⟩,l⟩:=nO o.ld o.hd j b1;rw[l];walk_at "ev";unfold Iy;walk_at "z";refine G.draw a b (by omega) (by decide) (by decide) λv1 s M1 r j b1 b G a _=>?_
 obtain⟨y,⟨p,rfl,H⟩,l⟩:=nO o.lp o.ap j b1;rw[l];unfold GB;walk_at "z";refine G.draw a b (by omega) (by decide) (by decide) λv1 s M1 r j b1 b G a _=>?_
 obtain⟨y,⟨far,rfl,D⟩,l⟩:=nO o.lf o.af j b1;rw[l];exact OT (i:=⟨kd,h,d,p,far⟩) G z F ⟨t,A,C,H,D⟩ I
theorem DB(a:Gt e g f R (k+1) c tl' M0 L)(b:M0 w=some (.dt (eW E)))(l:Mi tl E)(le:E.length<=k)(lp:M0 e.lP=some (cD e))(s:k<64)(C:Wd R ds ps fs)(hi:i.house=R.house/\i.door=R.door)(op:sJ R i tl v tl')(j:Kt e g w f R (k+1) (Q (.bl true))):
 (tr ((P e).Gn (n+10)) zA).S (rd Q) [some bg,some (.ref w),some (.ref g),some ww,some (.int R.m),some (.str i.kind),some (.int i.place),some (.int i.far),some v,some (.ls ds),some ps',some fs'] L:=by
 obtain⟨r,rfl⟩:=C.d0;rcases op with⟨op,rfl⟩|⟨rfl,t⟩
 . have hx:∃z:Str,v=kept z/\(z= "astray"∨z= "clash"):=by
    rcases op with rfl|rfl
    . exact⟨_,rfl,.inl rfl⟩
    . exact⟨_,rfl,.inr rfl⟩
   obtain⟨z,rfl,u⟩:=hx;unfold zA;walk_at "ev";rw[ae (by decide+kernel)]
   unfold CA;walk_at "ev";have y:(("kept":Str)== "in")=false:=by decide+kernel
   refine qj rfl rfl (r:=false) (by simp only[bc,eO,y,Bool.false_and]) ?_
   rw[Bv,ae (by decide)]
   refine⟨rfl,rfl,?_⟩;rw[ae (by decide),show inR (kept z) [.tup [.str "kept",.str "clash"],.tup [.str "kept",.str "astray"]]=true by rcases u with rfl|rfl<;>decide+kernel]
   exact j _ _ _ _ _ ⟨a,b,l,qS le,lp⟩
 . unfold zA;walk_at "ev"
   unfold LX;walk_at "ev";have o:=a.at_ b;have e1:pt (eW E) (wK i.kind R.m i.place i.far) (pR (i.house,i.door))=eW (pt E (wK i.kind R.m i.place i.far) (i.house,i.door)):=jU (g:=id) i7;rw[o,qd (show _=some (wK i.kind R.m i.place i.far)from rfl)]
   refine⟨by unfold eW;rw[gP];exact eG (gG le s) (by decide),?_⟩
   rw[show RV.tup (gu [RV.str "in",RV.int i.house,RV.int i.door] (some 1) none)=pR (i.house,i.door)from rfl,e1]
   walk_at "ev";unfold CA;walk_at "ev";refine qj rfl rfl (r:=true) (by simp only[bc,eO,hi.1,hi.2,beq_self_eq_true,wJ]) ?_
   rw[Bv,ah rfl];have A:e.lP≠w:=λz=>by have:=lp;rw[z,b]at this;cases this
   exact j _ _ _ _ _ ⟨a.other b,bF,l.new a.od t,NR le,(put_ne A).trans lp⟩
theorem OU(G:Tn e M0 L g w f R k c tl E)(a:Gl e f R)(t:Wd R ds ps fs)(o:k<64)(b:Kd kd)(A:1<=p/\p<=1000000)(y:1<=far/\far<=9999)(r:Kt e g w f R (k+1) (Q (.bl true))):
 (tr ((P e).Gn (n+10)) CB).S (rd Q) [some bg,some (.ref w),some (.ref g),some ww,some (.int R.m),some (.str kd),some (.int p),some (.int far),none,some (.ls ds),some ps',some fs'] L:=by
 obtain⟨_,_,_,z⟩:=G.gt.gate;have fin:∀s,Wo kd s->∀K:ao,(∀v l tl' j,Gt e g f R (k+1) l tl' M0 j->sJ R ⟨kd,R.house,R.door,p,far⟩ tl v tl'->K v j)->aw (P e) (n+10) 83 [.ref g,.str kd,.int p,.int far,.int R.m,.str s,.str ""] L K:=λw2 h K u=>G.gt.come (i:=⟨kd,R.house,R.door,p,far⟩) a.tb a.ck a.ro a.rm (by omega) ⟨rfl,rfl⟩ ⟨b,a.rh,a.rd,A,y⟩ h u
 unfold CB;walk_at "z";rw[z];walk_at "ev";rcases b with rfl|rfl
 . rw[ah (by decide+kernel)]
   exact fin _ (.inl ⟨rfl,rfl⟩) _ λv l tl' j gt op=>DB (i:=⟨"note",R.house,R.door,p,far⟩) gt G.ow G.mi G.le G.lp o t ⟨rfl,rfl⟩ op r
 . rw[ae (by decide+kernel)]
   exact fin _ (.inr ⟨rfl,rfl⟩) _ λv l tl' j gt op=>DB (i:=⟨"line",R.house,R.door,p,far⟩) gt G.ow G.mi G.le G.lp o t ⟨rfl,rfl⟩ op r
theorem Xv{t:bY}(G:Tn e M0 L g w f R k c tl E)(z:Gl e f R)(o:Wd R ds ps fs)(C:k<64)(a:M0 x=some t.l)(b:t.In q)(H:q<900000)(F:Kt e g w f R (k+1) (Q (.bl true))):
 aw (P e) (n+11) 77 [.ref x,.ref w,.ref g,wR ds ps fs,.int R.m] L Q:=by
 rw[us (i:=77) (d:=x3) rfl];simp only[x3];unfold GA;walk_at "ev";unfold Gz;walk_at "z";refine G.draw a b (by omega) (by decide) (by decide) λv1 u M1 s j b1 b G a _=>?_
 obtain⟨kd,r,l⟩:=Aq j b1;rw[l];unfold Gy;walk_at "z";refine G.draw a b (by omega) (by decide) (by decide) λv1 u M1 s j b1 b G a _=>?_
 obtain⟨y,⟨p,rfl,D⟩,l⟩:=nO o.lp o.ap j b1;rw[l];unfold Gx;walk_at "z";refine G.draw a b (by omega) (by decide) (by decide) λv1 u M1 s j b1 b G a _=>?_
 obtain⟨y,⟨far,rfl,A⟩,l⟩:=nO o.lf o.af j b1;rw[l];exact OU G z o C r D A F
end
section
variable {e:Env}{n:Nat}{M M0 L:RM}{Q:ao}{f:Fm}{R:Rl}{k:Nat}{c:Cn}{tl tl':List Tk}{E:List (TK×(Int×Int))}{g w x:Addr}{i:bG}{m q h d p far t:Int}{v:RV}{T:Tk}{kd:Str}{ds ps fs:LR}
theorem mX:∀n x,aA n x=true->bc x x=true
 |_,.aq,_=>by simp[bc]
 |_,.bl _,_=>by simp[bc]
 |_,.int _,_=>by simp[bc]
 |_,.str _,_=>by simp[bc]
 |n+1,.tup xs,h=>by
  have h:xs.all (aA n)=true:=h;unfold bc
  induction xs with
  |nil=>simp[eO]
  |cons x xs ih=>rw[fb,aY]at h;unfold eO;rw[mX n x h.1,ih h.2 h.2];rfl
 |n+1,.ls xs,h=>by
  have h:xs.all (aA n)=true:=h;unfold bc
  induction xs with
  |nil=>simp[eO]
  |cons x xs ih=>rw[fb,aY]at h;unfold eO;rw[mX n x h.1,ih h.2 h.2];rfl
 |0,.tup _,h=>by simp[aA]at h
 |0,.ls _,h=>by simp[aA]at h
 |_,.ref _,h=>by simp[aA]at h
 |_,.ty _,h=>by simp[aA]at h
theorem qyy{a:bB}{n:Nat}:aA n (oR a)=true:=by rcases a with _|(_|_)<;>(cases n<;>rfl)
theorem LJ{n:Nat}:aA (n+1) (bu r)=true:=by
 show(r.map oR).all (aA n)=true;rw[tq,dw];exactλx _=>qyy
theorem Br{rs:List TK}{n:Nat}:aA (n+2) (.ls (rs.map bu))=true:=by
 show(rs.map bu).all (aA (n+1))=true;rw[tq,dw];exactλx _=>LJ
theorem Va{n:Nat}:aA (n+2) (.ls (yE c))=true:=by
 show(yE c).all (aA (n+1))=true;rw[dw];intro y a;obtain⟨z,b,rfl⟩:=aP.mp a;obtain⟨i,_,rfl⟩:=aP.mp (eR.mp b).1;cases n<;>rfl
noncomputable def BD (f:Fm)(c:Cn)(tl:List Tk):RV:=.ls [.ls ((dj tl).map bu),.ls ((MJ c).map bu),.ls (yE c),.int ((pS f c).many c.now),.int c.now]
theorem Vb:aA 16 (BD f c tl)=true:=by
 show(_&&(_&&(_&&(_&&(_&&_)))))=true;rw[Br,Br,Va];rfl
theorem qzm{a:LR}(o:aA 16 (.ls a)=true)(b:Q (.bl true) M):eC .Eq (.ls a) (.ls a) M Q:=by
 show aA 16 (.ls a)=true/\aA 16 (.ls a)=true/\Q (.bl (bc (.ls a) (.ls a))) M;rw[mX _ _ o];exact⟨o,o,b⟩
theorem rW(h:r∈dj tl):∃T∈tl,r=gU T:=by
 obtain⟨T,a,rfl⟩:=aP.mp ((rH _).mem_iff.mp h);exact⟨T,a,rfl⟩
theorem Zp(h:T∈tl):gU T∈dj tl:=(rH _).mem_iff.mpr (aP.mpr ⟨T,h,rfl⟩)
theorem mS:bu (gU T)= .tup [.str T.i.kind,.int T.m,.int T.i.house,.int T.i.door,.int T.i.place,.int T.i.far,.str T.st,.int T.ov]:=rfl
noncomputable abbrev wc (kd:Str) (m p q:Int):RV:=.tup [.str kd,.int m,.int p,.int q]
noncomputable def Z9 (T:Tk):RV:=.tup [.str "told",.int T.i.house,.int T.i.door]
def Mt(T:Tk)(kd:Str)(m p q:Int):Prop:=T.i.kind=kd/\T.m=m/\T.i.place=p/\T.i.far=q
def za(tl:List Tk)(kd:Str)(m p q:Int)(a:LR)(v:RV):Prop:=(v=kept "nobody"/\∀T,bu (gU T)∈a->¬Mt T kd m p q)∨∃T∈tl,Mt T kd m p q/\v=Z9 T
theorem Vm(h:bu (gU T)=bu (gU U)):T.i=U.i/\T.m=U.m:=by
 rw[mS,mS]at h;injection h with h
 injection h with a h
 injection h with r h
 injection h with b h
 injection h with j h
 injection h with l h
 injection h with o h
 injection a with a
 injection r with r
 injection b with b
 injection j with j
 injection l with l
 injection o with o
 refine⟨?_,r⟩;cases hT:T.i;cases hU:U.i;rw[hT,hU]at a b j l o;dsimp only at a b j l o;subst a b j l o;rfl
theorem OW{D:RD}{a:LR}(hr:∀y∈a,∃T∈tl,y=bu (gU T)){N O X Y Z a7:RV}{j u A C l o s F:Option RV}(hq:∀j v,za tl kd m p q a v->(tr ((P e).Gn n) zy).S D [some N,some O,some X,some (.ls a),some Y,some (wc kd m p q),some Z,some a7,some v,j,u,A,C,l,o,s,F] L):
 (tr ((P e).Gn n) C9).S D [some N,some O,some X,some (.ls a),some Y,some (wc kd m p q),some Z,some a7,some (kept "nobody"),j,u,A,C,l,o,s,F] L:=by
 unfold C9;walk_at "ev";refine Bf (λys σ M=>M=L/\∃b j v,a=b++ys/\za tl kd m p q b v/\σ= [some N,some O,some X,some (.ls a),some Y,some (wc kd m p q),some Z,some a7,some v,j,u,A,C,l,o,s,F]) (λ_ _ _ _=>fh) (λσ M h=>?_) (λy ys σ M W h hW=>?_) _ _ _ ⟨rfl,[],j,kept "nobody",rfl,.inl ⟨rfl,λT h=>by cases h⟩,rfl⟩
 . obtain⟨rfl,b,j,v,H,J,rfl⟩:=h
   rw[oE]at H;rw[<-H]at J;have:=hq j v J;dsimp only;exact this
 . obtain⟨rfl,b,j,v,H,J,rfl⟩:=h
   obtain⟨T,hT,rfl⟩:=hr y (by rw[H];exact eS.mpr (.inr (.head _)))
   unfold ja;walk_at "ev";unfold MB;rw[mS];walk_at "ev";have I:a=(b++ [bu (gU T)])++ys:=by rw[H,List.append_assoc];rfl
   by_cases z:Mt T kd m p q
   . refine qj rfl rfl (r:=true) (by obtain⟨z1,z2,z3,z4⟩:=z;simp only[bc,eO,z1,z2,z3,z4,beq_self_eq_true,wJ]) ?_
     rw[qe,ah rfl];unfold Ky;walk_at "z";exact hW _ _ ⟨rfl,_,_,_,I,.inr ⟨T,hT,z,rfl⟩,rfl⟩
   . refine qj rfl rfl (r:=false) ?_ ?_
     . rw[<-Bool.not_eq_true]
       intro h;simp only[bc,eO,aY,eQ,and_true]at h;exact z h
     . rw[qe,ae (by decide)]
       refine hW _ _ ⟨rfl,_,_,_,I,J.imp_left λh=>⟨h.1,λU hU=>?_⟩,rfl⟩
       rcases eS.mp hU with y|y
       . exact h.2 U y
       . obtain⟨e1,e2⟩:=Vm (jc.mp y)
         unfold Mt;rw[e1,e2];exact z
theorem Vh(z:∀T∈tl,∀U∈tl,T.m=U.m->bo T.i=bo U.i->T=U)(a:B6 tl kd m p q v1)(b:za tl kd m p q ((dj tl).map bu) v2):v1=v2:=by
 have mt:∀{T:Tk},Mt T kd m p q->T.m=m/\bo T.i=oK kd p q:=λ{T} h=>⟨h.2.1,by show oK _ _ _=_;rw[h.1,h.2.2.1,h.2.2.2]⟩
 rcases a with⟨rfl,a⟩|⟨T,j,o,r,rfl⟩<;>rcases b with⟨rfl,b⟩|⟨U,l,u1,rfl⟩
 . rfl
 . exact aS (mt u1).2 (a U l (mt u1).1)
 . obtain⟨s,u,y⟩:=LI r
   exact aS ⟨s,o,u,y⟩ (b T (aP.mpr ⟨_,Zp j,rfl⟩))
 . rw[z T j U l (o.trans (mt u1).1.symm) (r.trans (mt u1).2.symm)];rfl
theorem OX(G:Tn e M0 L g w f R k c tl E)(s:Gl e f R)(Z:k<63)(u:Kd kd)(X:1<=t/\t<=1000000)(O:1<=m/\m<=9999)(U:1<=p/\p<=1000000)(y:1<=q/\q<=9999)(N:za tl kd m p q ((dj tl).map bu) v){D F H I:RV}{Y l o r A:Option RV}(W:Kt e g w f R (k+1) (Q (.bl true))):
 (tr ((P e).Gn (n+10)) zy).S (rd Q) [some D,some (.ref g),some F,some (.ls ((dj tl).map bu)),some H,some (wc kd m p q),some I,some (.int t),some v,Y,none,none,none,l,o,r,A] L:=by
 obtain⟨_,_,_,j⟩:=G.gt.gate;have od:=G.gt.od;unfold zy;walk_at "z";rw[j];walk_at "ev";refine G.gt.lends (by omega) ?_
 rw[j];walk_at "ev";refine G.gt.rests (by omega) ?_
 rw[j];walk_at "ev";refine G.gt.free s.ck ?_;rw[j];walk_at "ev";refine G.gt.moment ?_;unfold Oa;walk_at "z";rw[j];walk_at "ev";refine G.gt.lost s.tb (by omega) u X O U y λv' C x gt lp=>?_
 have ev:=Vh od lp N;subst ev;obtain⟨_,_,_,b⟩:=gt.gate;unfold N9;walk_at "z";rw[b];walk_at "ev";refine gt.talks (by omega) ?_
 rw[b];walk_at "ev";refine gt.lends (by omega) ?_
 rw[b];walk_at "ev";refine gt.rests (by omega) ?_
 rw[b];walk_at "ev";refine gt.free s.ck ?_;rw[b];walk_at "ev";refine gt.moment ?_;unfold N8;walk_at "ev";obtain⟨a,J,z⟩:∃a,v'= .tup a/\aA 16 (.tup a)=true:=by
  rcases lp with⟨rfl,_⟩|⟨T,_,_,_,rfl⟩<;>exact⟨_,rfl,rfl⟩
 rw[J];refine qj z z (mX _ _ z) ?_;rw[iF,ah rfl];show eC .Eq (BD f c tl) (BD f c tl) C Q;exact qzm Vb (W _ _ _ _ _ ⟨gt,G.ow,G.mi,qS G.le,G.lp⟩)
def yH(y:RV):Prop:=∃(kd:Str) (m p q:Int),y=wc kd m p q/\Kd kd/\(1<=m/\m<=9999)/\(1<=p/\p<=1000000)/\(1<=q/\q<=9999)
theorem Gt.qF(h:Gt e g f R k c tl M0 L)(a:Gl e f R)(b:T∈tl):T.i.Ok/\1<=T.m/\T.m<=9999:=by
 obtain⟨_,j,M,G,_⟩:=h;exact⟨(G.ws T b).2,G.qE a.ck a.rm b⟩
theorem B5(o:aA 16 (.ls xs)=true)(a:Q (.bl (!xs.isEmpty)) M):eC .NotEq (.ls xs) (.ls []) M Q:=by
 show aA 16 (.ls xs)=true/\aA 16 (.ls [])=true/\Q (.bl (!bc (.ls xs) (.ls []))) M;rw[show bc (.ls xs) (.ls [])=xs.isEmpty by cases xs<;>simp[bc,eO]]
 exact⟨o,rfl,a⟩
theorem Xe{s:Addr}(h:M s=some (.lst xs)):wZ "tuple" [.ref s] M Q=Q (.tup xs) M:=by
 show(match M s with|some (.lst xs)=>Q (.tup xs) M|_=>False)=_
 rw[h]
theorem RP{D:RD}{g1:bY}(G:Tn e M0 L g w f R k c tl E)(gl:Gl e f R)(hk:k<63)(W:M0 x=some g1.l)(ok:g1.In 10)(hne:dj tl≠[])(ho:yH o){b:Int}(hb0:0<=b/\b<=4)
 (hq:∀H L' Y z16 y C,Tn e H L' g w f R k c tl E->H x=some (bY.l C)->C.In 11->yH y->D.nx [some (.ref x),some (.ref g),some a2,some (.ls ((dj tl).map bu)),some a4,some y,some (.int b),none,none,Y,none,none,none,a13,a14,a15,z16] L'):
 (tr ((P e).Gn (n+10)) Bn).S D [some (.ref x),some (.ref g),some a2,some (.ls ((dj tl).map bu)),some a4,some o,some (.int b),none,none,none,none,none,none,a13,a14,a15,none] L:=by
 have hlen:(dj tl).length=tl.length:=by unfold dj;rw[(rH _).length_eq,ba]
 have hl0:0<(dj tl).length:=List.length_pos_iff.mpr hne;have hl1:tl.length<=k:=by obtain⟨_,ad,M,G1,_⟩:=G.gt;exact G1.s0
 unfold Bn;walk_at "z";rw[ba];refine G.draw W ok (by decide) (by omega) (by omega) λv1 C M1 L1 a1 b1 ok G W _=>?_
 obtain⟨y,hy,ey⟩:=sE (xs:=(dj tl).map bu) a1 (by rw[ba];exact b1)
 rw[ey];obtain⟨r,hr,rfl⟩:=aP.mp hy;obtain⟨T,hT,rfl⟩:=rW hr;obtain⟨a,X⟩:=G.gt.qF gl hT;rw[mS];unfold LW;walk_at "z";intro s hs;have nx:x≠s:=λz=>by have:=G.gt.at_ W;rw[z,hs]at this;cases this
 have G:=G.new (r:=.lst [.str T.i.kind,.int T.m,.int T.i.place,.int T.i.far]) hs;have F:put M1 s (.lst [.str T.i.kind,.int T.m,.int T.i.place,.int T.i.far]) x=some C.l:=(put_ne nx).trans W;have j:put M1 s (.lst [.str T.i.kind,.int T.m,.int T.i.place,.int T.i.far]) s=some (.lst [.str T.i.kind,.int T.m,.int T.i.place,.int T.i.far]):=bF;obtain⟨kd,m,p,q,rfl,hkd,hm,hp,hqq⟩:=ho;generalize put M1 s (.lst [.str T.i.kind,.int T.m,.int T.i.place,.int T.i.far])=M2 at G F j;generalize put L1 s (.lst [.str T.i.kind,.int T.m,.int T.i.place,.int T.i.far])=L2 at G ⊢;have fin:∀{O Z:RM} {A:Str} {I J N:Int} {o Y:RV},Tn e O Z g w f R k c tl E->O x=some C.l->O s=some (.lst [.str A,.int I,.int J,.int N])->Kd A->(1<=I/\I<=9999)->(1<=J/\J<=1000000)->(1<=N/\N<=9999)->
  (tr ((P e).Gn (n+10)) Bm).S D [some (.ref x),some (.ref g),some a2,some (.ls ((dj tl).map bu)),some a4,some o,some (.int b),none,none,some Y,none,none,none,a13,a14,a15,some (.ref s)] Z:=λ{O Z A I J N o Y} G h1 h2 k1 k2 k3 k4=>by
  unfold Bm;walk_at "z";rw[Xe (G.gt.at_ h2)]
  (try walk_at "ev")
  exact hq _ _ _ _ _ C G h1 ok ⟨A,I,J,N,rfl,k1,k2,k3,k4⟩
 have U:=G.gt.at_ j;have u:∀l:LR,put M2 s (.lst l) x=some C.l:=λl=>(put_ne nx).trans F
 unfold LU;walk_at "ev";obtain⟨c1,c2⟩:=hb0;have hbs:b=0∨b=1∨b=2∨b=3∨b=4:=by omega
 rcases hbs with rfl|rfl|rfl|rfl|rfl
 . rw[ae (by decide)]
   exact fin G F j a.kind X a.place a.far
 . rw[ah (by decide),show bE [RV.str kd,.int m,.int p,.int q] (1-1)=some (.str kd)from rfl,mV,U,yD]
   show wO (some 0) _;rw[mV];exact fin (G.lst j) (u _) bF hkd X a.place a.far
 . rw[ah (by decide),show bE [RV.str kd,.int m,.int p,.int q] (2-1)=some (.int m)from rfl,mV,U,yD]
   show wO (some 1) _;rw[mV];exact fin (G.lst j) (u _) bF a.kind hm a.place a.far
 . rw[ah (by decide),show bE [RV.str kd,.int m,.int p,.int q] (3-1)=some (.int p)from rfl,mV,U,yD]
   show wO (some 2) _;rw[mV];exact fin (G.lst j) (u _) bF a.kind X hp a.far
 . rw[ah (by decide),show bE [RV.str kd,.int m,.int p,.int q] (4-1)=some (.int q)from rfl,mV,U,yD]
   show wO (some 3) _;rw[mV];exact fin (G.lst j) (u _) bF a.kind X a.place hqq
theorem OV{u:bY}(G:Tn e M0 L g w f R k c tl E)(I:Gl e f R)(W:k<63)(C:M0 x=some u.l)(j:u.In 10)(D:yH o){b:Int}(A:0<=b/\b<=5)
 (F:∀a s H l y r,Tn e a s g w f R k c tl E->a x=some (bY.l r)->r.In 11->yH y->(tr ((P e).Gn (n+10)) Dc).S (rd Q) [some (.ref x),some (.ref g),some a2,some (.ls ((dj tl).map bu)),some a4,some y,some (.int b),none,none,H,none,none,none,a13,a14,a15,l] s):
 (tr ((P e).Gn (n+10)) Df).S (rd Q) [some (.ref x),some (.ref g),some a2,some (.ls ((dj tl).map bu)),some a4,some o,some (.int b),none,none,none,none,none,none,a13,a14,a15,none] L:=by
 have q0:=F _ _ none none _ u G C ⟨j.a,j.b,j.c.1,by have:=j.c.2;omega⟩ D
 unfold Df;walk_at "ev";refine B5 Br ?_;rw[qe];cases hne:((dj tl).map bu).isEmpty with
 |true=>exact q0
 |false=>
  rw[ah (by decide)]
  by_cases z:b<5
  . rw[ah (fK z)]
    refine RP G I W C j (λh=>by rw[h]at hne;cases hne) D ⟨A.1,by omega⟩ λM0' s H l y r J N O U=>?_
    dsimp only;exact F _ _ _ _ _ r J N O U
  . rw[ae (by simpa using z)]
    exact q0
theorem XS{J:bY}(G:Tn e M0 L g w f R k c tl E)(N:Gl e f R)(C:Wd R ds ps fs)(O:k<63)(j:M0 x=some J.l)(a:J.In 4)(hq:Kt e g w f R (k+1) (Q (.bl true))):
 aw (P e) (n+11) 69 [.ref x,.ref g,wR ds ps fs] L Q:=by
 obtain⟨_,_,_,Y⟩:=G.gt.gate;rw[us (i:=69) (d:=xY) rfl];simp only[xY];unfold Gw;walk_at "ev";unfold Gv;walk_at "z";rw[Y];walk_at "ev";refine G.gt.talks (by omega) ?_
 unfold Gu;walk_at "z";refine G.draw j a (by omega) (by decide) (by decide) λv1 s M1 A l b1 a G j _=>?_
 obtain⟨kd,u,o⟩:=Aq l b1;rw[o];unfold Gs;walk_at "z";refine G.draw j a (by omega) (by decide) (by decide) λm s M1 A am bm a G j _=>?_
 rw[p7];(try walk_at "ev");refine G.draw j a (by omega) (by decide) (by decide) λv1 s M1 A l b1 a G j _=>?_
 obtain⟨y,⟨p,rfl,D⟩,o⟩:=nO C.lp C.ap l b1;rw[o];(try walk_at "ev");refine G.draw j a (by omega) (by decide) (by decide) λv1 s M1 A l b1 a G j _=>?_
 obtain⟨y,⟨far,rfl,X⟩,o⟩:=nO C.lf C.af l b1;rw[o];unfold Gq;walk_at "z";refine G.draw j a (by omega) (by decide) (by decide) λv1 s M1 A l b1 a G j _=>?_
 obtain⟨y,z,o⟩:=sE (xs:=[.int 0,.int 0,.int 0,.int 1,.int 2,.int 3,.int 4,.int 5]) l b1;rw[o];obtain⟨b,rfl,F⟩:∃b:Int,y= .int b/\0<=b/\b<=5:=by
  simp only[fw,List.not_mem_nil,or_false]at z;rcases z with rfl|rfl|rfl|rfl|rfl|rfl|rfl|rfl<;>exact⟨_,rfl,by decide⟩
 refine OV G N O j ⟨a.a,a.b,a.c.1,by have:=a.c.2;omega⟩ ⟨kd,1+m,p,far,rfl,u,⟨by omega,by omega⟩,D,X⟩ F λM0' L' z9 z16 y s G j a ho=>?_
 obtain⟨kd,m,p,q,rfl,u,Z,D,I⟩:=ho;unfold Dc;walk_at "z";refine G.draw j a (by omega) (by decide) (by decide) λv1 s M1 A l b1 a G j _=>?_
 obtain⟨y,⟨p2,rfl,H⟩,o⟩:=nO C.lp C.ap l b1;rw[o];(try walk_at "ev");refine G.draw j a (by omega) (by decide) (by decide) λv1 s M1 A l b1 a G j _=>?_
 obtain⟨y,z,o⟩:=sE (xs:=[.int p,.int 1,.int 1000000,.int p2]) l b1;rw[o];obtain⟨t,rfl,ht⟩:∃t:Int,y= .int t/\1<=t/\t<=1000000:=by
  simp only[fw,List.not_mem_nil,or_false]at z;rcases z with rfl|rfl|rfl|rfl
  . exact⟨_,rfl,D⟩
  . exact⟨_,rfl,by decide⟩
  . exact⟨_,rfl,by decide⟩
  . exact⟨_,rfl,H⟩
 unfold GY;walk_at "z";refine OW (λy z=>?_) λz9 v W=>OX G N O u ht Z D I W hq
 obtain⟨r,hr,rfl⟩:=aP.mp z;obtain⟨T,U,rfl⟩:=rW hr;exact⟨T,U,rfl⟩
end
section
variable {e:Env}{n:Nat}{M M0 L:RM}{Q:ao}{f:Fm}{R:Rl}{k:Nat}{c:Cn}{tl tl':List Tk}{E:List (TK×(Int×Int))}{g w x:Addr}{i:bG}{m q h d p far t:Int}{v:RV}{T:Tk}{kd:Str}{ds ps fs:LR}
noncomputable def rA:RV->Bool
 | .tup (.str s::_)=>s== "line"
 |_=>false
theorem Ln(b:Q (.ls (((dj tl).map bu).filter rA)) L):
 gb (fv false 1) false cZ id (tr ((P e).Gn n) (.cm .Eq (.ix (.v 0) (.i 0)) (.s "line"))).T (tr ((P e).Gn n) (.v 0)).E [] ((dj tl).map bu) [] L Q:=by
 refine iB (bd:=fv false 1) rA id fh _ _ (λy l=>?_) ?_
 . obtain⟨r,j,rfl⟩:=aP.mp l
   obtain⟨T,o,rfl⟩:=rW j;rw[mS];refine⟨[_],rfl,λK a=>?_,λ_ K a=>?_⟩
   . show(tr ((P e).Gn n) _).T [some (.tup _)] _ K
     walk_at "ev";exact a
   . show(tr ((P e).Gn n) _).E [some (.tup _)] _ K
     walk_at "ev";exact a
 . rw[sA,ka,List.map_id];exact b
theorem WE:aA 16 (.ls (((dj tl).map bu).filter rA))=true:=by
 show(((dj tl).map bu).filter rA).all (aA 15)=true;rw[dw];intro y a;obtain⟨r,_,rfl⟩:=aP.mp (eR.mp a).1;exact LJ
noncomputable abbrev sg (sc x:RV) (f:Fm) (ds ps fs:LR) (g:Addr) (R:Rl) (w:Addr) (kd:RV) (xs:List Int) (j:Int) (b:RV) (a:RV) (l o:Option RV):List (Option RV):=[some sc,some x,some f.r,some (wR ds ps fs),some (.ref g),some (.int R.m),some (.ref w),some kd,some (.ls (xs.map RV.int)),some (.int j),some b,some a,l,o]
theorem OS{D:RD}{sc l:RV}{I:bY}(G:Tn e M0 L g w f R k c tl E)(z:Gl e f R)(wd:Wd R ds ps fs)(X:k<63)(W:M0 x=some I.l)(ok:I.In 4)
 (J:∀o s,Kt e g w f R (k+1) (D.nx (sg sc (.ref x) f ds ps fs g R w l xs j (.int way) (.bl true) o s))):
 (tr ((P e).Gn (n+11)) AD).S D (sg sc (.ref x) f ds ps fs g R w l xs j (.int way) (.bl true) o s) L:=by
 obtain⟨_,_,_,C⟩:=G.gt.gate;have b:(dj tl).length<64:=by
  unfold dj;rw[(rH _).length_eq,ba];obtain⟨_,ad,M,G1,_⟩:=G.gt;exact gG G1.s0 (by omega)
 have a:(tr ((P e).Gn (n+11)) AB).S D (sg sc (.ref x) f ds ps fs g R w l xs j (.int way) (.bl true) o s) L:=by
  unfold AB;walk_at "z";refine XS (n:=n) G z wd X W ok λM0' U c' tl' E' O=>?_
  (try walk_at "ev")
  exact J _ _ _ _ _ _ _ O
 unfold AD;walk_at "ev"
 by_cases N:way=6
 . rw[ah (by simpa using N)]
   rw[C];walk_at "ev";refine G.gt.talks (n:=n+9) (by omega) ?_
   walk_at "ev";refine⟨by rw[ba];exact eG b (by decide),?_⟩
   refine Ln ?_;refine B5 WE ?_;rw[qe];cases hne:(((dj tl).map bu).filter rA)with
   |nil=>exact a
   |cons y r=>
    rw[ah (show(!(y::r).isEmpty)=true from rfl)]
    have Z:y∈((dj tl).map bu).filter rA:=by rw[hne];exact .head _
    obtain⟨H,u⟩:=eR.mp Z;obtain⟨r2,F,rfl⟩:=aP.mp H;obtain⟨T,A,rfl⟩:=rW F;have Y:T.i.kind= "line":=by rw[mS]at u;exact eQ.mp u
    clear a;unfold Jl;walk_at "z";rw[C];walk_at "ev";refine G.gt.talks (n:=n+9) (by omega) ?_
    walk_at "ev";refine⟨by rw[ba];exact eG b (by decide),?_⟩
    refine Ln ?_;rw[hne];walk_at "ev";rw[mS];unfold Jk;walk_at "z";rw[C];walk_at "ev";refine G.gt.brk (n:=n+1) z.tb z.ck z.rm (by omega) A Y λc' tl' U gt sub=>?_
    refine qj rfl rfl (r:=true) (by simp only[bc,eO,beq_self_eq_true,wJ]) ?_
    (try walk_at "ev")
    exact J _ _ _ _ _ _ _ ⟨gt,G.ow,G.mi.sub λT A=>⟨T,sub T A,rfl,rfl⟩,qS G.le,G.lp⟩
 . rw[ae (by simpa using N)]
   exact a
theorem OP{sc b:RV}{F:bY}(G:Tn e M0 L g w f R k c tl E)(u:Gl e f R)(A:Wd R ds ps fs)(Z:k<63)(r:M0 x=some F.l)(s:F.In 4)
 (y:∀l o,Kt e g w f R (k+1) ((tr ((P e).Gn (n+11)) vB).S D (sg sc (.ref x) f ds ps fs g R w b xs j (.int way) (.bl true) l o))):
 (tr ((P e).Gn (n+11)) BN).S D (sg sc (.ref x) f ds ps fs g R w b xs j (.int way) (.bl true) l o) L:=by
 obtain⟨_,_,_,Y⟩:=G.gt.gate;have a:(tr ((P e).Gn (n+11)) AV).S { nx:=(tr ((P e).Gn (n+11)) vB).S D,rt:=D.rt,bk:=D.bk,ct:=D.ct } (sg sc (.ref x) f ds ps fs g R w b xs j (.int way) (.bl true) l o) L:=by
  unfold AV;walk_at "z";refine WU (n:=n) G u A (by omega) r s (by decide) λM0' C W tl' O z=>?_
  (try walk_at "ev")
  exact y _ _ _ _ _ _ _ z
 unfold BN;walk_at "ev"
 by_cases H:way<3
 . rw[ah (by simpa using H)];exact a
 . rw[ae (by simpa using H)]
   by_cases I:j=0
   . rw[ah (by simpa using I)];exact a
   . rw[ae (by simpa using I)]
     clear a;unfold Kf;walk_at "ev"
     by_cases J:way<5
     . rw[ah (by simpa using J)]
       unfold Ju;walk_at "z";refine Xv (n:=n) G u A (by omega) r s (by decide) λM0' C W tl' O z=>?_
       (try walk_at "ev")
       exact y _ _ _ _ _ _ _ z
     . rw[ae (by simpa using J)]
       unfold Jt;walk_at "ev"
       by_cases N:way=5
       . rw[ah (by simpa using N)]
         rw[Y];walk_at "ev";refine G.draw (n:=n+10) r s (by decide) (by decide) (by decide) λv1 g2 M1 L1 U b1 s G r _=>?_
         refine G.gt.wait (n:=n+1) u.tb G.lp (by omega) U (by omega) λc' tl' C gt sub=>?_
         (try walk_at "ev")
         exact y _ _ _ _ _ _ _ ⟨gt,G.ow,G.mi.sub λT X=>⟨T,sub T X,rfl,rfl⟩,qS G.le,G.lp⟩
       . rw[ae (by simpa using N)]
         exact OS G u A Z r s y
end
section
variable {e:Env}{n:Nat}{M M0 L:RM}{Q:ao}{f:Fm}{R:Rl}{k:Nat}{c:Cn}{tl tl':List Tk}{E:List (TK×(Int×Int))}{g w x:Addr}{i:bG}{m q h d p far t:Int}{v:RV}{T:Tk}{kd:Str}{ds ps fs:LR}
noncomputable def O4:RV->RV
 | .tup [.str a,.int m,.int h,.int d,.int p,.int q,_,_]=>.tup [.tup [.str a,.int m,.int p,.int q],.tup [.int h,.int d]]
 |x=>x
theorem OQ{D:RD}{sc l:RV}(G:Tn e M0 L g w f R k c tl E)(C:k<64)
 (I:∀o,D.nx (sg sc (.ref x) f ds ps fs g R w l xs j (.int way) (.bl true) o z13) L):
 (tr ((P e).Gn (n+11)) vB).S D (sg sc (.ref x) f ds ps fs g R w l xs j (.int way) (.bl true) o z13) L:=by
 obtain⟨_,_,_,H⟩:=G.gt.gate;have F:=G.gt.at_ G.ow;have a:(dj tl).length<64:=by
  unfold dj;rw[(rH _).length_eq,ba];obtain⟨_,J,M,G1,_⟩:=G.gt;exact gG G1.s0 C
 unfold vB;rw[bP,Cg];dsimp only[List.set_cons_zero,List.set_cons_succ];walk_at "ev";rw[H];walk_at "ev";refine G.gt.talks (n:=n+9) C ?_;walk_at "ev";refine⟨by rw[ba];exact eG a (by decide),?_⟩
 refine iB (bd:=fv false 1) (λ_=>true) O4 fh _ _ (λy u=>?_) ?_
 . obtain⟨r,s,rfl⟩:=aP.mp u
   obtain⟨T,A,rfl⟩:=rW s;rw[mS];refine⟨[_],rfl,λK b=>b,λ_ K b=>?_⟩
   show(tr ((P e).Gn (n+11)) _).E [some (.tup _)] _ K;walk_at "ev";exact b
 . rw[sA,ka,wz.mpr (λ_ _=>rfl),id_eq]
   unfold MC;walk_at "ev";refine⟨by rw[ba,ba];exact eG a (by decide),?_⟩
   refine iB (bd:=fv false 1) (λ_=>false) id fh _ _ (λy u=>?_) ?_
   . obtain⟨N,y,rfl⟩:=aP.mp u
     obtain⟨r,s,rfl⟩:=aP.mp y;obtain⟨T,A,rfl⟩:=rW s;rw[mS];refine⟨[_],rfl,λK b=>?_,λz=>by cases z⟩
     show(tr ((P e).Gn (n+11)) _).T [some (.tup [.tup [.str T.i.kind,.int T.m,.int T.i.place,.int T.i.far],.tup [.int T.i.house,.int T.i.door]]),some (.ref w)] _ K;have e1:lk (eW E) (wA T)=some (pR (T.i.house,T.i.door)):=by unfold eW;rw[show wA T=id (wA T)from rfl,nU i7,G.mi T A];rfl
     walk_at "ev";rw[F];walk_at "ev";rw[yW (show _=some (wA T)from rfl),e1]
     show aA 16 (pR (T.i.house,T.i.door))=true/\aA 16 (pR (T.i.house,T.i.door))=true/\kB K (.bl (!bc (pR (T.i.house,T.i.door)) (pR (T.i.house,T.i.door)))) L;rw[mX 16 (pR (T.i.house,T.i.door)) rfl];exact⟨rfl,rfl,b⟩
   . rw[sA,id_eq,List.filter_eq_nil_iff.mpr (λ_ _ h=>by cases h)]
     refine B5 rfl ?_;rw[qe,ae (by decide)]
     exact I _
theorem rg9{x:RV}{K:List (Option RV)->RM->Prop}:ja 9 x (a0::a1::a2::a3::a4::a5::a6::a7::a8::a9::r) M K=K (a0::a1::a2::a3::a4::a5::a6::a7::a8::some x::r) M:=rfl
noncomputable abbrev sl (sc:RV) (o:Option RV) (f:Fm) (ds ps fs:LR) (g:Addr) (R:Rl) (w:Addr) (kd:RV) (xs:List Int) (r a b j l:Option RV):List (Option RV):=[some sc,o,some f.r,some (wR ds ps fs),some (.ref g),some (.int R.m),some (.ref w),some kd,some (.ls (xs.map RV.int)),r,a,b,j,l]
theorem Zy{D:RD}{sc l:RV}{xs:List Int}(G:Tn e M0 L g w f R k c tl E)(H:Gl e f R)(X:Wd R ds ps fs)(N:k<63)(h0:0<=j)(J:j<1000)(hx:0<xs.length)(O:xs.length<1000)
 (U:∀A o s u b,Kt e g w f R (k+1) (D.nx (sl sc A f ds ps fs g R w l xs (some (.int j)) o s u b))):
 (tr ((P e).Gn (n+11)) BO).S D (sl sc A f ds ps fs g R w l xs (some (.int j)) o s u b) L:=by
 unfold BO;walk_at "z";refine VB (n:=n+9) h0 J hx O λx F y W=>?_
 have G:=G.new (r:=F.l) y;unfold ME;walk_at "z";refine G.draw (n:=n+10) bF W (by decide) (by decide) (by decide) λway g2 M1 L1 _ _ a G I _=>?_
 unfold MD;walk_at "z";exact OP G H X N I ⟨a.a,a.b,a.c.1,by have:=a.c.2;omega⟩ λz12 b C Z c' tl' Y z=>OQ z (by omega) λz12=>U _ _ _ _ _ _ _ _ _ _ z
theorem WG{n c:Nat}(h:c<(nums n).length):(nums n)[c]=RV.int (c:Int):=by simp[nums]
theorem Zz{D:RD}{sc kdv:RV}{xs:List Int}(G:Tn e M0 L g w f R 0 c tl E)(gl:Gl e f R)(wd:Wd R ds ps fs)(hx:0<xs.length)(hl:xs.length<62)
 (hq:∀M',M' e.lP=some (cD e)->D.rt (.bl true) M'):
 (tr ((P e).Gn (n+11)) CG).S D (sl sc z1 f ds ps fs g R w kdv xs none z10 z11 z12 z13) L:=by
 unfold CG;walk_at "ev";rw[ba];generalize hN:(if(xs.length:Int) > 8 then(xs.length:Int)else 8)=N
 have n1:0<=N/\N<62:=by rw[<-hN];split<;>omega
 refine⟨by omega,by omega,?_⟩
 refine Bf (λys σ M=>∃(k:Nat) (M0:RM) (c:Cn) (tl:List Tk) (E:List (TK×(Int×Int))) (z1 z9 z10 z11 z12 z13:Option RV),ys=(nums N.toNat).drop k/\k+ys.length=N.toNat/\Tn e M0 M g w f R k c tl E/\σ=sl sc z1 f ds ps fs g R w kdv xs z9 z10 z11 z12 z13) (λ_ _ _ _=>fh) (λσ M h=>?_) (λy ys σ M W h hW=>?_) _ _ _ ⟨0,M0,c,tl,E,_,_,_,_,_,_,rfl,by rw[yk];omega,G,rfl⟩
 . obtain⟨k,M0,c,tl,E,z1,z9,z10,z11,z12,z13,_,_,G,rfl⟩:=h
   dsimp only;unfold IC;walk_at "ev";exact hq _ (G.gt.at_ G.lp)
 . obtain⟨k,M0,c,tl,E,z1,z9,z10,z11,z12,z13,h1,h2,G,rfl⟩:=h
   rw[cQ]at h2;have hc:k<(nums N.toNat).length:=by rw[yk];omega
   rw[List.drop_eq_getElem_cons hc]at h1;injection h1 with e1 e2
   have e1:y= .int (k:Int):=by rw[e1,WG]
   subst e1;rw[rg9];refine Zy G gl wd (by omega) (by omega) (by omega) hx (by omega) λz1 z10 z11 z12 z13 M0' L' c' tl' E' G'=>?_
   exact hW _ _ ⟨k+1,M0',c',tl',E',_,_,_,_,_,_,e2,by omega,G',rfl⟩
end
section
variable {e:Env}{n:Nat}{M M0 L:RM}{Q:ao}{f:Fm}{R:Rl}{k:Nat}{g w x:Addr}{ds ps fs:LR}
theorem Gr.new(h:Gr e g f R j M0 L)(hx:L x=none):Gr e g f R j (put M0 x o) (put L x o):=by
 obtain⟨i,ds,rfl,a,H,l,h⟩:=h;obtain⟨c,m⟩:=of_none H rfl hx;refine⟨i,ds,lop c,a,H,l,λb u d=>?_⟩
 by_cases z:b=x
 . subst z;exact c
 . rw[put_ne z]at d;exact h b u d
theorem Gr.at_(h:Gr e g f R j M0 L)(a:M0 x=some o):L x=some o:=by
 obtain⟨c,ds,rfl,b,H,d,h⟩:=h;exact(lo (h x o a)).trans a
theorem Gr.gate(h:Gr e g f R j M0 L):∃b rs rd,L g=some (bx e f.r b rs rd .aq):=by
 obtain⟨c,ds,rfl,a,H,rfl,h⟩:=h;exact⟨_,_,_,lg H (Nat.le_of_ble_eq_true rfl)⟩
theorem OR{sc:RV}(h:Gr e g f R 0 M0 L)(a:Gl e f R)(u:Wd R ds ps fs)(t:M0 w=some (.dt []))(d:M0 e.lP=some (cD e))
 (s:∀i j c,Tn e M0 j g w f R 0 c [] []->(tr ((P e).Gn (n+11)) CI).S D [some sc,z1,some f.r,some (wR ds ps fs),some (.ref g),some (.int R.m),some (.ref w),some i,z8,z9,z10,z11,z12,z13] j):
 (tr ((P e).Gn (n+11)) CJ).S D [some sc,z1,some f.r,some (wR ds ps fs),some (.ref g),some (.int R.m),some (.ref w),z7,z8,z9,z10,z11,z12,z13] L:=by
 obtain⟨r,rfl⟩:=u.d0;obtain⟨_,_,_,o⟩:=h.gate;unfold CJ;walk_at "ev";refine⟨fh,?_⟩;unfold ja;walk_at "ev";unfold MF;walk_at "ev";rw[o];walk_at "ev";refine h.rule (n:=n+1) a.tb a.ro (.inl rfl) (by decide) rfl (by show(0:Nat)<5;decide) a.rm a.rh a.rd λv v l=>?_
 obtain⟨_,_,_,b⟩:=l.gate;refine⟨fh,?_⟩;dsimp only[List.set_cons_zero,List.set_cons_succ];walk_at "ev";rw[b];walk_at "ev";refine l.rule (n:=n+1) a.tb a.ro (.inr rfl) (by decide) ?_ (by show(1:Nat)<5;decide) a.rm a.rh a.rd λv y m=>?_
 . rfl
 . obtain⟨c,gt⟩:=m.gt a.ck
   refine⟨fh,?_⟩;dsimp only[id_eq];exact s _ _ c ⟨gt,t,g8 _,aN _,d⟩
theorem ZG(tb:Tb e)(b:M e.lP=some (cD e)){xs:List Int}(hq:∀F,F e.lP=some (cD e)->Q (.bl true) F):aw (P e) (n+12) 28 [.ls (xs.map RV.int)] M Q:=by
 rw[us (i:=28) (d:=sH) rfl];refine⟨rfl,?_⟩;simp only[sH];unfold IH;walk_at "z";refine(JH (n:=n+10) (xs:=xs) (k:=0)).mpr ?_;refine yI (n:=n+10) λp1 h1=>?_
 unfold IG;walk_at "z";refine iG (n:=n+10) bF yy (by decide) (by decide) (by decide) λv1 g1 Y b1 C=>?_
 obtain⟨le,v,j⟩:=C7 ["door","place","talk"] Y b1
 change ∀{M:RM} {Q:ao},dR (.ls [.str "door",.str "place",.str "talk"]) _ M Q=_ at j
 rw[j];walk_at "ev";refine iG (n:=n+10) bF C (by decide) (by decide) (by decide) λv2 g2 Z b2 E=>?_
 obtain⟨si,A,j⟩:=C7 ["all","place","talk"] Z b2
 change ∀{M:RM} {Q:ao},dR (.ls [.str "all",.str "place",.str "talk"]) _ M Q=_ at j
 rw[j,iD];refine XQ (n:=n+9) bF E (by decide) (by simpa using v) (by simpa using A) λf H h hw hm ok3=>?_
 rw[iD];have l1:put M p1 H.l e.lP=some (cD e):=(put_ne (λz=>by rw[z,h1]at b;cases b)).trans b
 generalize put M p1 H.l=M1 at l1 ⊢;unfold IF;walk_at "z";refine(JH (n:=n+10) (xs:=xs) (k:=1)).mpr ?_;refine yI (n:=n+10) λp2 h2=>?_
 refine TB (n:=n+9) bF yy (by decide) λds ps fs I W O lp ap lf af _=>?_
 rw[iD];have l2:put M1 p2 I.l e.lP=some (cD e):=(put_ne (λz=>by rw[z,h2]at l1;cases l1)).trans l1
 generalize put M1 p2 I.l=M2 at l2 ⊢;obtain⟨y,r,rfl⟩:∃y r,ds=y::r:=by cases ds with
  |nil=>cases W
  |cons y r=>exact⟨y,r,rfl⟩
 obtain⟨a,dd,rfl,u,t⟩:=O y (.head _);unfold IE;walk_at "z";intro g hg;have hi:=h.hi;have hlo:=h.lo;have U:=h.le;have bm:∃m:Int,(if f.high<9999 then(9999:Int)else 1)=m/\(1<=m/\m<=9999)/\¬(f.low<=m/\m<=f.high):=by
  refine⟨_,rfl,?_,?_⟩
  . split<;>omega
  . split<;>omega
 obtain⟨m,s,m1,m2⟩:=bm;have J:Gl e f ⟨m,a,dd⟩:=⟨tb,h,hw,hm,m2,m1,u,t⟩;have X:Wd ⟨m,a,dd⟩ (.tup [.int a,.int dd]::r) ps fs:=⟨W,O,⟨r,rfl⟩,lp,ap,lf,af⟩;refine UC (n:=n+4) (R:=⟨m,a,dd⟩) h hg λM3 N=>⟨rfl,?_⟩
 unfold ID;walk_at "z";rw[DG];walk_at "ev";have fin:(tr ((P e).Gn (n+11)) CK).S (rd Q) [some (.ls (xs.map RV.int)),some (.ref p1),some f.r,some (wR (.tup [.int a,.int dd]::r) ps fs),some (.ref g),some (.int m),none,none,none,none,none,none,none,none] M3:=by
  unfold CK;walk_at "z";intro w l;have l3:=N.at_ l2;have nl:e.lP≠w:=λz=>by rw[z,l]at l3;cases l3
  refine OR (R:=⟨m,a,dd⟩) (D:=rd Q) (n:=n) (ds:=.tup [.int a,.int dd]::r) (ps:=ps) (fs:=fs) (w:=w) (g:=g) (f:=f) (M0:=put M2 w (.dt [])) (N.new (o:=.dt []) l) J X bF ((put_ne nl).trans l2) λkdv L' c G=>?_
  unfold CI;walk_at "z";have e1:gu (xs.map RV.int) (some 2) (some 62)=((xs.drop (HT.aR xs.length 0 (some 2))).take (HT.aR xs.length xs.length (some 62)-HT.aR xs.length 0 (some 2))).map RV.int:=by unfold gu;rw[ba,List.map_take,List.map_drop]
  have e3:HT.aR xs.length 0 (some 2)=min 2 xs.length:=by rw[show(2:Int)=((2:Nat):Int)from rfl,HT.gZ]
  rw[e1];have ly:((xs.drop (HT.aR xs.length 0 (some 2))).take (HT.aR xs.length xs.length (some 62)-HT.aR xs.length 0 (some 2))).length<=60:=by
   have e4:HT.aR xs.length xs.length (some 62)=min 62 xs.length:=by rw[show(62:Int)=((62:Nat):Int)from rfl,HT.gZ]
   rw[List.length_take,List.length_drop,e3,e4];omega
  generalize (xs.drop (HT.aR xs.length 0 (some 2))).take (HT.aR xs.length xs.length (some 62)-HT.aR xs.length 0 (some 2))=ys at ly ⊢;refine⟨by rw[ba];exact bQ (show ys.length+1<=61 by omega) (by decide),?_⟩
  rw[show ys.map RV.int++ [RV.int 0]=(ys++ [0]).map RV.int from by rw[fV];rfl]
  exact Zz (xs:=ys++ [0]) G J X (by rw[fe];exact Nat.succ_pos _) (by rw[fe];show ys.length+1<62;omega) hq
 by_cases z:f.high<9999
 . rw[ah (by simpa using z)]
   rw[ah z]at s;subst s;exact fin
 . rw[ae (by simpa using z)]
   rw[ae z]at s;subst s;exact fin
end
noncomputable def Cx:Nat->Addr:=λi=>([338,411,432,552,765]:List Addr).getD i 0
noncomputable def Lu:List (Str×Addr):=[("out",113),("come",120),("lost",127),("wait",134),("rule",141),("unrule",148)]
noncomputable def Kh:List (Str×Int):=[("note",0),("asked",1),("called",1),("up",2),("near",2),("far",2)]
noncomputable def zw:Env:=⟨λx=>if x= "DEEDS" then xo Lu else if x= "TIME_AT" then xp Kh else [],Cx,[(113,9),(120,10),(127,11),(134,12),(141,13)],546⟩
noncomputable def G0:List (FD×FA):=[(xP,fD H12.xa),(xT,fD H12.xc),(ye,fD H12.xf),(xS,fD H12.xg),(xy,fD H12.xh),(xR,fD H12.xi),(yc,fD H12.xj),(Km,fD H12.xl),(ya,⟨"is_text","is_text",TM,99,98,.str "lentgate.ends" 194⟩),(vj,fD H12.kn),(uZ,fD H12.kq),(vh,fD H12.kr)]
noncomputable def G1:List (FD×FA):=[(vf,fD H12.ku),(vg,fD H12.kA),(x8,fD H12.kC),(yf,fD H12.kD),(xQ,⟨"is_times","is_times",Ti,228,227,.str "lentgate.forms" 475⟩),(yd,fD H12.kF),(uQ,fD H12.kL),(ui,fD H12.kW),(pK,fD H12.lu),(xN,fD H12.lG),(ud,fD H12.lV),(uI,fD H12.lW)]
noncomputable def G2:List (FD×FA):=[(uU,⟨"lends","Gate.lends",Sy,645,644,.str "lentgate.gate" 1101⟩),(uR,⟨"talks","Gate.talks",Sx,650,649,.str "lentgate.gate" 1101⟩),(uS,fD H12.lX),(xH,⟨"_law_a_world","_law_a_world",R3,809,808,.str "law_lentgate_k12_told_as_lost" 1436⟩),(sH,⟨"law","law",Nm,835,834,.str "law_lentgate_k12_told_as_lost" 1436⟩)]
noncomputable def G3:List (FD×FA):=[(x9,fD H12.xk),(yb,fD H12.kE),(xV,fD H12.kG),(x6,fD H12.kH),(xD,fD H12.kI),(uz,fD H12.kQ),(uW,fD H12.kY),(uq,⟨"resting","Pool.resting",R4,403,402,.str "lentgate.pool" 794⟩),(uh,⟨"many_free","Pool.many_free",RY,408,407,.str "lentgate.pool" 794⟩),(uM,fD H12.k8),(ue,fD H12.k9),(uw,fD H12.lx)]
noncomputable def G4:List (FD×FA):=[(uN,⟨"held","Talks.held",Sv,502,501,.str "lentgate.talks" 894⟩),(aG,⟨"pass_by","Talks.pass_by",R0,549,548,.str "lentgate.talks" 894⟩),(uH,fD H12.lJ),(uJ,fD H12.lL),(uC,fD H12.lS),(uD,fD H12.lZ),(ux,fD H12.ml),(uj,fD H12.mv),(uk,fD H12.mw),(xZ,fD H12.mx),(xX,fD H12.mz),(rG,fD H12.mB)]
noncomputable def G5:List (FD×FA):=[(xI,fD H12.mD)]
noncomputable def G6:List (FD×FA):=[(xx,fD H12.xb),(xU,fD H12.km),(xF,fD H12.kJ),(uX,fD H12.kO),(ur,fD H12.kU),(uB,fD H12.kZ),(uL,fD H12.lz),(pG,fD H12.lE),(uf,fD H12.lA),(uV,fD H12.lF),(mR,fD H12.lY),(uo,fD H12.ma)]
noncomputable def G7:List (FD×FA):=[(um,fD H12.mh),(pL,fD H12.mn),(xW,fD H12.mC),(xY,fD H12.mE)]
noncomputable def G8:List (FD×FA):=[(xE,fD H12.kK),(ug,fD H12.kN),(uc,fD H12.kX),(pN,fD H12.lD),(xG,fD H12.mF)]
noncomputable def G9:List (FD×FA):=[(pH,fD H12.k7),(pJ,fD H12.lj),(x3,fD H12.mG)]
noncomputable def wL:List (FD×FA):=[(uO,fD H12.kM),(uF,fD H12.lR),(uE,fD H12.lU),(pM,fD H12.mm),(uu,fD H12.mq)]
noncomputable def wM:List (FD×FA):=[(pI,fD H12.lQ)]
noncomputable def wN:List (FD×FA):=[(uA,fD H12.lM)]
section
variable(Pm:Params)
theorem b0:gY (H12.K0 Pm) S Cx 546 1 G0=true:=by kernel_rfl
theorem l0:gJ (H12.K0 Pm) G0:=by kernel_rfl
theorem u0:uT G0 1:=gQ (n:=1) λ_=>by show _=_;kernel_rfl
theorem b1:gY (H12.K0 Pm) S Cx 546 1 G1=true:=by kernel_rfl
theorem l1:gJ (H12.K0 Pm) G1:=by kernel_rfl
theorem u1:uT G1 1:=gQ (n:=1) λ_=>by show _=_;kernel_rfl
theorem b2:gY (H12.K0 Pm) S Cx 546 1 G2=true:=by kernel_rfl
theorem l2:gJ (H12.K0 Pm) G2:=by kernel_rfl
theorem u2:uT G2 1:=gQ (n:=1) λ_=>by show _=_;kernel_rfl
theorem b3:gY (H12.K0 Pm) S Cx 546 2 G3=true:=by kernel_rfl
theorem l3:gJ (H12.K0 Pm) G3:=by kernel_rfl
theorem u3:uT G3 2:=gQ (n:=2) λ_ _=>by show _=_;kernel_rfl
theorem b4:gY (H12.K0 Pm) S Cx 546 2 G4=true:=by kernel_rfl
theorem l4:gJ (H12.K0 Pm) G4:=by kernel_rfl
theorem u4:uT G4 2:=gQ (n:=2) λ_ _=>by show _=_;kernel_rfl
theorem b5:gY (H12.K0 Pm) S Cx 546 2 G5=true:=by kernel_rfl
theorem l5:gJ (H12.K0 Pm) G5:=by kernel_rfl
theorem u5:uT G5 2:=gQ (n:=2) λ_ _=>by show _=_;kernel_rfl
theorem b6:gY (H12.K0 Pm) S Cx 546 3 G6=true:=by kernel_rfl
theorem l6:gJ (H12.K0 Pm) G6:=by kernel_rfl
theorem u6:uT G6 3:=gQ (n:=3) λ_ _ _=>by show _=_;kernel_rfl
theorem b7:gY (H12.K0 Pm) S Cx 546 3 G7=true:=by kernel_rfl
theorem l7:gJ (H12.K0 Pm) G7:=by kernel_rfl
theorem u7:uT G7 3:=gQ (n:=3) λ_ _ _=>by show _=_;kernel_rfl
theorem b8:gY (H12.K0 Pm) S Cx 546 4 G8=true:=by kernel_rfl
theorem l8:gJ (H12.K0 Pm) G8:=by kernel_rfl
theorem u8:uT G8 4:=gQ (n:=4) λ_ _ _ _=>by show _=_;kernel_rfl
theorem b9:gY (H12.K0 Pm) S Cx 546 5 G9=true:=by kernel_rfl
theorem l9:gJ (H12.K0 Pm) G9:=by kernel_rfl
theorem u9:uT G9 5:=gQ (n:=5) λ_ _ _ _ _=>by show _=_;kernel_rfl
theorem OY:gY (H12.K0 Pm) S Cx 546 6 wL=true:=by kernel_rfl
theorem Pb:gJ (H12.K0 Pm) wL:=by kernel_rfl
theorem u10:uT wL 6:=gQ (n:=6) λ_ _ _ _ _ _=>by show _=_;kernel_rfl
theorem OZ:gY (H12.K0 Pm) S Cx 546 7 wM=true:=by kernel_rfl
theorem Pc:gJ (H12.K0 Pm) wM:=by kernel_rfl
theorem u11:uT wM 7:=gQ (n:=7) λ_ _ _ _ _ _ _=>by show _=_;kernel_rfl
theorem O0:gY (H12.K0 Pm) S Cx 546 8 wN=true:=by kernel_rfl
theorem Pd:gJ (H12.K0 Pm) wN:=by kernel_rfl
theorem u12:uT wN 8:=gQ (n:=8) λ_ _ _ _ _ _ _ _=>by show _=_;kernel_rfl
theorem RL:(S.bl.all λx=>sR (PySem.W.nsIn (H12.K0 Pm) mainGlobals x))=true:=by kernel_rfl
theorem Q5:(S.gi.all λx=>zv x.2 (PySem.W.nsIn (H12.K0 Pm) mainGlobals x.1))=true:=by kernel_rfl
theorem Q4:(S.gt.all λx=>zd (H12.K0 Pm) x.2 (PySem.W.nsIn (H12.K0 Pm) mainGlobals x.1))=true:=by kernel_rfl
theorem Q7:(S.cl.zipIdx.all λx=>qx (H12.K0 Pm) (Cx x.2)&&oo (Cx x.2) (PySem.W.nsIn (H12.K0 Pm) mainGlobals x.1))=true:=by kernel_rfl
theorem Q6:(S.fs.all λx=>qx (H12.K0 Pm) (Cx x.1)&&sR (PySem.W.findIn (H12.K0 Pm) (.ref (Cx x.1)) x.2))=true:=by kernel_rfl
theorem RK:Ae (H12.K0 Pm) 546=true:=by kernel_rfl
theorem Q8:yw (H12.K0 Pm) 548 546=true:=by kernel_rfl
theorem GU:(H12.K0 Pm).lookup 546=none:=by kernel_rfl
end
section
variable {w:World}{h:Heap}{mg:bq}(X:(H12.K0 w.2).In h)(G:h.Ns mainGlobals mg)
include X G
theorem GW:∀x∈(G0++(G1++(G2++(G3++(G4++(G5++(G6++(G7++(G8++(G9++(wL++(wM++wN)))))))))))),jO (H12.K0 w.2) mg S Cx 546 x.1 x.2.g (fdOf x.2):=(i5 (il X G (b0 _) (l0 _) u0) (i5 (il X G (b1 _) (l1 _) u1) (i5 (il X G (b2 _) (l2 _) u2) (i5 (il X G (b3 _) (l3 _) u3) (i5 (il X G (b4 _) (l4 _) u4) (i5 (il X G (b5 _) (l5 _) u5) (i5 (il X G (b6 _) (l6 _) u6) (i5 (il X G (b7 _) (l7 _) u7) (i5 (il X G (b8 _) (l8 _) u8) (i5 (il X G (b9 _) (l9 _) u9) (i5 (il X G (OY _) (Pb _) u10) (i5 (il X G (OZ _) (Pc _) u11) (il X G (O0 _) (Pd _) u12)))))))))))))
theorem Xq:∀d∈S.fd,∃g fd,jO (H12.K0 w.2) mg S Cx 546 d g fd:=Y2 (by rfl) (GW X G)
omit X G in
theorem Z7(o:Option Str):H12.hx w.2 o=xr w (o.map Sum.inr):=by cases o<;>rfl
noncomputable def tks:List (ak):=[[.str "house" 567,.none,.str "open" 568],[.str "house" 570,.str "asked" 571,.str "open" 572],[.str "house" 574,.str "called" 575,.str "open" 576],[.str "house" 578,.str "up" 579,.str "say" 580],[.str "house" 582,.str "far" 583,.str "say" 584],[.str "house" 586,.str "up" 587,.str "close" 588],[.str "house" 590,.str "far" 591,.str "close" 592],[.str "far" 594,.none,.str "open" 595],[.str "far" 597,.str "called" 598,.str "open" 599],[.str "far" 601,.str "asked" 602,.str "open" 603],[.str "far" 605,.str "up" 606,.str "say" 607],[.str "far" 609,.str "near" 610,.str "say" 611],[.str "far" 613,.str "up" 614,.str "close" 615],[.str "far" 617,.str "near" 618,.str "close" 619]]
theorem X4:qk PySem.Challenge.pw_lentgate_k12_told_as_lost w (H12.K0 w.2) mg "LINE_STEPS" ((S.tt.lookup ("LINE_STEPS":Str)).getD []):=US (tk:=tks) (kt:=H12.kt) (vt:=H12.vt) (hx:=H12.hx w.2) (nG X G (n:="LINE_STEPS") (v:=.ref 250) (by kernel_rfl)) (show(H12.K0 w.2).lookup 250=some (H12.DD w.2) by kernel_rfl) (by decide) (by kernel_rfl) Z7 (by kernel_rfl) (by decide+kernel) (by decide+kernel) (by decide+kernel)
theorem YZ:Hd PySem.Challenge.pw_lentgate_k12_told_as_lost w (H12.K0 w.2) mg (P zw):=by
 refine qyV X G (RL _) (Q5 _) (Q4 _) (Q7 _) (Q6 _) ?_ (λx l hx=>by obtain⟨rfl,rfl⟩:=U9 hx;exact X4 X G) (Xq X G) (λ_ _ _ _=>⟨by decide,λh X2=>qzo X G (RK _) X2⟩) ?_
 . show ∀x∈[("DEEDS":Str),("TIME_AT":Str)],_
   refine qP.mpr ⟨show KTab _ _ _ _ _ (xo Lu)from UW (nG X G (n:="DEEDS") (v:=.ref 149) (by kernel_rfl)) (show(H12.K0 w.2).lookup 149=some (H12.qK w.2) by kernel_rfl) (by decide) ⟨⟨_,rfl⟩,rfl,rfl,⟨_,rfl⟩,rfl,rfl,⟨_,rfl⟩,rfl,rfl,⟨_,rfl⟩,rfl,rfl,⟨_,rfl⟩,rfl,rfl,⟨_,rfl⟩,rfl,rfl,trivial⟩ (by decide+kernel),?_⟩
   refine qP.mpr ⟨show KTab _ _ _ _ _ (xp Kh)from UU (nG X G (n:="TIME_AT") (v:=.ref 216) (by kernel_rfl)) (show(H12.K0 w.2).lookup 216=some (H12.qL w.2) by kernel_rfl) (by decide) ⟨⟨_,rfl⟩,rfl,⟨_,rfl⟩,⟨_,rfl⟩,rfl,⟨_,rfl⟩,⟨_,rfl⟩,rfl,⟨_,rfl⟩,⟨_,rfl⟩,rfl,⟨_,rfl⟩,⟨_,rfl⟩,rfl,⟨_,rfl⟩,⟨_,rfl⟩,rfl,⟨_,rfl⟩,trivial⟩ (by decide+kernel),?_⟩
   exact g8 _
 . show ∀q∈[((113:Addr),(9:Nat)),((120:Addr),(10:Nat)),((127:Addr),(11:Nat)),((134:Addr),(12:Nat)),((141:Addr),(13:Nat))],_
   refine qP.mpr ⟨⟨vj,rfl,rfl,by kernel_rfl⟩,?_⟩
   refine qP.mpr ⟨⟨uZ,rfl,rfl,by kernel_rfl⟩,?_⟩
   refine qP.mpr ⟨⟨vh,rfl,rfl,by kernel_rfl⟩,?_⟩
   refine qP.mpr ⟨⟨vf,rfl,rfl,by kernel_rfl⟩,?_⟩
   refine qP.mpr ⟨⟨vg,rfl,rfl,by kernel_rfl⟩,?_⟩
   exact g8 _
end
def aL:FA:=⟨"law","law",Nm,835,834,.str "law_lentgate_k12_told_as_lost" 1436⟩
theorem tbE:Tb zw:=⟨⟨_,by rfl,.head _⟩,⟨_,by rfl,.tail _ (.head _)⟩,⟨_,by rfl,.tail _ (.tail _ (.head _))⟩,⟨_,by rfl,.tail _ (.tail _ (.tail _ (.head _)))⟩,⟨_,by rfl,.tail _ (.tail _ (.tail _ (.tail _ (.head _))))⟩,by rfl,by rfl,by rfl,by rfl,by rfl,by rfl⟩
theorem UP(ns:List Int):aw (P zw) 12 28 [.ls (ns.map RV.int)] (sG 546 S.lp S.lq) (λv M2=>v= .bl true/\M2 546=some (.tb 546 S.lp S.lq)):=ZG tbE K2 λ_ h=>⟨rfl,h⟩
theorem mM{p:Params}(X:(H12.K p).In h):(H12.K0 p).In h/\h.get? 546=some (PySem.W.tabObj #[]):=
 ⟨λa o e=>X a o (by show List.lookup a (H12.K0 p++_)=_;rw[List.lookup_append,e];rfl),X 546 _ (by show List.lookup _ (H12.K0 p++_)=_;rw[List.lookup_append,GU];rfl)⟩
theorem walk{l:PySem.W.OpenLaw}{q:Program}{loose:aB}{XP:(bq)->Heap->Prop}{YP:World->Heap->Prop}{d:DefRec}(hn:l.most=some 63)(hp:l.prog=PySem.Challenge.pw_lentgate_k12_told_as_lost)(hdn:d.name= "law")(hdf:d.params.defaults= [])
 (hY:∀(w:World) (h:Heap),YP w h->(H12.K0 w.2).In h/\h.get? 546=some (PySem.W.tabObj #[])):PySem.W.WalkO q loose XP YP l.row.toRowW d [] (λf vs=>PySem.call f vs):=by
 refine R.jK (n:=63) (k:=12+1) (x:="script") (K:=H12.K0) (sp:=aw (P zw) 12 28) (T:=546) (c:=548) (pos:=S.lp) (lq:=S.lq) hn (by decide) hdf ⟨rfl,by decide,by decide⟩ hY GU (λp h X=>Kq (Q8 p) X) (λw mg fa h X G hm=>?_) λns _=>UP ns
 have hl:=GW X G (sH,aL) (eS.mpr (.inr (eS.mpr (.inr (eS.mpr (.inl (.tail _ (.tail _ (.tail _ (.tail _ (.head _)))))))))));have hf:=hl.k0 rfl;rw[hdn]at hm;have:fa=aL.g:=by have:=hm.symm.trans hf;injection this with this;injection this
 subst this;rw[hp];exact⟨fdOf aL,λs u=>.of_eq (by kernel_rfl),λbase kb _=>(As (YZ X G) kb 12 28 sH aL.g (fdOf aL) rfl hl).1⟩
end K12
open PySem PySem.W PyProof.Rows
theorem K12.wa:looksOpen PySem.Challenge.pw_lentgate_k12_told_as_lost=true:=by kernel_rfl
theorem K12.wb:(PySem.Challenge.rw_lentgate_k12_told_as_lost).row.wellSaid=true:=by
 delta OpenRow.wellSaid OpenRow.partSaid
 rw[show looksOpen (PySem.Challenge.rw_lentgate_k12_told_as_lost).row.prog=true from K12.wa];kernel_rfl
theorem K12.ws:PySem.Challenge.rw_lentgate_k12_told_as_lost.wellSaid=true:=by
 delta OpenLaw.wellSaid
 rw[K12.wb];kernel_rfl
theorem PySem.Challenge.cw_lentgate_k12_told_as_lost_holds : PySem.Challenge.rw_lentgate_k12_told_as_lost.Holds := by
 w_on;refine PySem.W.holds_law K12.ws λsaid=>?_
 refine PySem.W.holds_open (r:=(PySem.Challenge.rw_lentgate_k12_told_as_lost).row) (q:=H12.q) (loose:=H12.loose) (Xt:=H12.Xt) (XP:=PySem.W.XL H12.q [])
  (Yf:=(PySem.W.kHook H12.K H12.ks H12.gI).obs) (Ya:=(PySem.W.kHook H12.K H12.ks H12.gI).val) (YP:=(PySem.W.kHook H12.K H12.ks H12.gI).says) (N:=H12.NN)
  H12.left (PySem.W.Hook.of _) (PySem.W.Hook.keeps _) (λs e=>PySem.W.xl_of s (Bool.and_eq_true_iff.mp e).1) PySem.W.XL.keeps (by rfl) (by rfl) (by rfl)
  (λs e=>PySem.W.recFacts_of (Bool.and_eq_true_iff.mp e).2) (by rfl) (by assumption) (by decide+kernel) ⟨rfl,rfl,rfl,rfl,rfl,by decide+kernel⟩ ?hw ?hc
 (case hw=>w_witness2)
 k_fill
 exact K12.walk (l:=PySem.Challenge.rw_lentgate_k12_told_as_lost) rfl rfl rfl rfl (λw h Y=>K12.mM (PySem.W.kIn_of Y))
