import PyProof.Rows.All
import Wide.All
import OpenK.AllK
import Wide.FinOn
import Lean
import PyProof.EqAt
import PyProof.EqKinds
import PyProof.TupleCall
import PyProof.NeKinds
import PyProof.ZipIter
import KE.KDictSum
import KE.KEqDict
import KE.KSortedM
import PySem.Challenge.RW_lentgate_k05_numbers_picked_and_given_ba
section
set_option Elab.async false
set_option linter.all false
set_option maxRecDepth 100000
namespace L2
open PySem PySem.Spec PyProof.Rows
abbrev Key := Sum Int Str
def keyIs : Key → Value → Bool
  | .inl k, v => Value.isInt k v
  | .inr x, v => Value.isStrOf x v
def keyH (w : World) : Key → Int
  | .inl k => hashInt k
  | .inr x => hashStr w x
theorem keyIs_shape : ∀ {k : Key} {v : Value}, keyIs k v = true → (∃ i t, k = Sum.inl i ∧ v = Value.int i t) ∨ (∃ x t, k = Sum.inr x ∧ v = Value.str x t)
  | .inl i, v, h => by
    obtain ⟨t, e⟩ := Value.isInt_shape (k := i) (v := v) h
    exact .inl ⟨i, t, rfl, e⟩
  | .inr x, v, h => by
    obtain ⟨t, e⟩ := Value.isStrOf_shape (x := x) (v := v) h
    exact .inr ⟨x, t, rfl, e⟩
theorem keyIs_int (i : Int) (t : Tok) : keyIs (.inl i) (.int i t) = true := by simp [keyIs, Value.isInt]
theorem keyIs_str (x : Str) (t : Tok) : keyIs (.inr x) (.str x t) = true := by simp [keyIs, Value.isStrOf]
theorem key_ll (a b : Int) : decide ((Sum.inl a : Key) = Sum.inl b) = (a == b) := by
  by_cases e : a = b
  · subst e; simp
  · have h : ¬ (Sum.inl a : Key) = Sum.inl b := fun q => e (Sum.inl.inj q)
    rw [decide_eq_false h]
    exact (beq_eq_false_iff_ne.mpr e).symm
theorem key_rr (a b : Str) : decide ((Sum.inr a : Key) = Sum.inr b) = decide (a = b) := by
  by_cases e : a = b
  · subst e; simp
  · have h : ¬ (Sum.inr a : Key) = Sum.inr b := fun q => e (Sum.inr.inj q)
    rw [decide_eq_false h, decide_eq_false e]
theorem key_lr (a : Int) (b : Str) : decide ((Sum.inl a : Key) = Sum.inr b) = false := decide_eq_false (fun q => nomatch q)
theorem key_rl (a : Str) (b : Int) : decide ((Sum.inr a : Key) = Sum.inl b) = false := decide_eq_false (fun q => nomatch q)
def mixKind (prog : Program) (w : World) : PySem.KeyKind prog w Key where
  is := keyIs
  hash := keyH w
  inj := fun v a b ha hb => by
    rcases keyIs_shape ha with ⟨i, t, rfl, rfl⟩ | ⟨x, t, rfl, rfl⟩
    · rcases keyIs_shape hb with ⟨j, u, rfl, e⟩ | ⟨y, u, rfl, e⟩
      · injection e with e1 _; rw [e1]
      · exact nomatch e
    · rcases keyIs_shape hb with ⟨j, u, rfl, e⟩ | ⟨y, u, rfl, e⟩
      · exact nomatch e
      · injection e with e1 _; rw [e1]
  byValue := fun k v h => by
    rcases keyIs_shape h with ⟨i, t, rfl, rfl⟩ | ⟨x, t, rfl, rfl⟩ <;> rfl
  pyHash := fun hv h => by
    rcases keyIs_shape hv with ⟨i, t, rfl, rfl⟩ | ⟨x, t, rfl, rfl⟩
    · exact wpAny_pyHash_int h
    · exact wpAny_pyHash_str h
  eqBool := fun hu hv h => by
    rcases keyIs_shape hu with ⟨i, t, rfl, rfl⟩ | ⟨x, t, rfl, rfl⟩
    · rcases keyIs_shape hv with ⟨j, u, rfl, rfl⟩ | ⟨y, u, rfl, rfl⟩
      · rw [key_ll] at h; exact wpAny_eqBool_int h
      · rw [key_lr] at h; exact SeqAt.EqAt.int_str i t y u _ _ _ _ h
    · rcases keyIs_shape hv with ⟨j, u, rfl, rfl⟩ | ⟨y, u, rfl, rfl⟩
      · rw [key_rl] at h; exact SeqAt.EqAt.str_int x t j u _ _ _ _ h
      · rw [key_rr] at h; exact wpAny_eqBool_str h
  «strs» := fun k x t v h => by
    rcases keyIs_shape h with ⟨i, u, rfl, e⟩ | ⟨y, u, rfl, e⟩
    · exact nomatch e
    · injection e with e1 _
      subst e1
      cases v <;> rfl
theorem mixKind_int (prog : Program) (w : World) (i : Int) (t : Tok) : (mixKind prog w).is (.inl i) (.int i t) = true := keyIs_int i t
theorem mixKind_str (prog : Program) (w : World) (x : Str) (t : Tok) : (mixKind prog w).is (.inr x) (.str x t) = true := keyIs_str x t
end L2
namespace L2
open PySem PySem.Spec PyProof.Rows
inductive V where
  | non | bl (b : Bool) | int (i : Int) | str (x : Str) | byt (b : Array UInt8) | flt (b : UInt64) | ref (a : Addr) | ty (n : String)
  deriving DecidableEq
def RelV : V → Value → Prop
  | .non, u => u = Value.none
  | .bl b, u => u = Value.bool b
  | .int i, u => ∃ t, u = Value.int i t
  | .str x, u => ∃ t, u = Value.str x t
  | .byt b, u => ∃ t, u = Value.bytes b t
  | .flt b, u => ∃ t, u = Value.float b t
  | .ref a, u => u = Value.ref a
  | .ty n, u => u = Value.type n
abbrev Vals : List V → List Value → Prop := Paired RelV
theorem Vals.length {xs : List V} {us : List Value} (r : Vals xs us) : xs.length = us.length := Paired.length r
theorem Vals.get : ∀ {xs : List V} {us : List Value} {i : Nat} {x : V}, Vals xs us → xs[i]? = some x → ∃ u, us[i]? = some u ∧ RelV x u
  | _, _, _, _, .nil, e => by simp at e
  | _, _, 0, _, .cons r _, e => by simp at e; subst e; exact ⟨_, rfl, r⟩
  | _, _, i + 1, x, .cons _ t, e => by
    obtain ⟨u, h1, h2⟩ := Vals.get (i := i) (x := x) t (by simpa using e)
    exact ⟨u, by simpa using h1, h2⟩
theorem Vals.set {x : V} {u : Value} (r : RelV x u) : ∀ {xs : List V} {us : List Value} (i : Nat), Vals xs us → Vals (xs.set i x) (us.set i u)
  | _, _, _, .nil => .nil
  | _, _, 0, .cons _ t => .cons r t
  | _, _, i + 1, .cons q t => .cons q (Vals.set r i t)
theorem Vals.append : ∀ {xs ys : List V} {us ws : List Value}, Vals xs us → Vals ys ws → Vals (xs ++ ys) (us ++ ws)
  | _, _, _, _, .nil, s => s
  | _, _, _, _, .cons r t, s => .cons r (Vals.append t s)
theorem Vals.take : ∀ {xs : List V} {us : List Value} (n : Nat), Vals xs us → Vals (xs.take n) (us.take n)
  | _, _, 0, _ => .nil
  | _, _, _ + 1, .nil => .nil
  | _, _, n + 1, .cons r t => .cons r (Vals.take n t)
theorem Vals.drop : ∀ {xs : List V} {us : List Value} (n : Nat), Vals xs us → Vals (xs.drop n) (us.drop n)
  | _, _, 0, r => r
  | _, _, _ + 1, .nil => .nil
  | _, _, n + 1, .cons _ t => Vals.drop n t
theorem Vals.none_of : ∀ {xs : List V} {us : List Value} {i : Nat}, Vals xs us → xs[i]? = none → us[i]? = none := fun {xs us i} r e => by
  have h1 := r.length
  have h2 : xs.length ≤ i := List.getElem?_eq_none_iff.mp e
  exact List.getElem?_eq_none_iff.mpr (by omega)
def RelO : Option V → Option Value → Prop
  | some v, some u => RelV v u
  | none, none => True
  | _, _ => False
def KV {κ : Type} : List (κ × V) → List (κ × Value) → Prop := Paired fun (p : κ × V) (q : κ × Value) => p.1 = q.1 ∧ RelV p.2 q.2
def kV : Key → V
  | .inl i => .int i
  | .inr x => .str x
inductive HO where
  /-- a list -/
  | lst (xs : List V)
  /-- a tuple (never changes) -/
  | tup (xs : List V)
  /-- a dict whose keys are ints and texts; one whose keys are tuples of ints and texts (the empty one is both) -/
  | dK (kvs : List (Key × V)) | dT (kvs : List (List Key × V))
  /-- a set of ints: its members, its size -/
  | set (S : Int → Bool) (n : Nat)
  /-- an instance of the class at C, its dict at dx, its attributes -/
  | ins (C dx : Addr) (fs : List (Str × V))
  /-- the dict of the instance at x -/
  | own (x : Addr)
  /-- the dict of an exception -/
  | xd (fs : List (Str × V))
  /-- a bound method, f of x -/
  | met (f x : Addr)
  /-- a range object lo, lo + 1, .. below hi -/
  | rng (lo hi : Int)
  /-- a thing that is known to the object (the script; a dict while a loop walks it): read, never written while it is so -/
  | frz (o : Obj) (u : HO)
  /-- a code object's table -/
  | tbl (ps : Array Value)
  /-- any other thing, by what is true of its one object (a def of one's own: SetO a S n := HO.ext fun h => ..) -/
  | ext (φ : Heap → Prop)
abbrev Hp := Addr → Option HO
def upd (H : Hp) (a : Addr) (o : HO) : Hp := fun b => if b = a then some o else H b
theorem upd_same {H : Hp} {a : Addr} {o : HO} : upd H a o a = some o := by unfold upd; rw [if_pos rfl]
theorem upd_ne {H : Hp} {a b : Addr} {o : HO} (h : b ≠ a) : upd H a o b = H b := by unfold upd; rw [if_neg h]
theorem upd_upd {H : Hp} {a : Addr} {o u : HO} : upd (upd H a o) a u = upd H a u := by
  funext b; unfold upd; split <;> rfl
theorem ne_of {H : Hp} {a b : Addr} {o u : HO} (h : H a = some o) (h' : H b = some u) (d : o ≠ u) : a ≠ b := by
  intro e; subst e; rw [h] at h'; exact d (Option.some.inj h')
theorem ne_of_none {H : Hp} {a b : Addr} {o : HO} (h : H a = some o) (h' : H b = none) : a ≠ b := by
  intro e; subst e; rw [h] at h'; cases h'
section
variable (P : Program) (w : World)
def ObjOk (H : Hp) (h : Heap) (a : Addr) : HO → Prop
  | .lst xs => xs.length ≤ sizeLine ∧ ∃ (its : List Value) (n : Nat), Vals xs its ∧ h.get? a = some { cls := .type "list", data := .seq its.toArray n }
  | .tup xs => xs.length ≤ sizeLine ∧ ∃ its : List Value, Vals xs its ∧ IsTup h a its.toArray
  | .dK kvs => kvs.length ≤ sizeLine ∧ (a == sysModules) = false ∧ ∃ vs, KV kvs vs ∧ h.DictOf (mixKind P w) a vs
  | .dT kvs => kvs.length ≤ sizeLine ∧ (a == sysModules) = false ∧ ∃ xs : List (List Key × Addr × Value),
      Paired (fun (p : List Key × V) (q : List Key × Addr × Value) => p.1 = q.1 ∧ H q.2.1 = some (.tup (p.1.map kV)) ∧ RelV p.2 q.2.2) kvs xs ∧
      ∃ o es ep, h.get? a = some o ∧ o.ExactDict ∧ o.data = .dict es ep ∧ es.toList = xs.map (entryOfKey (tupleKind (mixKind P w))) ∧ (xs.map (·.1)).Nodup
  | .set S n => h.SetOf (intKind P w) a S n
  | .ins C dx fs => H dx = some (.own a) ∧ fs.length ≤ 1000 ∧ dx ≠ a ∧ h.get? a = some (PySem.W.instObj C dx) ∧
      ∃ mA, h.Ns1 dx mA ∧ (∀ f, RelO (fs.lookup f) (mA f)) ∧ PySem.Within mA (fs.map (·.1))
  | .own _ => ∃ o, h.get? a = some o
  | .xd fs => ∃ mA, h.Ns1 a mA ∧ ∀ f, RelO (fs.lookup f) (mA f)
  | .rng lo hi => ∃ t u v, h.get? a = some { cls := .type "range", data := .fields #[.int lo t, .int hi u, .int 1 v] }
  | .frz o u => h.get? a = some o ∧ ObjOk H h a u
  | .tbl ps => h.get? a = some { cls := .none, data := .fields ps }
  | .met f x => h.get? a = some (PySem.W.methodObj (.ref f) (.ref x))
  | .ext φ => φ h ∧ (∃ o, h.get? a = some o) ∧ ∀ h1 h2 : Heap, φ h1 → (∀ o, h1.get? a = some o → h2.get? a = some o) → φ h2
def HOk (H : Hp) (h : Heap) : Prop := ∀ a o, H a = some o → ObjOk P w H h a o
end
section
variable {P : Program} {w : World} {H H' : Hp} {h h' : Heap} {a : Addr} {o : HO}
theorem ObjOk.lt (x : ObjOk P w H h a o) : a < h.objs.size := by
  cases o with
  | lst xs => obtain ⟨_, _, _, _, e⟩ := x; exact Heap.lt_size e
  | tup xs => obtain ⟨_, _, _, p⟩ := x; exact p.lt
  | dK kvs => obtain ⟨_, _, _, _, o, _, _, e, _⟩ := x; exact Heap.lt_size e
  | dT kvs => obtain ⟨_, _, _, _, o, _, _, e, _⟩ := x; exact Heap.lt_size e
  | set S n => obtain ⟨o, _, _, _, e, _⟩ := x; exact Heap.lt_size e
  | ins C dx fs => obtain ⟨_, _, _, e, _⟩ := x; exact Heap.lt_size e
  | own y => obtain ⟨_, e⟩ := x; exact Heap.lt_size e
  | xd fs => obtain ⟨_, ⟨_, _, _, e, _⟩, _⟩ := x; exact Heap.lt_size e
  | rng lo hi => obtain ⟨_, _, _, e⟩ := x; exact Heap.lt_size e
  | frz ob u => obtain ⟨e, _⟩ := x; exact Heap.lt_size e
  | tbl ps => exact Heap.lt_size (show h.get? a = some _ from x)
  | met f y => exact Heap.lt_size (show h.get? a = some _ from x)
  | ext φ => obtain ⟨_, ⟨_, e⟩, _⟩ := x; exact Heap.lt_size e
theorem Paired.mapP {α β : Type} {F G : α → β → Prop} : ∀ {l₁ : List α} {l₂ : List β}, Paired F l₁ l₂ → (∀ a b, F a b → G a b) → Paired G l₁ l₂
  | _, _, .nil, _ => .nil
  | _, _, .cons r t, f => .cons (f _ _ r) (Paired.mapP t f)
theorem ObjOk.stay (x : ObjOk P w H h a o) (k : ∀ b u, (b = a ∨ H b = some (.own a)) → h.get? b = some u → h'.get? b = some u)
    (ho : ∀ b, H b = some (.own a) → H' b = some (.own a)) (ht : ∀ b xs, H b = some (.tup xs) → H' b = some (.tup xs)) : ObjOk P w H' h' a o := by
  induction o with
  | lst xs => obtain ⟨z, its, n, r, e⟩ := x; exact ⟨z, its, n, r, k _ _ (.inl rfl) e⟩
  | tup xs => obtain ⟨z, its, r, ob, e, c⟩ := x; exact ⟨z, its, r, ob, k _ _ (.inl rfl) e, c⟩
  | dK kvs => obtain ⟨z, y, vs, r, ob, es, ep, e, c⟩ := x; exact ⟨z, y, vs, r, ob, es, ep, k _ _ (.inl rfl) e, c⟩
  | dT kvs =>
    obtain ⟨z, y, xs, r, ob, es, ep, e, c⟩ := x
    exact ⟨z, y, xs, Paired.mapP r fun p q z => ⟨z.1, ht _ _ z.2.1, z.2.2⟩, ob, es, ep, k _ _ (.inl rfl) e, c⟩
  | set S n => obtain ⟨ob, es, ep, t, e, c⟩ := x; exact ⟨ob, es, ep, t, k _ _ (.inl rfl) e, c⟩
  | ins C dx fs =>
    obtain ⟨d, z, ne, e, mA, ⟨od, es, ep, e2, c⟩, r⟩ := x
    exact ⟨ho _ d, z, ne, k _ _ (.inl rfl) e, mA, ⟨od, es, ep, k _ _ (.inr d) e2, c⟩, r⟩
  | own y => obtain ⟨ob, e⟩ := x; exact ⟨ob, k _ _ (.inl rfl) e⟩
  | xd fs => obtain ⟨mA, ⟨od, es, ep, e, c⟩, r⟩ := x; exact ⟨mA, ⟨od, es, ep, k _ _ (.inl rfl) e, c⟩, r⟩
  | rng lo hi => obtain ⟨t, u, v, e⟩ := x; exact ⟨t, u, v, k _ _ (.inl rfl) e⟩
  | frz ob u ih => obtain ⟨e, q⟩ := x; exact ⟨k _ _ (.inl rfl) e, ih q⟩
  | tbl ps =>
    have e : h.get? a = some { cls := .none, data := .fields ps } := x
    show h'.get? a = some { cls := .none, data := .fields ps }
    exact k a _ (.inl rfl) e
  | met f y =>
    have e : h.get? a = some (PySem.W.methodObj (.ref f) (.ref y)) := x
    show h'.get? a = some (PySem.W.methodObj (.ref f) (.ref y))
    exact k a _ (.inl rfl) e
  | ext φ => obtain ⟨p, ⟨o, e⟩, st⟩ := x; exact ⟨st _ _ p fun o q => k _ _ (.inl rfl) q, ⟨o, k _ _ (.inl rfl) e⟩, st⟩
theorem HOk.lt (x : HOk P w H h) (e : H a = some o) : a < h.objs.size := (x a o e).lt
theorem HOk.fresh (x : HOk P w H h) (e : h.objs.size ≤ a) : H a = none := by
  cases q : H a with
  | none => rfl
  | some u => exact absurd (Nat.lt_of_lt_of_le (x.lt q) e) (Nat.lt_irrefl _)
theorem HOk.kept (x : HOk P w H h) (k : ∀ b u, h.get? b = some u → h'.get? b = some u) : HOk P w H h' := fun a o e =>
  (x a o e).stay (fun b u _ q => k b u q) (fun _ q => q) fun _ _ q => q
theorem HOk.laid (x : HOk P w H h) (k : ∀ b u, h.get? b = some u → h'.get? b = some u) (hp : h.objs.size ≤ a) (new : ObjOk P w (upd H a o) h' a o) : HOk P w (upd H a o) h' := fun b u e => by
  have hn := x.fresh hp
  by_cases hb : b = a
  · subst hb; rw [upd_same] at e; cases e; exact new
  · rw [upd_ne hb] at e
    exact (x b u e).stay (fun c v _ q => k c v q) (fun c q => by rw [upd_ne (ne_of_none q hn)]; exact q) fun c xs q => by rw [upd_ne (ne_of_none q hn)]; exact q
end
def Rd (H : Hp) (a : Addr) (u : HO) : Prop := H a = some u ∨ ∃ o, H a = some (.frz o u)
theorem Rd.of {H : Hp} {a : Addr} {u : HO} (h : H a = some u) : Rd H a u := .inl h
theorem Rd.ok {P : Program} {w : World} {H : Hp} {h : Heap} {a : Addr} {u : HO} (r : Rd H a u) (x : HOk P w H h) : ObjOk P w H h a u := by
  rcases r with r | ⟨o, r⟩
  · exact x a u r
  · obtain ⟨_, q⟩ := x a _ r
    exact q
def Mut : Option HO → Prop
  | some (.lst _) => True
  | some (.dK _) => True
  | some (.dT _) => True
  | some (.set _ _) => True
  | some (.ins _ _ _) => True
  | some (.ext _) => True
  | _ => False
section
variable {P : Program} {w : World} {H : Hp} {h h' : Heap} {x e : Addr} {o' : HO}
theorem HOk.write (ok : HOk P w H h) (mu : Mut (H x)) (he : e = x ∨ H e = some (.own x)) (k : ∀ b u, b ≠ e → h.get? b = some u → h'.get? b = some u) (heo : ∃ u, h'.get? e = some u)
    (new : ObjOk P w (upd H x o') h' x o') : HOk P w (upd H x o') h' := fun b u q => by
  have nown : ∀ c y, H c = some (.own y) → c ≠ x := fun c y r z => by subst z; rw [r] at mu; exact mu
  have ntup : ∀ c xs, H c = some (.tup xs) → c ≠ x := fun c xs r z => by subst z; rw [r] at mu; exact mu
  by_cases hb : b = x
  · subst hb; rw [upd_same] at q; cases q; exact new
  · rw [upd_ne hb] at q
    by_cases hbe : b = e
    · have q' : H b = some (.own x) := by
        rcases he with z | z
        · exact absurd (hbe.trans z) hb
        · rw [hbe]; exact z
      rw [q] at q'; cases q'
      obtain ⟨v, hv⟩ := heo
      exact ⟨v, by rw [hbe]; exact hv⟩
    · refine (ok b u q).stay (fun c v hc r => k c v ?_ r) (fun c r => by rw [upd_ne (nown c b r)]; exact r) fun c xs r => by rw [upd_ne (ntup c xs r)]; exact r
      rcases hc with rfl | hc
      · exact hbe
      · rintro rfl
        rcases he with z | z
        · exact nown c b hc z
        · rw [hc] at z; cases z; exact hb rfl
end
structure Un (fs ex : List Addr) (H H' : Hp) (h h' : Heap) : Prop where
  keep : ∀ b o, h.get? b = some o → H b = none → b ∉ fs → b ∉ ex → h'.get? b = some o
  slot : ∀ b o, h.get? b = some o → H b = none → b ∈ fs → b ∉ ex → ∃ sl, h'.get? b = some { o with slots := sl }
  free : ∀ b o, h.get? b = some o → H b = none → b ∉ ex → H' b = none
  there : ∀ b o, h.get? b = some o → b ∉ ex → ∃ o', h'.get? b = some o'
  tups : ∀ b xs, H b = some (.tup xs) → H' b = some (.tup xs)
  frzs : ∀ b o u, H b = some (.frz o u) → H' b = some (.frz o u)
  tbls : ∀ b ps, H b = some (.tbl ps) → ∃ more, H' b = some (.tbl (ps ++ more))
section
variable {fs fs' ex ex' : List Addr} {H H1 H2 : Hp} {h h1 h2 h' : Heap} {a x e : Addr} {o : HO}
theorem Un.any (u : Un fs ex H H1 h h1) {b : Addr} {ob : Obj} (q : h.get? b = some ob) (n : H b = none) (hx : b ∉ ex) : ∃ sl, h1.get? b = some { ob with slots := sl } := by
  by_cases hb : b ∈ fs
  · exact u.slot b ob q n hb hx
  · exact ⟨ob.slots, u.keep b ob q n hb hx⟩
theorem Un.trans (a : Un fs ex H H1 h h1) (b : Un fs ex H1 H2 h1 h2) : Un fs ex H H2 h h2 where
  keep := fun c ob q n hc hx => b.keep c ob (a.keep c ob q n hc hx) (a.free c ob q n hx) hc hx
  slot := fun c ob q n hc hx => by
    obtain ⟨sl, e1⟩ := a.slot c ob q n hc hx
    obtain ⟨sl', e2⟩ := b.slot c _ e1 (a.free c ob q n hx) hc hx
    exact ⟨sl', e2⟩
  free := fun c ob q n hx => by
    obtain ⟨o', e1⟩ := a.there c ob q hx
    exact b.free c o' e1 (a.free c ob q n hx) hx
  there := fun c ob q hx => by
    obtain ⟨o', e1⟩ := a.there c ob q hx
    exact b.there c o' e1 hx
  tups := fun c xs q => b.tups c xs (a.tups c xs q)
  frzs := fun c ob xs q => b.frzs c ob xs (a.frzs c ob xs q)
  tbls := fun c ps q => by
    obtain ⟨m1, e1⟩ := a.tbls c ps q
    obtain ⟨m2, e2⟩ := b.tbls c _ e1
    exact ⟨m1 ++ m2, by rw [e2, Array.append_assoc]⟩
theorem Un.kept (k : ∀ b u, h.get? b = some u → h'.get? b = some u) : Un fs ex H H h h' :=
  ⟨fun b ob q _ _ _ => k b ob q, fun b ob q _ _ _ => ⟨ob.slots, k b ob q⟩, fun _ _ _ n _ => n, fun b ob q _ => ⟨ob, k b ob q⟩, fun _ _ q => q, fun _ _ _ q => q, fun _ ps q => ⟨#[], by rw [q]; simp⟩⟩
theorem Un.refl : Un fs ex H H h h := Un.kept fun _ _ q => q
theorem Un.laid (k : ∀ b u, h.get? b = some u → h'.get? b = some u) (hp : h.objs.size ≤ a) (hn : H a = none) : Un fs ex H (upd H a o) h h' where
  keep := fun b u q _ _ _ => k b u q
  slot := fun b u q _ _ _ => ⟨u.slots, k b u q⟩
  free := fun b u q n _ => by rw [upd_ne (Nat.ne_of_lt (Nat.lt_of_lt_of_le (Heap.lt_size q) hp))]; exact n
  there := fun b u q _ => ⟨u, k b u q⟩
  tups := fun b xs q => by rw [upd_ne (ne_of_none q hn)]; exact q
  frzs := fun b u xs q => by rw [upd_ne (ne_of_none q hn)]; exact q
  tbls := fun b ps q => ⟨#[], by rw [upd_ne (ne_of_none q hn), q]; simp⟩
theorem Un.write (mu : Mut (H x)) (he : e = x ∨ H e = some (.own x)) (k : ∀ b u, b ≠ e → h.get? b = some u → h'.get? b = some u) (heo : ∃ u, h'.get? e = some u) : Un fs ex H (upd H x o) h h' := by
  have hx : ∀ b, H b = none → b ≠ x := fun b n z => by subst z; rw [n] at mu; exact mu
  have hb : ∀ b, H b = none → b ≠ e := fun b n z => by
    subst z
    rcases he with r | r
    · exact hx b n r
    · rw [n] at r; cases r
  have hm : ∀ b u, H b = some u → ¬ Mut (some u) → b ≠ x := fun b u q nm z => by subst z; rw [q] at mu; exact nm mu
  refine ⟨fun b u q n _ _ => k b u (hb b n) q, fun b u q n _ _ => ⟨u.slots, k b u (hb b n) q⟩, fun b u q n _ => by rw [upd_ne (hx b n)]; exact n, fun b u q _ => ?_,
    fun b xs q => by rw [upd_ne (hm b _ q fun z => z)]; exact q, fun b u xs q => by rw [upd_ne (hm b _ q fun z => z)]; exact q, fun b ps q => ⟨#[], by rw [upd_ne (hm b _ q fun z => z), q]; simp⟩⟩
  by_cases hbe : b = e
  · subst hbe; exact heo
  · exact ⟨u, k b u hbe q⟩
theorem Un.mono (u : Un fs ex H H1 h h1) (hs : ∀ b ∈ fs, b ∈ fs') (hx : ∀ b ∈ ex, b ∈ ex') : Un fs' ex' H H1 h h1 :=
  ⟨fun b ob q n hb he => u.keep b ob q n (fun z => hb (hs b z)) fun z => he (hx b z), fun _ _ q n _ he => u.any q n fun z => he (hx _ z), fun b ob q n he => u.free b ob q n fun z => he (hx b z), fun b ob q he => u.there b ob q fun z => he (hx b z), u.tups, u.frzs, u.tbls⟩
end
def trk (h : Heap) (H : Hp) : List Addr := (List.range h.objs.size).filter fun a => (H a).isSome
def hidT (h : Heap) (H : Hp) : Heap := PySem.W.hideAll h (trk h H)
theorem hidT_size (h : Heap) (H : Hp) : (hidT h H).objs.size = h.objs.size := PySem.W.hideAll_size _ _
theorem hidT_get {h : Heap} {H : Hp} {b : Addr} {o : Obj} (e : h.get? b = some o) (n : H b = none) : (hidT h H).get? b = some o :=
  PySem.W.hideAll_get _ e fun hm => by
    have q : (H b).isSome = true := (List.mem_filter.mp hm).2
    rw [n] at q; simp at q
theorem of_hidT {h : Heap} {H : Hp} {b : Addr} {o : Obj} (e : (hidT h H).get? b = some o) : h.get? b = some o ∧ H b = none := by
  have e' : h.get? b = some o := PySem.W.of_hideAll (trk h H) e
  refine ⟨e', ?_⟩
  cases q : H b with
  | none => rfl
  | some x =>
    have hm : b ∈ trk h H := List.mem_filter.mpr ⟨List.mem_range.mpr (Heap.lt_size e'), by simp [q]⟩
    have z : (hidT h H).get? b = none := PySem.W.hideAll_none (trk h H) hm
    rw [z] at e; cases e
def allNews (g h : Heap) (L : Addr) : List (Addr × Obj) := (List.range h.objs.size).filterMap fun a => if a = L ∨ (g.get? a).isSome = true then none else (h.get? a).map fun o => (a, o)
def rest (g h : Heap) (L d : Addr) : List (Addr × Obj) := (allNews g h L).filter fun p => decide (p.1 ≠ d)
end L2
namespace L2
open PySem PySem.Spec PyProof.Rows
structure Mod (K : PySem.W.Frag) (mg : Str → Option Value) (base : Heap) : Prop where
  kin : K.In base
  glob : base.Ns mainGlobals mg
  blt : ∃ mb, base.Ns builtinsNs mb ∧ ∀ x : Str, x ≠ "__name__" → mb x = bootBuiltins x
  nolimit : base.NoLimit
structure Cx where
  prog : Program
  w : World
  K : PySem.W.Frag
  mg : Str → Option Value
  base : Heap
  A : Around
  N : List Str
  s₀ : Shared
  H₀ : Hp
  env : Env
  outer : List Env
  stack : List Env
  ex : List Addr
  fn : Str → Bool
  calm : Bool
  pn : List (Addr × Obj)
  xe : Value → Shared → Prop
def frs (l : List Env) : List Addr := l.filterMap (·.frame)
abbrev Cx.fs (X : Cx) : List Addr := frs X.outer
def Vis (sc : Scope) (x : Str) : Prop := sc.names.lookup x = some .local ∨ sc.names.lookup x = some .cell ∨ sc.names.lookup x = some .free
def Loc (sc : Scope) (x : Str) : Prop := sc.names.lookup x = some .local ∨ sc.names.lookup x = some .cell
def Look (env : Env) (h : Heap) (m : Str → Option Value) (x : Str) (u : Value) : Prop :=
  (env.kindOf x = some .local ∧ m x = some u) ∨ ((env.kindOf x = some .cell ∨ env.kindOf x = some .free) ∧ ∃ c, env.cells.lookup x = some c ∧ h.IsCell c (some u))
structure Cx.Ok (X : Cx) : Prop where
  mod : Mod X.K X.mg X.base
  kind : X.env.scope.kind = .function
  glob : X.env.globals = mainGlobals
  blt : X.env.builtins = builtinsNs
  above : X.s₀.heap.objs.size ≤ X.env.locals
  inj : ∀ x y c, X.env.cells.lookup x = some c → X.env.cells.lookup y = some c → x = y
  has : ∀ x, (X.env.kindOf x = some .cell ∨ X.env.kindOf x = some .free) → ∃ c, X.env.cells.lookup x = some c
  cab : ∀ x c, X.fn x = true → X.env.cells.lookup x = some c → X.s₀.heap.objs.size ≤ c
  hd : X.calm = true → X.A.handled = none
  frames : X.A.frames = some X.stack
  stk : X.stack = X.outer ∨ (X.stack = X.env :: X.outer ∧ X.env.frame = some X.env.locals)
  exf : ∀ b ∈ X.ex, b ≠ X.env.locals ∧ ∀ x c, X.env.cells.lookup x = some c → c ≠ b
  bs : ∀ b o, X.base.get? b = some o → X.s₀.heap.get? b = some o ∧ X.H₀ b = none
  bsz : X.base.objs.size ≤ X.s₀.heap.objs.size
  noex : ∀ b o, X.base.get? b = some o → b ∉ X.ex
  exfs : ∀ b ∈ X.ex, b ∉ X.fs
  funs : X.s₀.heap.FunFrames X.base X.outer
  frf : ∀ b ∈ X.fs, X.H₀ b = none
structure Inv (X : Cx) (pins : List (Addr × Obj)) (σ : List (Option V)) (H : Hp) (s : Shared) : Prop where
  ok : X.Ok
  os : s.os = X.s₀.os
  bare : AllBare s.gens
  base : Un X.fs X.ex X.H₀ H X.s₀.heap s.heap
  loc : ∃ m, s.heap.Ns X.env.locals m ∧ ∀ (i : Nat) (x : Str) (v : V), X.N[i]? = some x → σ[i]? = some (some v) → Vis X.env.scope x → ∃ u, RelV v u ∧ Look X.env s.heap m x u
  cell : ∀ x c, X.env.cells.lookup x = some c → ∃ v, s.heap.IsCell c v
  free : H X.env.locals = none
  freeC : ∀ x c, X.env.cells.lookup x = some c → H c = none
  pin : ∀ p ∈ X.pn ++ pins, s.heap.get? p.1 = some p.2 ∧ H p.1 = none ∧ p.1 ≠ X.env.locals ∧ p.1 ∉ X.fs ∧ ∀ v, p.2.data ≠ .cell v
  hok : HOk X.prog X.w H s.heap
  len : σ.length = X.N.length
section
variable {X : Cx} {pins : List (Addr × Obj)} {σ : List (Option V)} {H H' : Hp} {s : Shared} {h' : Heap}
theorem Cx.Ok.nofr (ok : X.Ok) {b : Addr} {o : Obj} (e : X.base.get? b = some o) : b ∉ X.fs := fun hb => by
  have := (ok.funs.mem hb).1
  rw [e] at this; cases this
theorem Inv.bs (I : Inv X pins σ H s) : ∀ b o, X.base.get? b = some o → s.heap.get? b = some o ∧ H b = none := fun b o e =>
  ⟨I.base.keep b o (I.ok.bs b o e).1 (I.ok.bs b o e).2 (I.ok.nofr e) (I.ok.noex b o e), I.base.free b o (I.ok.bs b o e).1 (I.ok.bs b o e).2 (I.ok.noex b o e)⟩
theorem Inv.bk (I : Inv X pins σ H s) : ∀ b o, X.base.get? b = some o → s.heap.get? b = some o := fun b o e => (I.bs b o e).1
theorem Inv.mod (I : Inv X pins σ H s) : Mod X.K X.mg X.base := I.ok.mod
theorem Inv.kIn (I : Inv X pins σ H s) : X.K.In s.heap := I.ok.mod.kin.keeps I.bk
theorem Inv.nolimit (I : Inv X pins σ H s) : s.heap.NoLimit := I.ok.mod.nolimit.keeps I.bk
theorem Inv.fr (I : Inv X pins σ H s) : ∃ m, Fr X.base X.env.locals s.heap m :=
  let ⟨m, hn, _⟩ := I.loc
  ⟨m, hn, I.bk, Nat.le_trans I.ok.bsz I.ok.above⟩
theorem Inv.lt (I : Inv X pins σ H s) : X.env.locals < s.heap.objs.size := let ⟨_, hn, _⟩ := I.loc; hn.lt
theorem Inv.sz (I : Inv X pins σ H s) : X.s₀.heap.objs.size ≤ s.heap.objs.size := Nat.le_trans I.ok.above (Nat.le_of_lt I.lt)
theorem Inv.nofs (I : Inv X pins σ H s) {a : Addr} (h : s.heap.objs.size ≤ a) : a ∉ X.fs := fun hb => by
  obtain ⟨_, o, ho, _⟩ := I.ok.funs.mem hb
  exact absurd (Nat.lt_of_lt_of_le (Heap.lt_size ho) (Nat.le_trans I.sz h)) (Nat.lt_irrefl _)
theorem Inv.cne (I : Inv X pins σ H s) : ∀ x c, X.env.cells.lookup x = some c → c ≠ X.env.locals := fun x c e z => by
  obtain ⟨v, o, ho, hd⟩ := I.cell x c e
  obtain ⟨m, ⟨o', es, ep, ho', hd', _⟩, _⟩ := I.loc
  rw [z, ho'] at ho; cases ho; rw [hd'] at hd; cases hd
theorem Inv.funs (I : Inv X pins σ H s) : s.heap.FunFrames X.base X.outer := by
  have all : ∀ (l : List Env), (∀ b ∈ frs l, b ∈ X.fs) → X.s₀.heap.FunFrames X.base l → s.heap.FunFrames X.base l := by
    intro l
    induction l with
    | nil => intro _ _; trivial
    | cons env r ih =>
      intro hs hl
      obtain ⟨hk, ⟨L, o, hf, hn, ho, hd⟩, hr⟩ := hl
      have hL : L ∈ X.fs := hs L (by unfold frs; rw [List.filterMap_cons, hf]; exact List.mem_cons_self)
      obtain ⟨sl, e⟩ := I.base.slot L o ho (I.ok.frf L hL) hL fun z => I.ok.exfs L z hL
      exact ⟨hk, ⟨L, _, hf, hn, e, hd⟩, ih (fun b hb => hs b (by unfold frs; rw [List.filterMap_cons, hf]; exact List.mem_cons_of_mem _ hb)) hr⟩
  exact all X.outer (fun _ hb => hb) I.ok.funs
theorem Inv.stack (I : Inv X pins σ H s) : s.heap.FunFrames X.base X.stack := by
  rcases I.ok.stk with e | ⟨e, hf⟩
  · rw [e]; exact I.funs
  · rw [e]
    obtain ⟨m, hn, _⟩ := I.loc
    refine .cons (by rw [I.ok.kind]; decide) hf hn ?_ I.funs
    exact Heap.get?_none_of_le (Nat.le_trans I.ok.bsz I.ok.above)
theorem Inv.stkSub (I : Inv X pins σ H s) : ∀ b ∈ frs X.stack, b ∈ X.env.locals :: X.fs := fun b hb => by
  rcases I.ok.stk with e | ⟨e, hf⟩
  · rw [e] at hb; exact List.mem_cons_of_mem _ hb
  · rw [e] at hb
    unfold frs at hb
    rw [List.filterMap_cons, hf] at hb
    exact hb
theorem Inv.stkFree (I : Inv X pins σ H s) : ∀ b ∈ frs X.stack, H b = none := fun b hb => by
  rcases List.mem_cons.mp (I.stkSub b hb) with e | hb
  · rw [e]; exact I.free
  · obtain ⟨_, o, ho, _⟩ := I.ok.funs.mem hb
    exact I.base.free b o ho (I.ok.frf b hb) fun z => I.ok.exfs b z hb
theorem Inv.step {g' : Array GenState} {t' : Nat} {d' : Drawn} {ch : List Addr} (I : Inv X pins σ H s)
    (hch : ∀ b ∈ ch, (b ∈ X.ex ∨ X.s₀.heap.objs.size ≤ b) ∧ b ≠ X.env.locals ∧ (∀ x c, X.env.cells.lookup x = some c → c ≠ b) ∧ ∀ p ∈ X.pn ++ pins, p.1 ≠ b)
    (keep : ∀ b o, b ≠ X.env.locals → b ∉ X.fs → b ∉ ch → s.heap.get? b = some o → H b = none → h'.get? b = some o)
    (slot : ∀ b o, b ≠ X.env.locals → b ∈ X.fs → b ∉ ch → s.heap.get? b = some o → H b = none → ∃ sl, h'.get? b = some { o with slots := sl }) (free : ∀ b o, b ∉ ch → s.heap.get? b = some o → H b = none → H' b = none)
    (there : ∀ b o, b ∉ ch → s.heap.get? b = some o → ∃ o', h'.get? b = some o')
    (tups : ∀ b xs, H b = some (.tup xs) → H' b = some (.tup xs)) (frzs : ∀ b o u, H b = some (.frz o u) → H' b = some (.frz o u)) (tbls : ∀ b ps, H b = some (.tbl ps) → ∃ more, H' b = some (.tbl (ps ++ more)))
    (ns : ∀ m, s.heap.Ns X.env.locals m → h'.Ns X.env.locals m) (hok : HOk X.prog X.w H' h') (hg : AllBare g') :
    Inv X pins σ H' { s with heap := h', gens := g', drawn := d', toks := t' } := by
  have neL : ∀ b o, X.s₀.heap.get? b = some o → b ≠ X.env.locals := fun b o e => Nat.ne_of_lt (Nat.lt_of_lt_of_le (Heap.lt_size e) I.ok.above)
  have neC : ∀ b o, X.s₀.heap.get? b = some o → b ∉ X.ex → b ∉ ch := fun b o e hx hb => by
    rcases (hch b hb).1 with z | z
    · exact hx z
    · exact absurd (Nat.lt_of_lt_of_le (Heap.lt_size e) z) (Nat.lt_irrefl _)
  have cellK : ∀ x c, X.env.cells.lookup x = some c → ∀ v, s.heap.IsCell c v → h'.IsCell c v := fun x c e v ⟨o, ho, hd⟩ => by
    have nch : c ∉ ch := fun z => (hch c z).2.2.1 x c e rfl
    by_cases hc : c ∈ X.fs
    · obtain ⟨sl, q⟩ := slot c o (I.cne x c e) hc nch ho (I.freeC x c e)
      exact ⟨_, q, hd⟩
    · exact ⟨o, keep c o (I.cne x c e) hc nch ho (I.freeC x c e), hd⟩
  refine ⟨I.ok, I.os, hg, ⟨fun b o e n hb hx => ?_, fun b o e n hb hx => ?_, fun b o e n hx => ?_, fun b o e hx => ?_, fun b xs e => tups b xs (I.base.tups b xs e), fun b o xs e => frzs b o xs (I.base.frzs b o xs e), fun b ps e => ?_⟩, ?_, fun x c e => ?_, ?_, fun x c e => ?_, fun p hp => ?_, hok, I.len⟩
  · exact keep b o (neL b o e) hb (neC b o e hx) (I.base.keep b o e n hb hx) (I.base.free b o e n hx)
  · obtain ⟨sl, e1⟩ := I.base.slot b o e n hb hx
    obtain ⟨sl', e2⟩ := slot b _ (neL b o e) hb (neC b o e hx) e1 (I.base.free b o e n hx)
    exact ⟨sl', e2⟩
  · obtain ⟨o', e1⟩ := I.base.there b o e hx
    exact free b o' (neC b o e hx) e1 (I.base.free b o e n hx)
  · obtain ⟨o', e1⟩ := I.base.there b o e hx
    exact there b o' (neC b o e hx) e1
  · obtain ⟨m1, e1⟩ := I.base.tbls b ps e
    obtain ⟨m2, e2⟩ := tbls b _ e1
    exact ⟨m1 ++ m2, by rw [e2, Array.append_assoc]⟩
  · obtain ⟨m, hn, hl⟩ := I.loc
    refine ⟨m, ns m hn, fun i x v e1 e2 e3 => ?_⟩
    obtain ⟨u, r, l⟩ := hl i x v e1 e2 e3
    refine ⟨u, r, ?_⟩
    rcases l with l | ⟨k, c, e, z⟩
    · exact .inl l
    · exact .inr ⟨k, c, e, cellK x c e _ z⟩
  · obtain ⟨v, z⟩ := I.cell x c e
    exact ⟨v, cellK x c e v z⟩
  · obtain ⟨m, ⟨o, _, _, ho, _⟩, _⟩ := I.loc
    exact free _ o (fun z => (hch _ z).2.1 rfl) ho I.free
  · obtain ⟨v, o, ho, hd⟩ := I.cell x c e
    exact free c o (fun z => (hch c z).2.2.1 x c e rfl) ho (I.freeC x c e)
  · obtain ⟨e, n, ne, nf, d⟩ := I.pin p hp
    have nch : p.1 ∉ ch := fun z => (hch p.1 z).2.2.2 p hp rfl
    exact ⟨keep p.1 p.2 ne nf nch e n, free p.1 p.2 nch e n, ne, nf, d⟩
theorem Inv.un {t' : Nat} (I : Inv X pins σ H s) (u : Un X.fs [] H H' s.heap h') (hok : HOk X.prog X.w H' h') : Inv X pins σ H' { s with heap := h', toks := t' } := by
  obtain ⟨m, ⟨o, es, ep, ho, r⟩, _⟩ := id I.loc
  obtain ⟨sl, hL⟩ := u.any ho I.free (by simp)
  exact I.step (g' := s.gens) (d' := s.drawn) (ch := []) (fun _ z => nomatch z) (fun b o _ hb _ e n => u.keep b o e n hb (by simp)) (fun b o _ hb _ e n => u.slot b o e n hb (by simp)) (fun b o _ e n => u.free b o e n (by simp)) (fun b o _ e => u.there b o e (by simp)) u.tups u.frzs u.tbls (fun m' hm => by
    obtain ⟨o', es', ep', ho', r'⟩ := hm
    rw [ho] at ho'; cases ho'
    exact ⟨_, es', ep', hL, r'⟩) hok I.bare
theorem Inv.call {g' : Array GenState} {t' : Nat} {d' : Drawn} {ch : List Addr} (I : Inv X pins σ H s) (u : Un (frs X.stack) ch H H' s.heap h') (hok : HOk X.prog X.w H' h') (hg : AllBare g')
    (hch : ∀ b ∈ ch, (b ∈ X.ex ∨ X.s₀.heap.objs.size ≤ b) ∧ b ≠ X.env.locals ∧ (∀ x c, X.env.cells.lookup x = some c → c ≠ b) ∧ ∀ p ∈ X.pn ++ pins, p.1 ≠ b) :
    Inv X pins σ H' { s with heap := h', gens := g', drawn := d', toks := t' } := by
  obtain ⟨m, ⟨o, es, ep, ho, r⟩, _⟩ := id I.loc
  obtain ⟨sl, hL⟩ := u.any ho I.free fun z => (hch _ z).2.1 rfl
  exact I.step (ch := ch) hch (fun b o hL hb hc e n => u.keep b o e n (fun z => (List.mem_cons.mp (I.stkSub b z)).elim hL hb) hc) (fun b o _ _ hc e n => u.any e n hc) (fun b o hc e n => u.free b o e n hc) (fun b o hc e => u.there b o e hc) u.tups u.frzs u.tbls (fun m' hm => by
    obtain ⟨o', es', ep', ho', r'⟩ := hm
    rw [ho] at ho'; cases ho'
    exact ⟨_, es', ep', hL, r'⟩) hok hg
theorem Inv.turned {t' : Nat} {it : Addr} (I : Inv X pins σ H s) (k : ∀ b o, b ≠ it → s.heap.get? b = some o → h'.get? b = some o) (hn : H it = none) (hL : it ≠ X.env.locals)
    (h1 : it ∈ X.ex ∨ X.s₀.heap.objs.size ≤ it) (h2 : ∀ x c, X.env.cells.lookup x = some c → c ≠ it) (h3 : ∀ p ∈ X.pn ++ pins, p.1 ≠ it) : Inv X pins σ H { s with heap := h', toks := t' } := by
  have nit : ∀ b u, H b = some u → b ≠ it := fun b u e z => by rw [z, hn] at e; cases e
  refine I.step (g' := s.gens) (d' := s.drawn) (ch := [it]) (fun b hb => ?_) (fun b o _ _ hc e _ => k b o (fun z => hc (by simp [z])) e) (fun b o _ _ hc e _ => ⟨o.slots, k b o (fun z => hc (by simp [z])) e⟩) (fun _ _ _ _ n => n)
    (fun b o hc e => ⟨o, k b o (fun z => hc (by simp [z])) e⟩) (fun _ _ e => e) (fun _ _ _ e => e) (fun b ps e => ⟨#[], by rw [e]; simp⟩) (fun m hm => ?_) (fun b u e => ?_) I.bare
  · have e : b = it := by simpa using hb
    subst e
    exact ⟨h1, hL, h2, h3⟩
  · obtain ⟨o, es, ep, ho, r⟩ := hm
    exact ⟨o, es, ep, k _ o (Ne.symm hL) ho, r⟩
  · refine (I.hok b u e).stay (fun c v hc q => k c v ?_ q) (fun _ q => q) fun _ _ q => q
    rcases hc with z | z
    · rw [z]; exact nit b u e
    · exact nit c _ z
theorem Inv.tok (I : Inv X pins σ H s) (t : Nat) : Inv X pins σ H { s with toks := t } := I.un (h' := s.heap) (t' := t) Un.refl I.hok
theorem Inv.kept {t' : Nat} (I : Inv X pins σ H s) (k : ∀ b u, s.heap.get? b = some u → h'.get? b = some u) : Inv X pins σ H { s with heap := h', toks := t' } := I.un (Un.kept k) (I.hok.kept k)
theorem Inv.laid {a : Addr} {o : HO} {t' : Nat} (I : Inv X pins σ H s) (k : ∀ b u, s.heap.get? b = some u → h'.get? b = some u) (hp : s.heap.objs.size ≤ a) (new : ObjOk X.prog X.w (upd H a o) h' a o) :
    Inv X pins σ (upd H a o) { s with heap := h', toks := t' } := I.un (Un.laid k hp (I.hok.fresh hp)) (I.hok.laid k hp new)
theorem Inv.write {x e : Addr} {o : HO} {t' : Nat} (I : Inv X pins σ H s) (mu : Mut (H x)) (he : e = x ∨ H e = some (.own x)) (k : ∀ b u, b ≠ e → s.heap.get? b = some u → h'.get? b = some u) (heo : ∃ u, h'.get? e = some u)
    (new : ObjOk X.prog X.w (upd H x o) h' x o) : Inv X pins σ (upd H x o) { s with heap := h', toks := t' } := I.un (Un.write mu he k heo) (I.hok.write mu he k heo new)
theorem Inv.pins_of {pins' : List (Addr × Obj)} (I : Inv X pins σ H s) (h : ∀ p ∈ pins', s.heap.get? p.1 = some p.2 ∧ H p.1 = none ∧ p.1 ≠ X.env.locals ∧ p.1 ∉ X.fs ∧ ∀ v, p.2.data ≠ .cell v) : Inv X pins' σ H s :=
  ⟨I.ok, I.os, I.bare, I.base, I.loc, I.cell, I.free, I.freeC, fun p hp => (List.mem_append.mp hp).elim (fun z => I.pin p (List.mem_append_left _ z)) (h p), I.hok, I.len⟩
theorem nodup_ix {N : List Str} (hN : N.Nodup) {i j : Nat} {x : Str} (a : N[i]? = some x) (b : N[j]? = some x) : i = j := by
  obtain ⟨h1, e1⟩ := List.getElem?_eq_some_iff.mp a
  obtain ⟨h2, e2⟩ := List.getElem?_eq_some_iff.mp b
  exact (List.getElem_inj hN).mp (e1.trans e2.symm)
theorem store_ok2 {M : Model} {A : Around} {E : Value → Shared → Prop} {i : Nat} {x : Str} {v : V} {u : Value} {Q : Unit → Shared → Prop} (I : Inv X pins σ H s) (hN : X.N.Nodup) (hi : X.N[i]? = some x) (hx : Loc X.env.scope x) (r : RelV v u)
    (h : ∀ s', Inv X pins (σ.set i (some v)) H s' → (∃ a, Heap.SameBut a s.heap s'.heap ∧ (a = X.env.locals ∨ X.env.cells.lookup x = some a)) → Q () s') (hf : X.fn x = true ∨ X.env.scope.names.lookup x = some .local := by first | exact .inl rfl | exact .inr rfl | assumption) : wpAny M A (storeName X.env x u) Q E s := by
  obtain ⟨m, hn, hl⟩ := id I.loc
  have hcls : (X.env.scope.kind == .class || (X.env.scope.kind == .module && X.env.locals != X.env.globals)) = false := by rw [I.ok.kind]; rfl
  have hiσ : i < σ.length := by rw [I.len]; exact (List.getElem?_eq_some_iff.mp hi).1
  have cne := I.cne
  have tracked : ∀ {a : Addr} {h' : Heap}, (∃ o, s.heap.get? a = some o ∧ H a = none) → Heap.SameBut a s.heap h' → HOk X.prog X.w H h' := fun {a h'} ha hs b ob e => by
    obtain ⟨_, _, hfree⟩ := ha
    refine (I.hok b ob e).stay (fun c w' hc q => (hs.2 c ?_).trans q) (fun _ q => q) fun _ _ q => q
    rintro rfl
    rcases hc with rfl | hc
    · rw [hfree] at e; cases e
    · rw [hfree] at hc; cases hc
  rcases hx with hk | hk
  · refine wpAny_storeName_local hk hn (fun h' hn' hs => ?_) hcls
    obtain ⟨oL, _, _, hoL, _⟩ := id hn
    refine h _ ⟨I.ok, I.os, I.bare, ⟨fun b o e n hb hx => ?_, fun b o e n hb hx => ?_, I.base.free, fun b o e hx => ?_, I.base.tups, I.base.frzs, I.base.tbls⟩, ⟨_, hn', fun j y v' e1 e2 e3 => ?_⟩, fun y c e => ?_, I.free, I.freeC, fun p hp => ?_, tracked ⟨oL, hoL, I.free⟩ hs, by simpa using I.len⟩ ⟨_, hs, .inl rfl⟩
    · exact (hs.2 b (Nat.ne_of_lt (Nat.lt_of_lt_of_le (Heap.lt_size e) I.ok.above))).trans (I.base.keep b o e n hb hx)
    · obtain ⟨sl, e1⟩ := I.base.slot b o e n hb hx
      exact ⟨sl, (hs.2 b (Nat.ne_of_lt (Nat.lt_of_lt_of_le (Heap.lt_size e) I.ok.above))).trans e1⟩
    · obtain ⟨o', e1⟩ := I.base.there b o e hx
      exact ⟨o', (hs.2 b (Nat.ne_of_lt (Nat.lt_of_lt_of_le (Heap.lt_size e) I.ok.above))).trans e1⟩
    · by_cases hj : j = i
      · subst hj
        rw [hi] at e1; cases e1
        rw [List.getElem?_set_self hiσ] at e2
        cases e2
        exact ⟨u, r, .inl ⟨hk, by simp⟩⟩
      · rw [List.getElem?_set_ne (Ne.symm hj)] at e2
        obtain ⟨u', r', q⟩ := hl j y v' e1 e2 e3
        refine ⟨u', r', ?_⟩
        rcases q with ⟨k, e⟩ | ⟨k, c, e, z⟩
        · refine .inl ⟨k, ?_⟩
          have : y ≠ x := fun e => hj (nodup_ix hN e1 (e ▸ hi))
          simp [this, e]
        · exact .inr ⟨k, c, e, z.sameBut hs (cne y c e)⟩
    · obtain ⟨w', z⟩ := I.cell y c e
      exact ⟨w', z.sameBut hs (cne y c e)⟩
    · obtain ⟨e, n, ne, nf, d⟩ := I.pin p hp
      exact ⟨(hs.2 p.1 ne).trans e, n, ne, nf, d⟩
  · have hfn : X.fn x = true := by
      rcases hf with z | z
      · exact z
      · rw [z] at hk; cases hk
    obtain ⟨c, hc⟩ := I.ok.has x (.inl hk)
    obtain ⟨w', z⟩ := I.cell x c hc
    refine wpAny_storeName_cell I.ok.kind hk hc z (fun h' hc' hs => ?_)
    obtain ⟨oc, hoc, hocd⟩ := id z
    refine h { s with heap := h' } ⟨I.ok, I.os, I.bare, ⟨fun b o e n hb hx => ?_, fun b o e n hb hx => ?_, I.base.free, fun b o e hx => ?_, I.base.tups, I.base.frzs, I.base.tbls⟩, ⟨m, hn.sameBut hs (Ne.symm (cne x c hc)), fun j y v' e1 e2 e3 => ?_⟩, fun y c' e => ?_, I.free, I.freeC, fun p hp => ?_, tracked ⟨oc, hoc, I.freeC x c hc⟩ hs, by simpa using I.len⟩ ⟨c, hs, .inr hc⟩
    · exact (hs.2 b (Nat.ne_of_lt (Nat.lt_of_lt_of_le (Heap.lt_size e) (I.ok.cab x c hfn hc)))).trans (I.base.keep b o e n hb hx)
    · obtain ⟨sl, e1⟩ := I.base.slot b o e n hb hx
      exact ⟨sl, (hs.2 b (Nat.ne_of_lt (Nat.lt_of_lt_of_le (Heap.lt_size e) (I.ok.cab x c hfn hc)))).trans e1⟩
    · obtain ⟨o', e1⟩ := I.base.there b o e hx
      exact ⟨o', (hs.2 b (Nat.ne_of_lt (Nat.lt_of_lt_of_le (Heap.lt_size e) (I.ok.cab x c hfn hc)))).trans e1⟩
    · by_cases hj : j = i
      · subst hj
        rw [hi] at e1; cases e1
        rw [List.getElem?_set_self hiσ] at e2
        cases e2
        exact ⟨u, r, .inr ⟨.inl hk, c, hc, hc'⟩⟩
      · rw [List.getElem?_set_ne (Ne.symm hj)] at e2
        obtain ⟨u', r', q⟩ := hl j y v' e1 e2 e3
        refine ⟨u', r', ?_⟩
        rcases q with q | ⟨k, c', e, z'⟩
        · exact .inl q
        · refine .inr ⟨k, c', e, z'.sameBut hs ?_⟩
          rintro rfl
          exact hj (nodup_ix hN e1 (I.ok.inj _ _ _ e hc ▸ hi))
    · by_cases hcc : c' = c
      · subst hcc; exact ⟨_, hc'⟩
      · obtain ⟨w2, z2⟩ := I.cell y c' e
        exact ⟨w2, z2.sameBut hs hcc⟩
    · obtain ⟨e, n, ne, nf, d⟩ := I.pin p hp
      refine ⟨(hs.2 p.1 ?_).trans e, n, ne, nf, d⟩
      intro q
      rw [q, hoc] at e
      have q' : oc = p.2 := Option.some.inj e
      exact d w' (by rw [← q']; exact hocd)
theorem store_ok {M : Model} {A : Around} {E : Value → Shared → Prop} {i : Nat} {x : Str} {v : V} {u : Value} {Q : Unit → Shared → Prop} (I : Inv X pins σ H s) (hN : X.N.Nodup) (hi : X.N[i]? = some x) (hx : Loc X.env.scope x) (r : RelV v u)
    (h : ∀ s', Inv X pins (σ.set i (some v)) H s' → Q () s') (hf : X.fn x = true ∨ X.env.scope.names.lookup x = some .local := by first | exact .inl rfl | exact .inr rfl | assumption) : wpAny M A (storeName X.env x u) Q E s :=
  store_ok2 I hN hi hx r (fun s' I' _ => h s' I') hf
theorem Inv.call' {s' : Shared} {ch : List Addr} (I : Inv X pins σ H s) (ho : s'.os = s.os) (u : Un (frs X.stack) ch H H' s.heap s'.heap) (hok : HOk X.prog X.w H' s'.heap) (hg : AllBare s'.gens)
    (hch : ∀ b ∈ ch, (b ∈ X.ex ∨ X.s₀.heap.objs.size ≤ b) ∧ b ≠ X.env.locals ∧ (∀ x c, X.env.cells.lookup x = some c → c ≠ b) ∧ ∀ p ∈ X.pn ++ pins, p.1 ≠ b) : Inv X pins σ H' s' := by
  obtain ⟨h', g', d', t', o'⟩ := s'
  have e : o' = s.os := ho
  subst e
  exact I.call (g' := g') (t' := t') (d' := d') u hok hg hch
end
abbrev XK := Value → Option Addr → Hp → Prop
abbrev St := List (Option V)
abbrev VK := V → Hp → Prop
abbrev TE := St → Hp → VK → Prop
abbrev TT := St → Hp → (Bool → Hp → Prop) → Prop
abbrev TA := St → Hp → (List V → Hp → Prop) → Prop
structure Ends where
  nx : St → Hp → Prop
  rt : VK
  bk : St → Hp → Prop := fun _ _ => False
  ct : St → Hp → Prop := fun _ _ => False
abbrev TS := Ends → St → Hp → Prop
def EP (X : Cx) (pins : List (Addr × Obj)) (σ : St) (Q : VK) (u : Value) (s' : Shared) : Prop := ∃ v H', Inv X pins σ H' s' ∧ RelV v u ∧ Q v H'
def TP (X : Cx) (pins : List (Addr × Obj)) (σ : St) (Q : Bool → Hp → Prop) (b : Bool) (s' : Shared) : Prop := ∃ H', Inv X pins σ H' s' ∧ Q b H'
def AP (X : Cx) (pins : List (Addr × Obj)) (σ : St) (Q : List V → Hp → Prop) (us : List Value) (s' : Shared) : Prop := ∃ vs H', Inv X pins σ H' s' ∧ Vals vs us ∧ Q vs H'
def SP (X : Cx) (pins : List (Addr × Obj)) (D : Ends) (f : Flow) (s' : Shared) : Prop :=
  match f with
  | .next => ∃ σ' H', Inv X pins σ' H' s' ∧ D.nx σ' H'
  | .brk => ∃ σ' H', Inv X pins σ' H' s' ∧ D.bk σ' H'
  | .cont => ∃ σ' H', Inv X pins σ' H' s' ∧ D.ct σ' H'
  | .ret u => ∃ v σ' H', Inv X pins σ' H' s' ∧ RelV v u ∧ D.rt v H'
def PE (X : Cx) (e : Expr) (t : TE) : Prop :=
  ∀ (pins : List (Addr × Obj)) (s : Shared) (σ : St) (H : Hp) (Q : VK), Inv X pins σ H s → t σ H Q → wpAny (model X.prog X.w) X.A (eval e X.env) (EP X pins σ Q) X.xe s
def PT (X : Cx) (e : Expr) (t : TT) : Prop :=
  ∀ (pins : List (Addr × Obj)) (s : Shared) (σ : St) (H : Hp) (Q : Bool → Hp → Prop), Inv X pins σ H s → t σ H Q → wpAny (model X.prog X.w) X.A (isTrue e X.env (eval e X.env)) (TP X pins σ Q) X.xe s
def PW (X : Cx) (e : Expr) (t : TT) : Prop :=
  ∀ (whole : Sem Value) (pins : List (Addr × Obj)) (s : Shared) (σ : St) (H : Hp) (Q : Bool → Hp → Prop), Inv X pins σ H s → t σ H Q → wpAny (model X.prog X.w) X.A (isTrue e X.env whole) (TP X pins σ Q) X.xe s
theorem PW.pt {X : Cx} {e : Expr} {t : TT} (h : PW X e t) : PT X e t := h _
def PA (X : Cx) (es : List Expr) (t : TA) : Prop :=
  ∀ (pos : Pos) (pins : List (Addr × Obj)) (s : Shared) (σ : St) (H : Hp) (Q : List V → Hp → Prop), Inv X pins σ H s → t σ H Q → wpAny (model X.prog X.w) X.A (spliced (backTo pos (starEach es X.env))) (AP X pins σ Q) X.xe s
def PS (X : Cx) (st : Stmt) (t : TS) : Prop :=
  ∀ (pins : List (Addr × Obj)) (s : Shared) (σ : St) (H : Hp) (D : Ends), Inv X pins σ H s → t D σ H → wpAny (model X.prog X.w) X.A (exec st X.env) (SP X pins D) X.xe s
def PSs (X : Cx) (st : List Stmt) (t : TS) : Prop :=
  ∀ (pins : List (Addr × Obj)) (s : Shared) (σ : St) (H : Hp) (D : Ends), Inv X pins σ H s → t D σ H → wpAny (model X.prog X.w) X.A (execs st X.env) (SP X pins D) X.xe s
theorem thn {α : Type} {t : Sem α} {Q Q' : α → Shared → Prop} {M : Model} {A : Around} {E : Value → Shared → Prop} {s : Shared} (h : wpAny M A t Q E s) (hQ : ∀ a s, Q a s → Q' a s) : wpAny M A t Q' E s := wpAny_mono h hQ fun _ _ x => x
end L2
namespace L2
open PySem PySem.Spec PyProof.Rows
section
variable {X : Cx}
def tVar (i : Nat) : TE := fun σ H Q => ∃ v, σ[i]? = some (some v) ∧ Q v H
def tC (v : V) : TE := fun _ H Q => Q v H
theorem pe_var {i : Nat} {x : Str} {pos : Pos} (hN : X.N[i]? = some x) (hv : Vis X.env.scope x) (hd : (x == ("__debug__" : Str)) = false := by decide) (hcd : (x == ("__classdict__" : Str)) = false := by decide) : PE X (.Name x pos) (tVar i) := by
  intro pins s σ H Q I h
  obtain ⟨v, e, h⟩ := h
  obtain ⟨m, hn, hl⟩ := I.loc
  obtain ⟨u, r, l⟩ := hl i x v hN e hv
  have fin : EP X pins σ Q u s := ⟨v, H, I, r, h⟩
  rcases l with ⟨hk, hm⟩ | ⟨hk, c, hc, hcell⟩
  · exact wpAny_Name (wpAny_loadName_local I.ok.kind hk hn hm fin) hd
  · rcases hk with hk | hk
    · exact wpAny_Name (wpAny_loadName_cell I.ok.kind hk hc hcell fin) hd
    · exact wpAny_Name (wpAny_loadName_free I.ok.kind hk hc hcell fin hcd) hd
theorem pe_int {i j pos} : PE X (.Constant (.int i) j pos) (tC (.int i)) := fun _ _ _ H _ I h => wpAny_Constant_int ⟨.int i, H, I.tok _, ⟨_, rfl⟩, h⟩
theorem pe_bl {b j pos} : PE X (.Constant (.bool b) j pos) (tC (.bl b)) := fun _ _ _ H _ I h => Constant_bool ⟨.bl b, H, I, rfl, h⟩
theorem pe_non {j pos} : PE X (.Constant .none j pos) (tC .non) := fun _ _ _ H _ I h => Constant_none ⟨.non, H, I, rfl, h⟩
theorem pe_str {x j pos} : PE X (.Constant (.str x) j pos) (tC (.str x)) := fun _ _ _ H _ I h => Calls.Constant_str ⟨.str x, H, I.tok _, ⟨_, rfl⟩, h⟩
def Gl (X : Cx) (x : Str) : Prop := X.env.kindOf x = some .globalImplicit
theorem ld_glob {E : Value → Shared → Prop} {pins : List (Addr × Obj)} {s : Shared} {σ : St} {H : Hp} {x : Str} {u : Value} {pos : Pos} {Q : Value → Shared → Prop} (I : Inv X pins σ H s) (hg : Gl X x) (hm : X.mg x = some u) (h : Q u s)
    (hd : (x == ("__debug__" : Str)) = false := by decide) : wpAny (model X.prog X.w) X.A (eval (.Name x pos) X.env) Q E s :=
  Calls.Name_function_global I.ok.kind hg (Calls.loadGlobal_global (by rw [I.ok.glob]; exact I.mod.glob.keeps I.bk) hm h) hd
theorem ld_blt {E : Value → Shared → Prop} {pins : List (Addr × Obj)} {s : Shared} {σ : St} {H : Hp} {x : Str} {u : Value} {pos : Pos} {Q : Value → Shared → Prop} (I : Inv X pins σ H s) (hg : Gl X x) (hm : X.mg x = none) (hv : bootBuiltins x = some u) (h : Q u s)
    (hn : x ≠ "__name__" := by decide) (hd : (x == ("__debug__" : Str)) = false := by decide) : wpAny (model X.prog X.w) X.A (eval (.Name x pos) X.env) Q E s := by
  obtain ⟨mb, h1, h2⟩ := I.mod.blt
  exact Calls.Name_function_global I.ok.kind hg (Calls.loadGlobal_builtin (by rw [I.ok.glob]; exact I.mod.glob.keeps I.bk) hm (by rw [I.ok.blt]; exact h1.keeps I.bk) ((h2 x hn).trans hv) h) hd
theorem pe_bltn {x : Str} {v : V} {u : Value} {pos : Pos} (hg : Gl X x) (hm : X.mg x = none) (hv : bootBuiltins x = some u) (r : RelV v u) (hn : x ≠ "__name__" := by decide) (hd : (x == ("__debug__" : Str)) = false := by decide) : PE X (.Name x pos) (tC v) :=
  fun _ _ _ H _ I h => ld_blt I hg hm hv ⟨v, H, I, r, h⟩ hn hd
variable {a b : Expr} {ta tb : TE} {pos : Pos}
def PC (X : Cx) (op : CmpOp) (a b : Expr) (t : TE) : Prop :=
  ∀ (pins : List (Addr × Obj)) (s : Shared) (σ : St) (H : Hp) (Q : VK), Inv X pins σ H s → t σ H Q →
    wpAny (model X.prog X.w) X.A (eval a X.env) (fun v s₁ => wpAny (model X.prog X.w) X.A (eval b X.env) (fun u s₂ => wpAny (model X.prog X.w) X.A (compareOp op v u) (EP X pins σ Q) X.xe s₂) X.xe s₁) X.xe s
theorem nobehind (b : Expr) {op : CmpOp} (h : op ≠ .In) (h2 : op ≠ .NotIn) : behindInMarks op b = false := by
  have e1 : (op == CmpOp.In) = false := by cases op <;> first | rfl | exact absurd rfl h
  have e2 : (op == CmpOp.NotIn) = false := by cases op <;> first | rfl | exact absurd rfl h2
  cases b <;> simp [behindInMarks, e1, e2]
def tB (t : TE) : TT := fun σ H Q => t σ H fun x H1 => ∃ c, x = .bl c ∧ Q c H1
theorem pe_cmp {op : CmpOp} {t : TE} (h : PC X op a b t) (h1 : behindInMarks op b = false := by first | exact nobehind _ (by decide) (by decide) | rfl) : PE X (.Compare a [op] [b] pos) t := fun pins s σ H Q I hw => wpAny_Compare1 (h pins s σ H Q I hw) h1
theorem pt_cmp {op : CmpOp} {t : TE} (h : PC X op a b t) (h1 : behindInMarks op b = false := by first | exact nobehind _ (by decide) (by decide) | rfl) : PT X (.Compare a [op] [b] pos) (tB t) := by
  intro pins s σ H Q I hw
  refine wpAny_isTrue_Compare1 (thn (h pins s σ H _ I hw) fun v s1 h1 => thn h1 fun u s2 h2 => thn h2 fun c s3 ⟨x, H1, I1, r1, q1⟩ => ?_) h1
  obtain ⟨d, rfl, q⟩ := q1
  cases r1
  exact wpAny_truthy_bool ⟨H1, I1, q⟩
theorem pt_val {e : Expr} {t : TE} (h : PE X e t) (he : ∀ whole, isTrue e X.env whole = (do let v ← whole; standAt e.pos; holding [v] (truthy v)) := by intro _; rfl) : PT X e (tB t) := by
  intro pins s σ H Q I hw
  refine isTrue_plain (thn (h pins s σ H _ I hw) fun v s1 ⟨x, H1, I1, r1, q1⟩ => ?_) (he _)
  obtain ⟨d, rfl, q⟩ := q1
  cases r1
  exact wpAny_truthy_bool ⟨H1, I1, q⟩
variable {tA tB' : TT} {rest : List Expr}
def tAnd (t u : TT) : TT := fun σ H Q => t σ H fun c H1 => if c = true then u σ H1 Q else Q false H1
def tOr (t u : TT) : TT := fun σ H Q => t σ H fun c H1 => if c = true then Q true H1 else u σ H1 Q
def tNot (t : TT) : TT := fun σ H Q => t σ H fun c H1 => Q (!c) H1
theorem pw_and1 (ha : PT X a tA) : PW X (.BoolOp .And [a] pos) tA := by
  intro wh pins s σ H Q I h
  refine isTrue_and (thn (ha pins s σ H Q I h) fun c s1 e => ?_)
  cases c with
  | true => exact isTrue_and_nil e
  | false => exact e
theorem pw_or1 (ha : PT X a tA) : PW X (.BoolOp .Or [a] pos) tA := by
  intro wh pins s σ H Q I h
  refine isTrue_or (thn (ha pins s σ H Q I h) fun c s1 e => ?_)
  cases c with
  | false => exact isTrue_or_nil e
  | true => exact e
theorem pw_and (ha : PT X a tA) (hb : PW X (.BoolOp .And (b :: rest) pos) tB') : PW X (.BoolOp .And (a :: b :: rest) pos) (tAnd tA tB') := by
  intro wh pins s σ H Q I h
  refine isTrue_and (thn (ha pins s σ H _ I h) fun c s1 ⟨H1, I1, q1⟩ => ?_)
  cases c with
  | true => exact hb wh pins s1 σ H1 Q I1 q1
  | false => exact ⟨H1, I1, q1⟩
theorem pw_or (ha : PT X a tA) (hb : PW X (.BoolOp .Or (b :: rest) pos) tB') : PW X (.BoolOp .Or (a :: b :: rest) pos) (tOr tA tB') := by
  intro wh pins s σ H Q I h
  refine isTrue_or (thn (ha pins s σ H _ I h) fun c s1 ⟨H1, I1, q1⟩ => ?_)
  cases c with
  | true => exact ⟨H1, I1, q1⟩
  | false => exact hb wh pins s1 σ H1 Q I1 q1
theorem pt_not (ha : PT X a tA) : PT X (.UnaryOp .Not a pos) (tNot tA) := by
  intro pins s σ H Q I h
  exact isTrue_not (ha pins s σ H (fun c H1 => Q (!c) H1) I h)
def tAndV (ta tb : TE) : TE := fun σ H Q => ta σ H fun x H1 => ∃ c, x = .bl c ∧ if c = true then tb σ H1 Q else Q (.bl false) H1
def tOrV (ta tb : TE) : TE := fun σ H Q => ta σ H fun x H1 => ∃ c, x = .bl c ∧ if c = true then Q (.bl true) H1 else tb σ H1 Q
def tNotV (ta : TE) : TE := fun σ H Q => ta σ H fun x H1 => ∃ c, x = .bl c ∧ Q (.bl (!c)) H1
theorem pe_one {op} {t : TE} (h : PE X a t) : PE X (.BoolOp op [a] pos) t := fun pins s σ H Q I hw => BoolOp_one (h pins s σ H Q I hw)
theorem pe_and (ha : PE X a ta) (hb : PE X (.BoolOp .And (b :: rest) pos) tb) : PE X (.BoolOp .And (a :: b :: rest) pos) (tAndV ta tb) := by
  intro pins s σ H Q I h
  refine BoolOp_and (thn (ha pins s σ H _ I h) fun v s1 ⟨x, H1, I1, r1, q1⟩ => ?_)
  obtain ⟨c, rfl, q1⟩ := q1
  cases r1
  refine wpAny_truthy_bool ?_
  cases c with
  | true => exact hb pins s1 σ H1 Q I1 q1
  | false => exact ⟨.bl false, H1, I1, rfl, q1⟩
theorem pe_or (ha : PE X a ta) (hb : PE X (.BoolOp .Or (b :: rest) pos) tb) : PE X (.BoolOp .Or (a :: b :: rest) pos) (tOrV ta tb) := by
  intro pins s σ H Q I h
  refine BoolOp_or (thn (ha pins s σ H _ I h) fun v s1 ⟨x, H1, I1, r1, q1⟩ => ?_)
  obtain ⟨c, rfl, q1⟩ := q1
  cases r1
  refine wpAny_truthy_bool ?_
  cases c with
  | false => exact hb pins s1 σ H1 Q I1 q1
  | true => exact ⟨.bl true, H1, I1, rfl, q1⟩
theorem pe_not (ha : PE X a ta) : PE X (.UnaryOp .Not a pos) (tNotV ta) := by
  intro pins s σ H Q I h
  refine UnaryOp_ (thn (ha pins s σ H _ I h) fun v s1 ⟨x, H1, I1, r1, q1⟩ => ?_)
  obtain ⟨c, rfl, q1⟩ := q1
  cases r1
  exact not_of (wpAny_truthy_bool ⟨.bl (!c), H1, I1, rfl, q1⟩)
def tIf (t : TT) (ta tb : TE) : TE := fun σ H Q => t σ H fun c H1 => if c = true then ta σ H1 Q else tb σ H1 Q
theorem pe_ifExp {c : Expr} (hc : PT X c tA) (ha : PE X a ta) (hb : PE X b tb) : PE X (.IfExp c a b pos) (tIf tA ta tb) := by
  intro pins s σ H Q I h
  refine wpAny_IfExp (thn (hc pins s σ H _ I h) fun d s1 ⟨H1, I1, q1⟩ => ?_)
  cases d with
  | true => exact ha pins s1 σ H1 Q I1 q1
  | false => exact hb pins s1 σ H1 Q I1 q1
end
end L2
namespace L2
open PySem PySem.Spec PyProof.Rows
def SqL (K : PySem.W.Frag) (H : Hp) (a : Addr) (xs : List V) : Prop :=
  Rd H a (.lst xs) ∨
    ∃ (o : Obj) (its : Array Value) (n : Nat), K.lookup a = some o ∧ o.cls = .type "list" ∧ o.dict = none ∧ o.data = .seq its n ∧ its.size ≤ sizeLine ∧ Vals xs its.toList
def SqT (K : PySem.W.Frag) (H : Hp) (a : Addr) (xs : List V) : Prop :=
  Rd H a (.tup xs) ∨
    ∃ (o : Obj) (its : Array Value) (n : Nat), K.lookup a = some o ∧ o.cls = .type "tuple" ∧ o.data = .seq its n ∧ its.size ≤ sizeLine ∧ Vals xs its.toList
def absV : Value → Option V
  | .none => some .non
  | .bool b => some (.bl b)
  | .int i _ => some (.int i)
  | .str x _ => some (.str x)
  | .bytes b _ => some (.byt b)
  | .float b _ => some (.flt b)
  | .ref a => some (.ref a)
  | .type n => some (.ty n)
  | _ => none
theorem RelV.abs {x : V} {u : Value} (r : RelV x u) : absV u = some x := by
  cases x with
  | non => cases r; rfl
  | bl _ => cases r; rfl
  | int _ => obtain ⟨t, rfl⟩ := r; rfl
  | str _ => obtain ⟨t, rfl⟩ := r; rfl
  | byt _ => obtain ⟨t, rfl⟩ := r; rfl
  | flt _ => obtain ⟨t, rfl⟩ := r; rfl
  | ref _ => cases r; rfl
  | ty _ => cases r; rfl
theorem RelV.inj {x y : V} {u : Value} (r : RelV x u) (q : RelV y u) : x = y := Option.some.inj (r.abs.symm.trans q.abs)
theorem Vals.inj : ∀ {xs ys : List V} {us : List Value}, Vals xs us → Vals ys us → xs = ys
  | _, _, _, .nil, .nil => rfl
  | _, _, _, .cons r t, .cons r' t' => by rw [r.inj r', Vals.inj t t']
section
variable {X : Cx} {pins : List (Addr × Obj)} {σ : St} {H : Hp} {s : Shared} {a : Addr} {xs ys : List V}
theorem SqL.of {K : PySem.W.Frag} (h : H a = some (.lst xs)) : SqL K H a xs := .inl (.inl h)
theorem SqT.of {K : PySem.W.Frag} (h : H a = some (.tup xs)) : SqT K H a xs := .inl (.inl h)
theorem Inv.list (I : Inv X pins σ H s) (h : SqL X.K H a xs) : ∃ its : List Value, Vals xs its ∧ PlainL s.heap a its.toArray ∧ xs.length ≤ sizeLine := by
  rcases h with h | ⟨o, its, n, hk, hc, hd, hs, hz, r⟩
  · obtain ⟨z, its, n, r, e⟩ := h.ok I.hok
    exact ⟨its, r, ⟨_, n, e, rfl, rfl, rfl⟩, z⟩
  · refine ⟨its.toList, r, ⟨o, n, I.kIn a o hk, hc, hd, by simpa using hs⟩, ?_⟩
    have e := r.length
    simp only [Array.length_toList] at e
    omega
theorem Inv.tuple (I : Inv X pins σ H s) (h : SqT X.K H a xs) : ∃ its : List Value, Vals xs its ∧ IsTup s.heap a its.toArray ∧ xs.length ≤ sizeLine := by
  rcases h with h | ⟨o, its, n, hk, hc, hs, hz, r⟩
  · obtain ⟨z, its, r, p⟩ := h.ok I.hok
    exact ⟨its, r, p, z⟩
  · refine ⟨its.toList, r, ⟨o, I.kIn a o hk, hc, n, by simpa using hs⟩, ?_⟩
    have e := r.length
    simp only [Array.length_toList] at e
    omega
theorem Inv.list_inj (I : Inv X pins σ H s) (h : SqL X.K H a xs) (h' : SqL X.K H a ys) : xs = ys := by
  obtain ⟨its, r, ⟨o, n, e, _, _, d⟩, _⟩ := I.list h
  obtain ⟨its', r', ⟨o', n', e', _, _, d'⟩, _⟩ := I.list h'
  rw [e] at e'; cases e'
  rw [d] at d'
  injection d' with d1 _
  have : its = its' := by simpa using congrArg Array.toList d1
  subst this
  exact r.inj r'
theorem Inv.tuple_inj (I : Inv X pins σ H s) (h : SqT X.K H a xs) (h' : SqT X.K H a ys) : xs = ys := by
  obtain ⟨its, r, ⟨o, e, _, n, d⟩, _⟩ := I.tuple h
  obtain ⟨its', r', ⟨o', e', _, n', d'⟩, _⟩ := I.tuple h'
  rw [e] at e'; cases e'
  rw [d] at d'
  injection d' with d1 _
  have : its = its' := by simpa using congrArg Array.toList d1
  subst this
  exact r.inj r'
end
abbrev Cx.wish (X : Cx) (E : Value → Shared → Prop) : Cx := { X with xe := E }
abbrev Cx.nox (X : Cx) : Cx := X.wish fun _ _ => False
theorem Cx.Ok.wish {X : Cx} (ok : X.Ok) (E : Value → Shared → Prop) : (X.wish E).Ok :=
  ⟨ok.mod, ok.kind, ok.glob, ok.blt, ok.above, ok.inj, ok.has, ok.cab, ok.hd, ok.frames, ok.stk, ok.exf, ok.bs, ok.bsz, ok.noex, ok.exfs, ok.funs, ok.frf⟩
theorem Cx.Ok.unwish {X : Cx} {E : Value → Shared → Prop} (ok : (X.wish E).Ok) : X.Ok :=
  ⟨ok.mod, ok.kind, ok.glob, ok.blt, ok.above, ok.inj, ok.has, ok.cab, ok.hd, ok.frames, ok.stk, ok.exf, ok.bs, ok.bsz, ok.noex, ok.exfs, ok.funs, ok.frf⟩
section
variable {X : Cx} {pins : List (Addr × Obj)} {σ : St} {H : Hp} {s : Shared} {E : Value → Shared → Prop}
theorem Inv.wish (I : Inv X pins σ H s) (E : Value → Shared → Prop) : Inv (X.wish E) pins σ H s := ⟨I.ok.wish E, I.os, I.bare, I.base, I.loc, I.cell, I.free, I.freeC, I.pin, I.hok, I.len⟩
theorem Inv.unwish (I : Inv (X.wish E) pins σ H s) : Inv X pins σ H s := ⟨I.ok.unwish, I.os, I.bare, I.base, I.loc, I.cell, I.free, I.freeC, I.pin, I.hok, I.len⟩
theorem SP.unwish {D : Ends} {f : Flow} {s' : Shared} (h : SP (X.wish E) pins D f s') : SP X pins D f s' := by
  cases f with
  | next => obtain ⟨σ', H', I, q⟩ := h; exact ⟨σ', H', I.unwish, q⟩
  | brk => obtain ⟨σ', H', I, q⟩ := h; exact ⟨σ', H', I.unwish, q⟩
  | cont => obtain ⟨σ', H', I, q⟩ := h; exact ⟨σ', H', I.unwish, q⟩
  | ret u => obtain ⟨v, σ', H', I, r, q⟩ := h; exact ⟨v, σ', H', I.unwish, r, q⟩
theorem PE.nox {e : Expr} {t : TE} (h : PE X.nox e t) : PE X e t := fun pins s σ H Q I hw =>
  wpAny_mono (h pins s σ H Q (I.wish _) hw) (fun _ _ ⟨v, H', I', r, q⟩ => ⟨v, H', I'.unwish, r, q⟩) fun _ _ z => False.elim z
theorem PT.nox {e : Expr} {t : TT} (h : PT X.nox e t) : PT X e t := fun pins s σ H Q I hw =>
  wpAny_mono (h pins s σ H Q (I.wish _) hw) (fun _ _ ⟨H', I', q⟩ => ⟨H', I'.unwish, q⟩) fun _ _ z => False.elim z
theorem PSs.nox {st : List Stmt} {t : TS} (h : PSs X.nox st t) : PSs X st t := fun pins s σ H D I hw =>
  wpAny_mono (h pins s σ H D (I.wish _) hw) (fun _ _ q => q.unwish) fun _ _ z => False.elim z
end
section
variable {X : Cx} {st : Stmt} {rest : List Stmt} {t u : TS} {e : Expr} {te : TE} {pos : Pos}
def tNext : TS := fun D σ H => D.nx σ H
def tSeq (t u : TS) : TS := fun D σ H => t { D with nx := u D } σ H
theorem pss_nil : PSs X [] tNext := fun _ _ σ H _ I h => wpAny_execs_nil ⟨σ, H, I, h⟩
theorem pss_cons (h1 : PS X st t) (h2 : PSs X rest u) : PSs X (st :: rest) (tSeq t u) := by
  intro pins s σ H D I h
  refine wpAny_execs_cons (thn (h1 pins s σ H { D with nx := u D } I h) fun f s1 q => ?_)
  cases f with
  | next =>
    obtain ⟨σ', H', I', q⟩ := q
    exact h2 pins s1 σ' H' D I' q
  | ret v => exact q
  | brk => exact q
  | cont => exact q
theorem pss_one (h1 : PS X st t) : PSs X [st] t := by
  intro pins s σ H D I h
  refine wpAny_execs_cons (thn (h1 pins s σ H D I h) fun f s1 q => ?_)
  cases f with
  | next => exact wpAny_execs_nil q
  | ret v => exact q
  | brk => exact q
  | cont => exact q
theorem Inv.quiet {pins : List (Addr × Obj)} {σ : St} {H : Hp} {s : Shared} (I : Inv X pins σ H s) : interactive X.env = false := by simp [interactive, I.ok.kind]
def tDrop (te : TE) : TS := fun D σ H => te σ H fun _ H1 => D.nx σ H1
theorem ps_expr (he : PE X e te) (hs : swapsWith e none pos.line X.env = pure false := by rfl) : PS X (.Expr e pos) (tDrop te) := by
  intro pins s σ H D I h
  exact wpAny_Expr_any (thn (he pins s σ H _ I h) fun v s1 ⟨x, H1, I1, r1, q1⟩ => ⟨σ, H1, I1, q1⟩) I.quiet hs
def tRet (te : TE) : TS := fun D σ H => te σ H D.rt
theorem ps_ret (he : PE X e te) : PS X (.Return (some e) pos) (tRet te) := by
  intro pins s σ H D I h
  exact wpAny_Return_some (thn (he pins s σ H _ I h) fun v s1 ⟨x, H1, I1, r1, q1⟩ => ⟨x, σ, H1, I1, r1, q1⟩)
def tIfS (c : TT) (t u : TS) : TS := fun D σ H => c σ H fun b H1 => if b = true then t D σ H1 else u D σ H1
theorem ps_if {c : Expr} {a b : List Stmt} {tc : TT} (hc : PT X c tc) (ha : PSs X a t) (hb : PSs X b u) : PS X (.If c a b pos) (tIfS tc t u) := by
  intro pins s σ H D I h
  refine wpAny_If (thn (hc pins s σ H _ I h) fun d s1 ⟨H1, I1, q1⟩ => ?_)
  cases d with
  | true => exact ha pins s1 σ H1 D I1 q1
  | false => exact hb pins s1 σ H1 D I1 q1
end
abbrev TG := V → St → Hp → (St → Hp → Prop) → Prop
def PG (X : Cx) (target : Expr) (t : TG) : Prop :=
  ∀ (pins : List (Addr × Obj)) (s : Shared) (σ : St) (H : Hp) (v : V) (u : Value) (Q : St → Hp → Prop), Inv X pins σ H s → RelV v u → t v σ H Q →
    wpAny (model X.prog X.w) X.A (assign target X.env u) (fun _ s' => ∃ σ' H', Inv X pins σ' H' s' ∧ Q σ' H') X.xe s
abbrev TSet := V → V → V → Hp → (Hp → Prop) → Prop
def PSet (X : Cx) (t : TSet) : Prop :=
  ∀ (pins : List (Addr × Obj)) (s : Shared) (σ : St) (H : Hp) (o i v : V) (ov iv u : Value) (Q : Hp → Prop), Inv X pins σ H s → RelV o ov → RelV i iv → RelV v u → t o i v H Q →
    wpAny (model X.prog X.w) X.A (setItem ov iv u) (fun _ s' => ∃ H', Inv X pins σ H' s' ∧ Q H') X.xe s
section
variable {X : Cx} {pos : Pos}
def gName (i : Nat) : TG := fun v σ H Q => Q (σ.set i (some v)) H
theorem pg_name {i : Nat} {x : Str} (hN : X.N.Nodup) (hi : X.N[i]? = some x) (hx : Loc X.env.scope x) (hf : X.fn x = true ∨ X.env.scope.names.lookup x = some .local := by first | exact .inl rfl | exact .inr rfl | assumption) : PG X (.Name x pos) (gName i) := by
  intro pins s σ H v u Q I r h
  exact wpAny_assign_Name (store_ok I hN hi hx r (fun s' I' => ⟨_, H, I', h⟩) hf)
def gSub (to ti : TE) (t : TSet) : TG := fun v σ H Q => to σ H fun o H1 => ti σ H1 fun i H2 => t o i v H2 fun H3 => Q σ H3
theorem pg_sub {o i : Expr} {to ti : TE} {t : TSet} (ho : PE X o to) (hi : PE X i ti) (hs : PSet X t)
    (ha : ∀ v, assign (.Subscript o i pos) X.env v = (do
      let ov ← holding [v] (eval o X.env)
      let iv ← holding [v, ov] (eval i X.env)
      standAt pos
      holding [v, ov, iv] (setItem ov iv v)
      release [v, ov, iv] []) := by intro _; rfl) : PG X (.Subscript o i pos) (gSub to ti t) := by
  intro pins s σ H v u Q I r h
  rw [ha]
  refine wpAny_bind (wpAny_holding (thn (ho pins s σ H _ I h) fun ov s1 ⟨x, H1, I1, r1, q1⟩ => ?_))
  refine wpAny_bind (wpAny_holding (thn (hi pins s1 σ H1 _ I1 q1) fun iv s2 ⟨y, H2, I2, r2, q2⟩ => ?_))
  refine wpAny_bind (wpAny_standAt (wpAny_bind (wpAny_holding (thn (hs pins s2 σ H2 x y v ov iv u _ I2 r1 r2 r q2) fun _ s3 ⟨H3, I3, q3⟩ => ?_))))
  exact wpAny_release ⟨σ, H3, I3, q3⟩
def tAsg (te : TE) (g : TG) : TS := fun D σ H => te σ H fun x H1 => g x σ H1 D.nx
theorem ps_asg {tg e : Expr} {te : TE} {g : TG} (he : PE X e te) (hg : PG X tg g) (hs : swapsWithSole [tg] e pos.line X.env = pure false := by rfl) (hw : swappedStores [tg] e X.env = pure none := by rfl)
    (h1 : (assignEach [tg] X.env).map (·.2) = [assign tg X.env] := by rfl) : PS X (.Assign [tg] e pos) (tAsg te g) := by
  intro pins s σ H D I h
  refine wpAny_Assign_stores (thn (he pins s σ H _ I h) fun v s1 ⟨x, H1, I1, r1, q1⟩ => ?_) hs hw
  rw [h1]
  exact thn (hg pins s1 σ H1 x v _ I1 r1 q1) fun _ s2 q => q
theorem ps_set {i : Nat} {x : Str} {e : Expr} {te : TE} {pos' : Pos} (hN : X.N.Nodup) (hi : X.N[i]? = some x) (hx : Loc X.env.scope x) (he : PE X e te) (hs : swapsWith e (some (.Name x pos')) pos.line X.env = pure false := by rfl) (hf : X.fn x = true ∨ X.env.scope.names.lookup x = some .local := by first | exact .inl rfl | exact .inr rfl | assumption) :
    PS X (.Assign [.Name x pos'] e pos) (tAsg te (gName i)) := by
  intro pins s σ H D I h
  refine wpAny_Assign_Name (thn (he pins s σ H _ I h) fun v s1 ⟨y, H1, I1, r1, q1⟩ => ?_) hs
  exact store_ok I1 hN hi hx r1 (fun s2 I2 => ⟨_, H1, I2, q1⟩) hf
end
section
variable {X : Cx} {pos : Pos}
end
structure It where
  go : Nat → Hp → Prop
  yld : Nat → Hp → V → Hp → Prop
  stop : Nat → Hp → Prop
def FpOk (X : Cx) (pins : List (Addr × Obj)) (H : Hp) (b : Addr) : Prop :=
  H b = none ∧ b ≠ X.env.locals ∧ b ∉ X.fs ∧ (b ∈ X.ex ∨ X.s₀.heap.objs.size ≤ b) ∧ (∀ x c, X.env.cells.lookup x = some c → c ≠ b) ∧ ∀ p ∈ X.pn ++ pins, p.1 ≠ b
theorem Inv.fpOk {X : Cx} {pins : List (Addr × Obj)} {σ : St} {H H' : Hp} {s : Shared} {b : Addr} (I : Inv X pins σ H s) (hb : s.heap.objs.size ≤ b) (hn : H' b = none) : FpOk X pins H' b := by
  refine ⟨hn, Nat.ne_of_gt (Nat.lt_of_lt_of_le I.lt hb), I.nofs hb, .inr (Nat.le_trans I.sz hb), fun x c e z => ?_, fun p hp z => ?_⟩
  · obtain ⟨v, q⟩ := I.cell x c e
    exact absurd (Nat.lt_of_lt_of_le q.lt (by rw [z]; exact hb)) (Nat.lt_irrefl _)
  · exact absurd (Nat.lt_of_lt_of_le (Heap.lt_size (I.pin p hp).1) (by rw [z]; exact hb)) (Nat.lt_irrefl _)
structure Turn (P : Program) (w : World) (K : PySem.W.Frag) (tg : Expr) (J : It) (fp : List Addr) (it : Addr) (tn : Nat → Heap → Prop) : Prop where
  mem : it ∈ fp
  obj : ∀ i h, tn i h → ∀ b ∈ fp, ∃ o, h.get? b = some o ∧ ∀ v, o.data ≠ .cell v
  keep : ∀ i h h', tn i h → (∀ b ∈ fp, ∀ o, h.get? b = some o → h'.get? b = some o) → tn i h'
  item : ∀ (X : Cx), X.prog = P → X.w = w → X.K = K → X.calm = true → ∀ (i : Nat) (pins : List (Addr × Obj)) (s : Shared) (σ : St) (H : Hp) (E : Value → Shared → Prop), Inv X pins σ H s → (∀ b ∈ fp, FpOk X pins H b) → tn i s.heap → J.go i H →
    wpAny (model P w) X.A (pyNext (.ref it)) (fun r s1 => ∃ u, r = some u ∧
      wpAny (model P w) X.A (letOwnedTupleGo tg (.ref it) u) (fun _ s2 => ∃ x H', Inv X pins σ H' s2 ∧ RelV x u ∧ J.yld i H x H' ∧ tn (i + 1) s2.heap ∧ ∀ b ∈ fp, H' b = none) E s1) E s
  done : ∀ (X : Cx), X.prog = P → X.w = w → X.K = K → X.calm = true → ∀ (i : Nat) (pins : List (Addr × Obj)) (s : Shared) (σ : St) (H : Hp) (E : Value → Shared → Prop), Inv X pins σ H s → (∀ b ∈ fp, FpOk X pins H b) → tn i s.heap → J.stop i H →
    wpAny (model P w) X.A (pyNext (.ref it)) (fun r s1 => r = none ∧ Inv X pins σ H s1) E s
  self : ∀ (A : Around) (i : Nat) (s : Shared) (Q : Value → Shared → Prop) (E : Value → Shared → Prop), tn i s.heap → Q (.ref it) s → wpAny (model P w) A (pyIter (.ref it)) Q E s
abbrev TI := St → Hp → (It → Hp → Prop) → Prop
def PIE (X : Cx) (pins : List (Addr × Obj)) (σ : St) (tg : Expr) (R : It → Hp → Prop) (itv : Value) (s2 : Shared) : Prop :=
  ∃ (it : Addr) (fp : List Addr) (tn : Nat → Heap → Prop) (J : It) (H' : Hp), itv = .ref it ∧ Inv X pins σ H' s2 ∧ Turn X.prog X.w X.K tg J fp it tn ∧ tn 0 s2.heap ∧ (∀ b ∈ fp, FpOk X pins H' b) ∧ R J H'
def PI (X : Cx) (tg iter : Expr) (wi : TI) : Prop :=
  ∀ (pins : List (Addr × Obj)) (s : Shared) (σ : St) (H : Hp) (R : It → Hp → Prop), Inv X pins σ H s → wi σ H R →
    wpAny (model X.prog X.w) X.A (eval iter X.env) (fun v s1 => wpAny (model X.prog X.w) X.A (pyIter v) (PIE X pins σ tg R) X.xe s1) X.xe s
theorem go_of {M : Model} {A : Around} {E : Value → Shared → Prop} {s : Shared} {tg : Expr} {it : Addr} {u : Value} {o : Obj} {n : String} {vs : Array Value} {Q : Unit → Shared → Prop} (ho : s.heap.get? it = some o) (hc : o.cls = .type n) (hd : o.data = .fields vs)
    (hn : ["enumerate", "zip", "dict_itemiterator", "dict_reverseitemiterator", "odict_iterator", "itertools.zip_longest", "itertools.pairwise"].contains n = false) (hQ : Q () s) : wpAny M A (letOwnedTupleGo tg (.ref it) u) Q E s := by
  unfold letOwnedTupleGo
  cases tg <;> first
    | exact wpAny_pure hQ
    | (cases u <;> first
        | exact wpAny_pure hQ
        | (refine wpAny_bind (wpAny_load ho ?_)
           rw [hc, hd]
           show wpAny M A (if (["enumerate", "zip", "dict_itemiterator", "dict_reverseitemiterator", "odict_iterator", "itertools.zip_longest", "itertools.pairwise"].contains n && vs[0]? == some (rawInt _)) = true then _ else _) Q E s
           rw [if_neg (by intro h; rw [hn, Bool.false_and] at h; cases h)]
           exact wpAny_pure hQ))
def Itl (K : PySem.W.Frag) (a : Addr) : It :=
  ⟨fun i H => ∃ xs x, SqL K H a xs ∧ xs[i]? = some x, fun i H x H' => H' = H ∧ ∀ xs, SqL K H a xs → xs[i]? = some x, fun i H => ∃ xs, SqL K H a xs ∧ xs.length ≤ i⟩
def Itt (K : PySem.W.Frag) (a : Addr) : It :=
  ⟨fun i H => ∃ xs x, SqT K H a xs ∧ xs[i]? = some x, fun i H x H' => H' = H ∧ ∀ xs, SqT K H a xs → xs[i]? = some x, fun i H => ∃ xs, SqT K H a xs ∧ xs.length ≤ i⟩
def Itr (lo : Int) (n : Nat) : It := ⟨fun i _ => i < n, fun i H x H' => H' = H ∧ x = .int (lo + i), fun i _ => n ≤ i⟩
theorem turn_list {P : Program} {w : World} {K : PySem.W.Frag} {tg : Expr} (a it : Addr) : Turn P w K tg (Itl K a) [it] it (fun i h => h.IsListIter it a i) where
  mem := by simp
  obj := fun i h st b hb => by
    have e : b = it := by simpa using hb
    subst e
    obtain ⟨o, e, c, d⟩ := st
    exact ⟨o, e, fun v z => by rw [d] at z; cases z⟩
  keep := fun i h h' st k => st.at fun o e => k it (by simp) o e
  item := by
    intro X hP hw hK hc i pins s σ H E I hf st hg
    subst hP hw hK
    obtain ⟨xs, x, hq, hx⟩ := hg
    obtain ⟨its, rv, p, hz⟩ := I.list hq
    obtain ⟨u, hu, ru⟩ := rv.get hx
    obtain ⟨f0, f1, f2, f3, f4, f5⟩ := hf it (by simp)
    refine wpAny_pyNext_list_item st p.isList (x := u) (by simpa using hu) fun h' st' sb => ?_
    have I1 : Inv X pins σ H { s with heap := h' } := I.turned (t' := s.toks) (fun b o hb e => (sb.2 b hb).trans e) f0 f1 f3 f4 f5
    obtain ⟨o, e, c, d⟩ := id st'
    exact ⟨u, rfl, go_of (s := { s with heap := h' }) e c d (by decide) ⟨x, H, I1, ru, ⟨rfl, fun ys hy => by rw [I.list_inj hy hq]; exact hx⟩, st', fun b hb => (hf b hb).1⟩⟩
  done := by
    intro X hP hw hK hc i pins s σ H E I hf st hg
    subst hP hw hK
    obtain ⟨xs, hq, hx⟩ := hg
    obtain ⟨its, rv, p, hz⟩ := I.list hq
    obtain ⟨f0, f1, f2, f3, f4, f5⟩ := hf it (by simp)
    have hl := rv.length
    exact wpAny_pyNext_list_end (I.ok.hd hc) st p.isList (by simp; omega) fun h' eb => ⟨rfl, I.turned (t' := s.toks) (fun b o hb e => eb b o hb e) f0 f1 f3 f4 f5⟩
  self := fun _ _ _ _ _ st h => wpAny_pyIter_listiter st h
theorem turn_tuple {P : Program} {w : World} {K : PySem.W.Frag} {tg : Expr} (a it : Addr) : Turn P w K tg (Itt K a) [it] it (fun i h => h.IsTupleIter it a i) where
  mem := by simp
  obj := fun i h st b hb => by
    have e : b = it := by simpa using hb
    subst e
    obtain ⟨o, e, c, d⟩ := st
    exact ⟨o, e, fun v z => by rw [d] at z; cases z⟩
  keep := fun i h h' st k => st.at fun o e => k it (by simp) o e
  item := by
    intro X hP hw hK hc i pins s σ H E I hf st hg
    subst hP hw hK
    obtain ⟨xs, x, hq, hx⟩ := hg
    obtain ⟨its, rv, p, hz⟩ := I.tuple hq
    obtain ⟨u, hu, ru⟩ := rv.get hx
    obtain ⟨f0, f1, f2, f3, f4, f5⟩ := hf it (by simp)
    refine wpAny_pyNext_tuple_item st (show s.heap.IsTuple a its.toArray from p) (x := u) (by simpa using hu) fun h' st' sb => ?_
    have I1 : Inv X pins σ H { s with heap := h' } := I.turned (t' := s.toks) (fun b o hb e => (sb.2 b hb).trans e) f0 f1 f3 f4 f5
    obtain ⟨o, e, c, d⟩ := id st'
    exact ⟨u, rfl, go_of (s := { s with heap := h' }) e c d (by decide) ⟨x, H, I1, ru, ⟨rfl, fun ys hy => by rw [I.tuple_inj hy hq]; exact hx⟩, st', fun b hb => (hf b hb).1⟩⟩
  done := by
    intro X hP hw hK hc i pins s σ H E I hf st hg
    subst hP hw hK
    obtain ⟨xs, hq, hx⟩ := hg
    obtain ⟨its, rv, p, hz⟩ := I.tuple hq
    obtain ⟨f0, f1, f2, f3, f4, f5⟩ := hf it (by simp)
    have hl := rv.length
    exact wpAny_pyNext_tuple_end (I.ok.hd hc) st (show s.heap.IsTuple a its.toArray from p) (by simp; omega) fun h' eb => ⟨rfl, I.turned (t' := s.toks) (fun b o hb e => eb b o hb e) f0 f1 f3 f4 f5⟩
  self := fun _ _ _ _ _ st h => wpAny_pyIter_tupleiter st h
theorem turn_range {P : Program} {w : World} {K : PySem.W.Frag} {tg : Expr} (it : Addr) (lo : Int) (n : Nat) : Turn P w K tg (Itr lo n) [it] it (fun i h => IsRangeIter h it (lo + (i : Nat) * 1) ((n : Int) - (i : Nat)) 1) where
  mem := by simp
  obj := fun i h st b hb => by
    have e : b = it := by simpa using hb
    subst e
    exact ⟨_, st, fun v z => by
      have z' : Data.fields _ = Data.cell v := z
      cases z'⟩
  keep := fun i h h' st k => k it (by simp) _ st
  item := by
    intro X hP hw hK hc i pins s σ H E I hf st hg
    subst hP hw hK
    obtain ⟨f0, f1, f2, f3, f4, f5⟩ := hf it (by simp)
    have W := Walks.range (prog := X.prog) (w := X.w) (I.ok.hd hc) it lo 1 n
    refine W.item i s _ _ hg st fun v h' tk hv st' kk => ?_
    obtain ⟨t, rfl⟩ := hv
    have I1 : Inv X pins σ H { s with heap := h', toks := tk } := I.turned (fun b o hb e => kk b o (by simpa using hb) e) f0 f1 f3 f4 f5
    refine ⟨_, rfl, go_of (s := { s with heap := h', toks := tk }) (n := "range_iterator") st' rfl rfl (by decide) ⟨.int (lo + i), H, I1, ⟨t, ?_⟩, ⟨rfl, rfl⟩, st', fun b hb => (hf b hb).1⟩⟩
    rw [Int.mul_one]
  done := by
    intro X hP hw hK hc i pins s σ H E I hf st hg
    subst hP hw hK
    obtain ⟨f0, f1, f2, f3, f4, f5⟩ := hf it (by simp)
    exact wpAny_pyNext_range_end (I.ok.hd hc) st (by have : n ≤ i := hg; omega) fun h' eb => ⟨rfl, I.turned (t' := s.toks) (fun b o hb e => eb b o hb e) f0 f1 f3 f4 f5⟩
  self := fun _ _ _ _ _ st h => wpAny_pyIter_rangeiter st h
end L2
namespace L2
open PySem PySem.Spec PyProof.Rows
section
variable {X : Cx} {tg : Expr}
theorem range_it {pins : List (Addr × Obj)} {σ : St} {H : Hp} {s : Shared} {R : It → Hp → Prop} {E : Value → Shared → Prop} {lo hi : Int} {t u v : Tok} {tk : Nat} (I : Inv X pins σ H s) (h1 : -(2 ^ 62) ≤ lo) (h2 : lo < 2 ^ 62) (h3 : -(2 ^ 62) ≤ hi) (h4 : hi < 2 ^ 62)
    (q : R (Itr lo (hi - lo).toNat) H) : wpAny (model X.prog X.w) X.A (pyIter (.ref s.heap.objs.size)) (PIE X pins σ tg R) E { s with heap := s.heap.push { cls := .type "range", data := .fields #[.int lo t, .int hi u, .int 1 v] }, toks := tk } := by
  refine wpAny_pyIter_range (IsRange.new ..) (small_one h1 h2 h3 h4) ?_
  have I1 : Inv X pins σ H { s with heap := s.heap.push { cls := .type "range", data := .fields #[.int lo t, .int hi u, .int 1 v] }, toks := tk } := I.kept fun b o e => Heap.get?_push_of_some _ e
  refine ⟨(s.heap.push { cls := .type "range", data := .fields #[.int lo t, .int hi u, .int 1 v] }).objs.size, [(s.heap.push { cls := .type "range", data := .fields #[.int lo t, .int hi u, .int 1 v] }).objs.size], _, _, H, rfl,
    I1.kept (t' := tk) fun b o e => Heap.get?_push_of_some _ e, turn_range _ lo (hi - lo).toNat, ?_, fun b hb => ?_, q⟩
  · have e1 : lo + ((0 : Nat) : Int) * 1 = lo := by simp
    have e2 : (((hi - lo).toNat : Nat) : Int) - ((0 : Nat) : Int) = Builtin.Range.rangeSize lo hi 1 := by rw [rangeSize_one]; split <;> omega
    show IsRangeIter _ _ (lo + ((0 : Nat) : Int) * 1) ((((hi - lo).toNat : Nat) : Int) - ((0 : Nat) : Int)) 1
    rw [e1, e2]
    exact Heap.get?_push_size _ rfl
  · have e : b = (s.heap.push { cls := .type "range", data := .fields #[.int lo t, .int hi u, .int 1 v] }).objs.size := by simpa using hb
    subst e
    exact I1.fpOk (Nat.le_refl _) (I1.hok.fresh (Nat.le_refl _))
def iRng1 (ta : TA) : TI := fun σ H R => ta σ H fun vs H1 => ∃ j : Int, vs = [.int j] ∧ -(2 ^ 62) ≤ j ∧ j < 2 ^ 62 ∧ R (Itr 0 j.toNat) H1
def iRng2 (ta : TA) : TI := fun σ H R => ta σ H fun vs H1 => ∃ i j : Int, vs = [.int i, .int j] ∧ (-(2 ^ 62) ≤ i ∧ i < 2 ^ 62 ∧ -(2 ^ 62) ≤ j ∧ j < 2 ^ 62) ∧ R (Itr i (j - i).toNat) H1
theorem pi_range1 {a : Expr} {ta : TA} {p pos : Pos} (hg : Gl X "range") (hm : X.mg "range" = none) (ha : PA X [a] ta) (hs : starEach [a] X.env = [(false, eval a X.env)] := by rfl) : PI X tg (.Call (.Name "range" p) [a] [] pos) (iRng1 ta) := by
  intro pins s σ H R I h
  refine Call_ (ld_blt I hg hm boot_range (PyProof.Rows.callWith_type1 (thn (ha pos pins s σ H _ I h) fun us s1 ⟨vs, H1, I1, r1, q1⟩ => ?_) hs rfl))
  obtain ⟨j, e, q1, q2, q⟩ := q1
  subst e
  cases r1 with
  | cons r rr =>
    cases rr
    obtain ⟨t, rfl⟩ := r
    exact call_range_1 (range_it I1 (by omega) (by omega) q1 q2 (by simpa using q))
theorem pi_range2 {a b : Expr} {ta : TA} {p pos : Pos} (hg : Gl X "range") (hm : X.mg "range" = none) (ha : PA X [a, b] ta) (hs : starEach [a, b] X.env = [(false, eval a X.env), (false, eval b X.env)] := by rfl) (hs2 : starEach [b] X.env = [(false, eval b X.env)] := by rfl) :
    PI X tg (.Call (.Name "range" p) [a, b] [] pos) (iRng2 ta) := by
  intro pins s σ H R I h
  refine Call_ (ld_blt I hg hm boot_range (PyProof.Rows.callWith_type1 (thn (ha pos pins s σ H _ I h) fun us s1 ⟨vs, H1, I1, r1, q1⟩ => ?_) (by rw [hs, hs2]) (by rw [hs2]; rfl)))
  obtain ⟨i, j, e, ⟨q1, q2, q3, q4⟩, q⟩ := q1
  subst e
  cases r1 with
  | cons r rr =>
    cases rr with
    | cons r' rr =>
      cases rr
      obtain ⟨t, rfl⟩ := r
      obtain ⟨t', rfl⟩ := r'
      exact call_range_2 (range_it I1 q1 q2 q3 q4 q)
def tFor (wi : TI) (g : TG) (tb : TS) : TS := fun D σ H => wi σ H fun J H1 => ∃ W : Nat → Nat → St → Hp → Prop, (∃ m, W 0 m σ H1) ∧ ∀ i m σ H, W i m σ H →
  (J.stop i H ∧ D.nx σ H) ∨ (J.go i H ∧ ∃ N : St → Hp → Prop, (∀ σ' H', N σ' H' → ∃ m', m' < m ∧ W (i + 1) m' σ' H') ∧ ∀ x H', J.yld i H x H' → g x σ H' fun σ2 H2 => tb { D with nx := N, ct := N, bk := D.nx } σ2 H2)
def pinsAt (fp : List Addr) (h : Heap) : List (Addr × Obj) := fp.filterMap fun b => (h.get? b).map fun o => (b, o)
theorem mem_pinsAt {fp : List Addr} {h : Heap} {b : Addr} {o : Obj} (hb : b ∈ fp) (e : h.get? b = some o) : (b, o) ∈ pinsAt fp h := List.mem_filterMap.mpr ⟨b, hb, by rw [e]; rfl⟩
theorem of_pinsAt {fp : List Addr} {h : Heap} {p : Addr × Obj} (hp : p ∈ pinsAt fp h) : p.1 ∈ fp ∧ h.get? p.1 = some p.2 := by
  obtain ⟨b, hb, e⟩ := List.mem_filterMap.mp hp
  cases q : h.get? b with
  | none => rw [q] at e; cases e
  | some o =>
    rw [q] at e
    have e' : (b, o) = p := Option.some.inj e
    subst e'
    exact ⟨hb, q⟩
theorem Inv.pinned {pins : List (Addr × Obj)} {σ : St} {H : Hp} {s : Shared} {fp : List Addr} (I : Inv X pins σ H s) (hf : ∀ b ∈ fp, FpOk X pins H b) (ho : ∀ b ∈ fp, ∃ o, s.heap.get? b = some o ∧ ∀ v, o.data ≠ .cell v) : Inv X (pins ++ pinsAt fp s.heap) σ H s :=
  I.pins_of fun p hp => (List.mem_append.mp hp).elim (fun z => I.pin p (List.mem_append_right _ z)) fun z => by
    obtain ⟨hb, e⟩ := of_pinsAt z
    obtain ⟨f0, f1, f2, _⟩ := hf p.1 hb
    obtain ⟨o, e', d⟩ := ho p.1 hb
    rw [e] at e'; cases e'
    exact ⟨e, f0, f1, f2, d⟩
theorem Inv.unpinned {pins pl : List (Addr × Obj)} {σ : St} {H : Hp} {s : Shared} (I : Inv X (pins ++ pl) σ H s) : Inv X pins σ H s := I.pins_of fun p hp => I.pin p (List.mem_append_right _ (List.mem_append_left _ hp))
theorem ps_for {iter : Expr} {body : List Stmt} {wi : TI} {g : TG} {tb : TS} {pos : Pos} (hp : PassesOwn (model X.prog X.w) X.A X.env X.xe) (hc : X.calm = true) (hi : PI X tg iter wi) (hg : PG X tg g) (hb : PSs X body tb)
    (hs : ∀ x, foldedSetIterable iter X.env x = pure x := by intro _; rfl) : PS X (.For tg iter body [] pos) (tFor wi g tb) := by
  intro pins s σ H D I h
  refine wpAny_For (thn (hi pins s σ H _ I h) fun v s1 h1 => thn h1 fun itv s2 h2 => ?_) hs
  obtain ⟨it, fp, tn, J, H2, e, I2, T, st2, f2, W, ⟨m0, w0⟩, turn⟩ := h2
  subst e
  -- what stays true of the iterator's objects through the loop
  have stat : ∀ {H' : Hp}, (∀ b ∈ fp, H' b = none) → ∀ b ∈ fp, FpOk X pins H' b := fun hn b hb => ⟨hn b hb, (f2 b hb).2⟩
  refine codeAny_forLoop_any (fun n s' => ∃ i σ' H', Inv X pins σ' H' s' ∧ tn i s'.heap ∧ (∀ b ∈ fp, H' b = none) ∧ W i n σ' H') ?_ m0 ⟨0, σ, H2, I2, st2, fun b hb => (f2 b hb).1, w0⟩
  rintro n s3 ⟨i, σ3, H3, I3, st3, fr3, w3⟩
  rcases turn i n σ3 H3 w3 with ⟨stop, qn⟩ | ⟨go, N, hN, step⟩
  · refine wpAny_passesOwn hp (thn (T.done X rfl rfl rfl hc i pins s3 σ3 H3 X.xe I3 (stat fr3) st3 stop) fun r s4 ⟨hr, I4⟩ => ?_)
    subst hr
    exact wpAny_execs_nil ⟨σ3, H3, I4, qn⟩
  · refine wpAny_passesOwn hp (thn (T.item X rfl rfl rfl hc i pins s3 σ3 H3 X.xe I3 (stat fr3) st3 go) fun r s4 ⟨u, hr, h4⟩ => ?_)
    subst hr
    refine wpAny_passesOwn hp (thn h4 fun _ s5 ⟨x, H5, I5, r5, y5, st5, fr5⟩ => ?_)
    have I5' := I5.pinned (stat fr5) (T.obj _ _ st5)
    refine wpAny_passesOwn hp (thn (hg _ s5 σ3 H5 x u _ I5' r5 (step x H5 y5)) fun _ s6 ⟨σ6, H6, I6, q6⟩ => ?_)
    refine wpAny_passesOwn hp (thn (hb _ s6 σ6 H6 _ I6 q6) fun f s7 q7 => ?_)
    have again : ∀ {σ7 : St} {H7 : Hp}, Inv X (pins ++ pinsAt fp s5.heap) σ7 H7 s7 → N σ7 H7 → ∃ m, m < n ∧ ∃ i σ' H', Inv X pins σ' H' s7 ∧ tn i s7.heap ∧ (∀ b ∈ fp, H' b = none) ∧ W i m σ' H' := fun {σ7 H7} I7 n7 => by
      obtain ⟨m', hm, w7⟩ := hN σ7 H7 n7
      refine ⟨m', hm, i + 1, σ7, H7, I7.unpinned, T.keep _ _ _ st5 fun b hb o e => (I7.pin (b, o) (List.mem_append_right _ (List.mem_append_right _ (mem_pinsAt hb e)))).1, fun b hb => ?_, w7⟩
      obtain ⟨o, e, d⟩ := T.obj _ _ st5 b hb
      exact (I7.pin (b, o) (List.mem_append_right _ (List.mem_append_right _ (mem_pinsAt hb e)))).2.1
    cases f with
    | next => obtain ⟨σ7, H7, I7, n7⟩ := q7; exact again I7 n7
    | cont => obtain ⟨σ7, H7, I7, n7⟩ := q7; exact again I7 n7
    | brk => obtain ⟨σ7, H7, I7, q7⟩ := q7; exact ⟨σ7, H7, I7.unpinned, q7⟩
    | ret v => obtain ⟨x7, σ7, H7, I7, r7, q7⟩ := q7; exact ⟨x7, σ7, H7, I7.unpinned, r7, q7⟩
end
end L2
namespace L2
open PySem PySem.Spec PyProof.Rows
abbrev R2 := V → V → Hp → VK → Prop
def OpR (X : Cx) (f : Value → Value → Sem Value) (r : R2) : Prop :=
  ∀ (pins : List (Addr × Obj)) (s : Shared) (σ : St) (H : Hp) (x y : V) (v u : Value) (Q : VK), Inv X pins σ H s → RelV x v → RelV y u → r x y H Q →
    wpAny (model X.prog X.w) X.A (f v u) (EP X pins σ Q) X.xe s
def CallR (X : Cx) (f : Value) (r : List V → Hp → VK → Prop) : Prop :=
  ∀ (pins : List (Addr × Obj)) (s : Shared) (σ : St) (H : Hp) (xs : List V) (us : List Value) (Q : VK), Inv X pins σ H s → Vals xs us → r xs H Q →
    wpAny (model X.prog X.w) X.A (call f us) (EP X pins σ Q) X.xe s
def tOp (r : R2) (ta tb : TE) : TE := fun σ H Q => ta σ H fun x H1 => tb σ H1 fun y H2 => r x y H2 Q
def rI (C : Int → Int → Prop) (g : Int → Int → V) : R2 := fun x y H Q => ∃ i j, x = .int i ∧ y = .int j ∧ C i j ∧ Q (g i j) H
def rI0 (g : Int → Int → V) : R2 := fun x y H Q => ∃ i j, x = .int i ∧ y = .int j ∧ Q (g i j) H
section
variable {X : Cx} {a b c : Expr} {ta tb tc : TE} {pos : Pos}
theorem binT (ha : PE X a ta) (hb : PE X b tb) {pins : List (Addr × Obj)} {s : Shared} {σ : St} {H : Hp} {R : V → V → Hp → Prop} (I : Inv X pins σ H s)
    (h : ta σ H fun x H1 => tb σ H1 fun y H2 => R x y H2) {Q : Value → Shared → Prop} {f : Value → Value → Sem Value}
    (hf : ∀ v u s2 x y H2, Inv X pins σ H2 s2 → RelV x v → RelV y u → R x y H2 → wpAny (model X.prog X.w) X.A (f v u) Q X.xe s2) :
    wpAny (model X.prog X.w) X.A (eval a X.env) (fun v s₁ => wpAny (model X.prog X.w) X.A (eval b X.env) (fun u s₂ => wpAny (model X.prog X.w) X.A (f v u) Q X.xe s₂) X.xe s₁) X.xe s := by
  refine thn (ha pins s σ H _ I h) fun v s1 ⟨x, H1, I1, r1, q1⟩ => ?_
  refine thn (hb pins s1 σ H1 _ I1 q1) fun u s2 ⟨y, H2, I2, r2, q2⟩ => ?_
  exact hf v u s2 x y H2 I2 r1 r2 q2
theorem pe_op {op : Operator} {r : R2} (ho : OpR X (binaryOp op) r) (ha : PE X a ta) (hb : PE X b tb) : PE X (.BinOp a op b pos) (tOp r ta tb) := by
  intro pins s σ H Q I h
  exact wpAny_BinOp (binT ha hb I h fun v u s2 x y H2 I2 rx ry q => ho pins s2 σ H2 x y v u Q I2 rx ry q)
theorem opI {f : Value → Value → Sem Value} {C : Int → Int → Prop} {g : Int → Int → Int}
    (rule : ∀ (i j : Int) (t u : Tok) (s : Shared) (Q : Value → Shared → Prop) (E : Value → Shared → Prop), C i j → Q (.int (g i j) s.toks) { s with toks := s.toks + 1 } → wpAny (model X.prog X.w) X.A (f (.int i t) (.int j u)) Q E s) :
    OpR X f (rI C fun i j => .int (g i j)) := by
  intro pins s σ H x y v u Q I rx ry h
  obtain ⟨i, j, rfl, rfl, hc, q⟩ := h
  obtain ⟨t, rfl⟩ := rx
  obtain ⟨t', rfl⟩ := ry
  exact rule i j t t' s _ _ hc ⟨.int (g i j), H, I.tok _, ⟨_, rfl⟩, q⟩
theorem opI0 {f : Value → Value → Sem Value} {g : Int → Int → Int}
    (rule : ∀ (i j : Int) (t u : Tok) (s : Shared) (Q : Value → Shared → Prop) (E : Value → Shared → Prop), Q (.int (g i j) s.toks) { s with toks := s.toks + 1 } → wpAny (model X.prog X.w) X.A (f (.int i t) (.int j u)) Q E s) :
    OpR X f (rI0 fun i j => .int (g i j)) := by
  intro pins s σ H x y v u Q I rx ry h
  obtain ⟨i, j, rfl, rfl, q⟩ := h
  obtain ⟨t, rfl⟩ := rx
  obtain ⟨t', rfl⟩ := ry
  exact rule i j t t' s _ _ ⟨.int (g i j), H, I.tok _, ⟨_, rfl⟩, q⟩
theorem opB0 {f : Value → Value → Sem Value} {g : Int → Int → Bool}
    (rule : ∀ (i j : Int) (t u : Tok) (s : Shared) (Q : Value → Shared → Prop) (E : Value → Shared → Prop), Q (.bool (g i j)) s → wpAny (model X.prog X.w) X.A (f (.int i t) (.int j u)) Q E s) :
    OpR X f (rI0 fun i j => .bl (g i j)) := by
  intro pins s σ H x y v u Q I rx ry h
  obtain ⟨i, j, rfl, rfl, q⟩ := h
  obtain ⟨t, rfl⟩ := rx
  obtain ⟨t', rfl⟩ := ry
  exact rule i j t t' s _ _ ⟨.bl (g i j), H, I, rfl, q⟩
def CDiv (i j : Int) : Prop := 0 < j ∧ j < 1073741824
def CPow (i j : Int) : Prop := 0 ≤ j ∧ j ≤ 1000000 ∧ i.natAbs < 2 ^ 64
def CMul (i j : Int) : Prop := (-(2 ^ 64) < i ∧ i < 2 ^ 64) ∨ (-(2 ^ 64) < j ∧ j < 2 ^ 64)
theorem CMul.ok {i j : Int} (h : CMul i j) : IntMulOk i j := by
  rcases h with ⟨h1, h2⟩ | ⟨h1, h2⟩
  · exact .of_left (intBits_le_64 h1 h2)
  · exact .of_right (intBits_le_64 h1 h2)
theorem op_add : OpR X (binaryOp .Add) (rI0 fun i j => .int (i + j)) := opI0 fun _ _ _ _ _ _ _ q => add_int q
theorem op_sub : OpR X (binaryOp .Sub) (rI0 fun i j => .int (i - j)) := opI0 fun _ _ _ _ _ _ _ q => sub_int q
theorem op_mul : OpR X (binaryOp .Mult) (rI CMul fun i j => .int (i * j)) := opI fun _ _ _ _ _ _ _ hc q => mul_int q hc.ok
theorem op_fdiv : OpR X (binaryOp .FloorDiv) (rI CDiv fun i j => .int (i / j)) := opI fun i j _ _ _ _ _ hc q => by
  have h1 : (0 : Int) < j := hc.1
  have h2 : j < 1073741824 := hc.2
  exact floordiv_int (by omega) (by rw [Int.fdiv_eq_ediv_of_nonneg i (by omega)]; exact q) (.inl (PyProof.noPylong_small (by omega)))
theorem op_mod : OpR X (binaryOp .Mod) (rI (fun _ j => 0 < j) fun i j => .int (i % j)) := opI fun i j _ _ _ _ _ hc q => by
  have h1 : (0 : Int) < j := hc
  exact mod_int' (by omega) (by rw [Int.fmod_eq_emod_of_nonneg i (by omega)]; exact q)
theorem op_pow : OpR X (binaryOp .Pow) (rI CPow fun i j => .int (i ^ j.toNat)) := opI fun _ _ _ _ _ _ _ hc q => pow_int_small hc.1 hc.2.1 hc.2.2 q
end
section
variable {X : Cx} {a b c : Expr} {ta tb tc : TE} {pos : Pos}
theorem fin_bl {pins : List (Addr × Obj)} {σ : St} {H : Hp} {s : Shared} {Q : VK} {k k' : Bool} (I : Inv X pins σ H s) (q : Q (.bl k) H) (e : k = k') : EP X pins σ Q (.bool k') s := by
  subst e
  exact ⟨.bl k, H, I, rfl, q⟩
theorem op_lt : OpR X (compareOp .Lt) (rI0 fun i j => .bl (decide (i < j))) := opB0 fun _ _ _ _ _ _ _ q => lt_int q
theorem op_le : OpR X (compareOp .LtE) (rI0 fun i j => .bl (decide (i ≤ j))) := opB0 fun _ _ _ _ _ _ _ q => le_int q
theorem op_gt : OpR X (compareOp .Gt) (rI0 fun i j => .bl (decide (j < i))) := opB0 fun _ _ _ _ _ _ _ q => gt_int q
theorem op_ge : OpR X (compareOp .GtE) (rI0 fun i j => .bl (decide (j ≤ i))) := opB0 fun _ _ _ _ _ _ _ q => ge_int q
theorem op_isN : OpR X (compareOp .Is) (fun x y H Q => y = .non ∧ Q (.bl (decide (x = .non))) H) := by
  intro pins s σ H x y v u Q I rx ry h
  obtain ⟨rfl, q⟩ := h
  cases ry
  refine is_none_gen (fin_bl I q ?_)
  cases x <;> first
    | (cases rx; rfl)
    | (obtain ⟨t, rfl⟩ := rx; rfl)
theorem op_notN : OpR X (compareOp .IsNot) (fun x y H Q => y = .non ∧ Q (.bl (!decide (x = .non))) H) := by
  intro pins s σ H x y v u Q I rx ry h
  obtain ⟨rfl, q⟩ := h
  cases ry
  refine isnot_none_gen (fin_bl I q ?_)
  cases x <;> first
    | (cases rx; rfl)
    | (obtain ⟨t, rfl⟩ := rx; rfl)
def isObj : HO → Bool
  | .lst _ => true
  | .ins _ _ _ => true
  | _ => false
theorem obj_there {pins : List (Addr × Obj)} {s : Shared} {σ : St} {H : Hp} {a : Addr} {o : HO} (I : Inv X pins σ H s) (h : H a = some o) (p : isObj o = true) : ∃ ob, s.heap.get? a = some ob ∧ ob.cls ≠ .type "tuple" := by
  cases o with
  | lst xs =>
    obtain ⟨_, its, n, _, e⟩ : xs.length ≤ sizeLine ∧ ∃ (its : List Value) (n : Nat), Vals xs its ∧ s.heap.get? a = some { cls := .type "list", data := .seq its.toArray n } := I.hok a _ h
    exact ⟨_, e, (by show Value.type "list" ≠ .type "tuple"; decide +kernel)⟩
  | ins C dx fs =>
    have x := I.hok a _ h
    obtain ⟨_, _, _, e, _⟩ := x
    exact ⟨_, e, (by show Value.ref C ≠ .type "tuple"; exact fun z => by cases z)⟩
  | _ => exact absurd (show false = true from p) Bool.false_ne_true
theorem nomark (b : Expr) {op : CmpOp} (h : op ≠ .In := by decide) (h2 : op ≠ .NotIn := by decide) : behindInMarks op b = false := by
  have e1 : (op == CmpOp.In) = false := by cases op <;> first | rfl | exact absurd rfl h
  have e2 : (op == CmpOp.NotIn) = false := by cases op <;> first | rfl | exact absurd rfl h2
  cases b <;> simp [behindInMarks, e1, e2]
theorem pe_cmpR {op : CmpOp} {r : R2} (ho : OpR X (compareOp op) r) (ha : PE X a ta) (hb : PE X b tb) (hm : behindInMarks op b = false) : PE X (.Compare a [op] [b] pos) (tOp r ta tb) := by
  intro pins s σ H Q I h
  exact wpAny_Compare1 (binT ha hb I h fun v u s2 x y H2 I2 rx ry q => ho pins s2 σ H2 x y v u Q I2 rx ry q) hm
def tTest (t : TE) : TT := fun σ H Q => t σ H fun x H' => ∃ k, x = .bl k ∧ Q k H'
theorem pt_cmpR {op : CmpOp} {r : R2} (ho : OpR X (compareOp op) r) (ha : PE X a ta) (hb : PE X b tb) (hm : behindInMarks op b = false) : PT X (.Compare a [op] [b] pos) (tTest (tOp r ta tb)) := by
  intro pins s σ H Q I h
  refine wpAny_isTrue_Compare1 (thn (ha pins s σ H _ I h) fun v s1 ⟨x, H1, I1, r1, q1⟩ => thn (hb pins s1 σ H1 _ I1 q1) fun u s2 ⟨y, H2, I2, r2, q2⟩ =>
    thn (ho pins s2 σ H2 x y v u _ I2 r1 r2 q2) fun c s3 ⟨z, H3, I3, r3, k, e, q3⟩ => ?_) hm
  subst e
  cases r3
  exact wpAny_truthy_bool ⟨H3, I3, q3⟩
def tChain (r r' : R2) (ta tb tc : TE) : TE := fun σ H Q => ta σ H fun x H1 => tb σ H1 fun y H2 => r x y H2 fun z H3 => ∃ k, z = .bl k ∧
  (if k = true then tc σ H3 fun w' H4 => r' y w' H4 Q else Q (.bl false) H3)
theorem pe_chain {op op' : CmpOp} {r r' : R2} (ho : OpR X (compareOp op) r) (ho' : OpR X (compareOp op') r') (ha : PE X a ta) (hb : PE X b tb) (hc : PE X c tc)
    (hm : lastMarks [op, op'] [b, c] = false := by with_unfolding_all rfl) : PE X (.Compare a [op, op'] [b, c] pos) (tChain r r' ta tb tc) := by
  intro pins s σ H Q I h
  refine Compare_chain (thn (ha pins s σ H _ I h) fun v s1 ⟨x, H1, I1, r1, q1⟩ => chain_link (thn (hb pins s1 σ H1 _ I1 q1) fun u s2 ⟨y, H2, I2, r2, q2⟩ =>
    thn (ho pins s2 σ H2 x y v u _ I2 r1 r2 q2) fun d s3 ⟨z, H3, I3, r3, k, e, q3⟩ => ?_)) hm
  subst e
  cases r3
  refine wpAny_truthy_bool ?_
  cases k with
  | false => exact ite_ff ⟨.bl false, H3, I3, rfl, q3⟩
  | true => exact ite_tt (chain_last (thn (hc pins s3 σ H3 _ I3 q3) fun w' s4 ⟨z', H4, I4, r4, q4⟩ => ho' pins s4 σ H4 y z' u w' Q I4 r2 r4 q4))
theorem line63 : (sizeLine : Nat) < 2 ^ 63 := by rw [sizeLine_eq]; decide
theorem op_add_str : OpR X (binaryOp .Add) (fun x y H Q => ∃ i j, x = .str i ∧ y = .str j ∧ i.length + j.length ≤ sizeLine ∧ Q (.str (i ++ j)) H) := by
  intro pins s σ H x y v u Q I rx ry h
  obtain ⟨i, j, rfl, rfl, hz, q⟩ := h
  obtain ⟨t, rfl⟩ := rx
  obtain ⟨t', rfl⟩ := ry
  exact add_str (fun t' tk => ⟨.str (i ++ j), H, I.tok _, ⟨_, rfl⟩, q⟩) hz
theorem vals1 {x : V} {us : List Value} (r : Vals [x] us) : ∃ u, us = [u] ∧ RelV x u := by
  cases r with
  | cons r1 r2 => cases r2; exact ⟨_, rfl, r1⟩
theorem vals2 {x y : V} {us : List Value} (r : Vals [x, y] us) : ∃ u w', us = [u, w'] ∧ RelV x u ∧ RelV y w' := by
  cases r with
  | cons r1 r2 =>
    cases r2 with
    | cons r3 r4 => cases r4; exact ⟨_, _, rfl, r1, r3⟩
theorem call_max2 (hc : X.calm = true) : CallR X (.builtin "max") (fun xs H Q => ∃ i j, xs = [.int i, .int j] ∧ Q (.int (if j > i then j else i)) H) := by
  intro pins s σ H xs us Q I r h
  obtain ⟨i, j, rfl, q⟩ := h
  obtain ⟨u, w', rfl, ⟨t, rfl⟩, ⟨t', rfl⟩⟩ := vals2 r
  refine max_two_ints (I.ok.hd hc) fun h' tk k => ⟨_, H, I.kept k, ?_, q⟩
  by_cases hj : j > i
  · rw [if_pos hj, if_pos hj]; exact ⟨_, rfl⟩
  · rw [if_neg hj, if_neg hj]; exact ⟨_, rfl⟩
end
end L2
namespace L2
open PySem PySem.Spec PyProof.Rows
structure ObjM (h : Heap) (x dx C : Addr) (mA : Str → Option Value) : Prop where
  obj : h.get? x = some (PySem.W.instObj C dx)
  ns : h.Ns1 dx mA
  ne : dx ≠ x
theorem lookIn_ns {h : Heap} {dx : Addr} {mA : Str → Option Value} (n : h.Ns1 dx mA) : ∃ od, h.get? dx = some od ∧ ∀ name, PySem.W.lookIn name od = some (mA name) := by
  obtain ⟨o, es, ep, ho, hd, hk, _, hm⟩ := n
  refine ⟨o, ho, fun name => ?_⟩
  have e := hm name
  unfold nsFind findBy at e
  rw [← Array.find?_toList] at e
  unfold PySem.W.lookIn
  rw [hd]
  dsimp only
  split
  · rename_i y q
    rw [q] at e
    exact congrArg some e
  · rename_i q
    rw [q] at e
    have a : es.toList.any (·.refKey) = false := by
      rw [List.any_eq_false]
      intro y hy
      obtain ⟨z, t, hkey⟩ := hk y (Array.mem_toList_iff.mp hy)
      simp [DictEntry.refKey, hkey]
    have a' : ¬ es.toList.any (·.refKey) = true := by rw [a]; exact Bool.false_ne_true
    rw [if_neg a']
    exact congrArg some e
theorem ObjM.look {h : Heap} {x dx C : Addr} {mA : Str → Option Value} (I : ObjM h x dx C mA) : ∃ od, PySem.W.InstAt h x (PySem.W.instObj C dx) C (some od) ∧ ∀ name, PySem.W.lookIn name od = some (mA name) :=
  let ⟨od, ho, hl⟩ := lookIn_ns I.ns
  ⟨od, ⟨I.obj, rfl, rfl, ho⟩, hl⟩
section
variable {prog : Program} {w : World} {A : Around} {E : Value → Shared → Prop} {s : Shared} {K : PySem.W.Frag} {x dx C f : Addr} {mA : Str → Option Value} {name : Str} {v : Value}
theorem get_map {expr : Bool} {Q : Value → Shared → Prop} (X : K.In s.heap) (I : ObjM s.heap x dx C mA) (hg : PySem.W.plainGet K C name = true) (hh : PySem.W.hasDictIn K C = true)
    (ha : PySem.W.findIn K (.ref C) name = some none) (hv : mA name = some v) (hv' : PySem.W.handedIn v = true) (h : Q v { s with toks := s.toks + 1 }) :
    wpAny (model prog w) A (getAttr (.ref x) name expr) Q E s := by
  obtain ⟨od, J, hl⟩ := I.look
  exact PySem.W.get_value X J (PySem.W.plainGet_of hg).1 (PySem.W.findObj_own hh ha rfl (by rw [hl, hv])) hv' h
theorem get_meth {pl : Sem Bool} {Q : Value × List Value → Shared → Prop} (X : K.In s.heap) (I : ObjM s.heap x dx C mA) (hg : PySem.W.plainGet K C name = true)
    (hf : PySem.W.findIn K (.ref C) name = some (some (.ref f))) (ht : PySem.W.isFn K (.ref f) = true) (hv : mA name = none) (h : Q (.ref f, [.ref x]) s) :
    wpAny (model prog w) A (getMethod (.ref x) name pl) Q E s := by
  obtain ⟨od, J, hl⟩ := I.look
  exact PySem.W.method_fn X J (PySem.W.plainGet_of hg).1 (PySem.W.plainGet_of hg).2 hf (beq_iff_eq.mp ht) (by show (PySem.W.lookIn name od).map (·.isSome) = some false; rw [hl, hv]; rfl) h
theorem set_map {ns : List Str} {Q : Unit → Shared → Prop} (X : K.In s.heap) (I : ObjM s.heap x dx C mA)
    (hs : PySem.W.findIn K (.ref C) "__setattr__" = some (some (.builtin "object.__setattr__"))) (hp : PySem.W.plainOver K C = true) (ht : PySem.W.takerIn K C name = some none) (hh : PySem.W.hasDictIn K C = true)
    (hw : PySem.Within mA ns) (hsz : ns.length ≤ sizeLine)
    (h : ∀ h', ObjM h' x dx C (fun y => if y = name then some v else mA y) → Heap.SameBut dx s.heap h' → Q () { s with heap := h', toks := s.toks + 2 }) :
    wpAny (model prog w) A (setAttr (.ref x) name v) Q E s := by
  obtain ⟨od, J, hl⟩ := I.look
  refine PySem.W.set_plain X J hs (PySem.W.osa_open (s := { s with toks := s.toks + 1 }) (r := none) X J hp ht fun b => ?_)
  obtain ⟨cd, hc, hd'⟩ := PySem.W.any_some hh
  have hx : s.heap.get? x = some ⟨.ref C, some dx, .plain, #[]⟩ := I.obj
  refine wpAny_bind (wpAny_pure (wpAny_bind (wpAny_bind (wpAny_loadPart hx (wpAny_bind (PySem.W.Looks.here (s := { s with toks := s.toks + 1 }) (PySem.W.looks_clsIn X hc) ?_))))))
  rw [hd']
  refine wpAny_pure (a := some dx) (wpAny_bind (wpAny_pure (wpAny_bind ?_)))
  refine wpAny_nsSet1 (s := { s with toks := s.toks + 1 }) I.ns fun h' hn2 hs2 => ?_
  obtain ⟨oD, esD, epD, hoD, hdD, hcD⟩ := hn2.count (PySem.Within.cons name v hw)
  refine wpAny_bind (wpAny_lookBehind hoD (by rw [hdD]; exact pastItsLine_dict (Nat.le_trans hcD (by rw [List.length_cons]; omega))) ?_)
  exact wpAny_pure (h _ ⟨(hs2.2 _ (Ne.symm I.ne)).trans I.obj, hn2, I.ne⟩ hs2)
theorem make_map {R : Result → Shared → Prop} {vs : List Value} {kw : List (Str × Value)} (X : K.In s.heap) (hm : PySem.W.makesIn K C = true)
    (hi : PySem.W.findIn K (.ref C) "__init__" = some (some (.ref f))) (hf : PySem.W.typeIn K (.ref f) = some (.type "function"))
    (h : codeAny (model prog w) (A.under (.builtin "type.__call__" ⟨.ref C :: vs, kw⟩)) (.call (.ref f) ⟨.ref (s.heap.objs.size + 1) :: vs, kw⟩) (PySem.W.InitBack (s.heap.objs.size + 1) R)
      { s with heap := (s.heap.push PySem.W.emptyDict).push (PySem.W.instObj C s.heap.objs.size) }) :
    codeAny (model prog w) A (.call (.ref C) ⟨vs, kw⟩) R s := by
  obtain ⟨hh, g, d, t, os⟩ := s
  exact PySem.W.make_core (PySem.W.makes_of X hm) (PySem.W.looks_findIn X hi) (fun self => PySem.W.bind_fn X self hf) (.inl rfl) h
end
def putF (f : Str) (v : V) : List (Str × V) → List (Str × V)
  | [] => [(f, v)]
  | (g, x) :: r => if g = f then (g, v) :: r else (g, x) :: putF f v r
theorem lookup_putF (f g : Str) (v : V) : ∀ fs : List (Str × V), (putF f v fs).lookup g = if g = f then some v else fs.lookup g
  | [] => by
    show List.lookup g [(f, v)] = _
    by_cases h : g = f
    · have hb : (g == f) = true := beq_iff_eq.mpr h
      simp only [List.lookup, hb, if_pos h]
    · have hb : (g == f) = false := beq_eq_false_iff_ne.mpr h
      simp only [List.lookup, hb, if_neg h]
  | (k, x) :: r => by
    have ih := lookup_putF f g v r
    rw [show putF f v ((k, x) :: r) = (if k = f then (k, v) :: r else (k, x) :: putF f v r) from rfl]
    by_cases hk : k = f
    · rw [if_pos hk]
      by_cases h : g = k
      · have hb : (g == k) = true := beq_iff_eq.mpr h
        simp only [List.lookup, hb, if_pos (h.trans hk)]
      · have hb : (g == k) = false := beq_eq_false_iff_ne.mpr h
        simp only [List.lookup, hb, if_neg (fun e : g = f => h (e.trans hk.symm))]
    · rw [if_neg hk]
      by_cases h : g = k
      · have hb : (g == k) = true := beq_iff_eq.mpr h
        simp only [List.lookup, hb, if_neg (fun e : g = f => hk (h.symm.trans e))]
      · have hb : (g == k) = false := beq_eq_false_iff_ne.mpr h
        simp only [List.lookup, hb]
        exact ih
theorem keys_putF (f : Str) (v : V) : ∀ fs : List (Str × V), f ∈ (putF f v fs).map (·.1) ∧ ∀ g, g ∈ fs.map (·.1) → g ∈ (putF f v fs).map (·.1)
  | [] => ⟨by simp [putF], fun g h => by simp at h⟩
  | (k, x) :: r => by
    obtain ⟨i1, i2⟩ := keys_putF f v r
    rw [show putF f v ((k, x) :: r) = (if k = f then (k, v) :: r else (k, x) :: putF f v r) from rfl]
    by_cases hk : k = f
    · rw [if_pos hk]
      subst hk
      exact ⟨by simp, fun g h => by simpa using h⟩
    · rw [if_neg hk]
      refine ⟨?_, fun g h => ?_⟩
      · rw [List.map_cons]
        exact List.mem_cons_of_mem _ i1
      · rw [List.map_cons] at h ⊢
        rcases List.mem_cons.mp h with e | e
        · exact List.mem_cons.mpr (.inl e)
        · exact List.mem_cons_of_mem _ (i2 g e)
theorem length_putF (f : Str) (v : V) : ∀ fs : List (Str × V), (putF f v fs).length ≤ fs.length + 1
  | [] => by simp [putF]
  | (k, x) :: r => by
    have ih := length_putF f v r
    rw [show putF f v ((k, x) :: r) = (if k = f then (k, v) :: r else (k, x) :: putF f v r) from rfl]
    by_cases hk : k = f
    · rw [if_pos hk, List.length_cons, List.length_cons]; omega
    · rw [if_neg hk, List.length_cons, List.length_cons]; omega
theorem RelO.some_of {v : V} {o : Option Value} (r : RelO (some v) o) : ∃ u, o = some u ∧ RelV v u := by
  cases o with
  | none => exact (show False from r).elim
  | some u => exact ⟨u, rfl, r⟩
theorem RelO.none_of {o : Option Value} (r : RelO none o) : o = none := by
  cases o with
  | none => rfl
  | some u => exact (show False from r).elim
theorem handed_of {v : V} {u : Value} (r : RelV v u) : PySem.W.handedIn u = true := by
  cases v with
  | non => cases (show u = Value.none from r); rfl
  | bl b => cases (show u = Value.bool b from r); rfl
  | int i => obtain ⟨t, e⟩ := (show ∃ t, u = Value.int i t from r); cases e; rfl
  | str x => obtain ⟨t, e⟩ := (show ∃ t, u = Value.str x t from r); cases e; rfl
  | byt b => obtain ⟨t, e⟩ := (show ∃ t, u = Value.bytes b t from r); cases e; rfl
  | flt b => obtain ⟨t, e⟩ := (show ∃ t, u = Value.float b t from r); cases e; rfl
  | ref a => cases (show u = Value.ref a from r); rfl
  | ty n => cases (show u = Value.type n from r); rfl
section
variable {P : Program} {w : World} {H H' : Hp} {h h' : Heap} {a C dx : Addr} {fs fs' : List (Str × V)}
theorem ins_get (hok : HOk P w H h) (e : H a = some (.ins C dx fs)) : ∃ mA, ObjM h a dx C mA ∧ (∀ f, RelO (fs.lookup f) (mA f)) ∧ PySem.Within mA (fs.map (·.1)) ∧ fs.length ≤ 1000 ∧ H dx = some (.own a) := by
  obtain ⟨d, z, ne, ob, mA, n, r, q⟩ := (show ObjOk P w H h a (.ins C dx fs) from hok a _ e)
  exact ⟨mA, ⟨ob, n, ne⟩, r, q, z, d⟩
end
structure Cls (K : PySem.W.Frag) (C : Addr) : Prop where
  pg : PySem.W.plainGet K C Str.empty = true
  hd : PySem.W.hasDictIn K C = true
  po : PySem.W.plainOver K C = true
  sa : PySem.W.findIn K (.ref C) "__setattr__" = some (some (.builtin "object.__setattr__"))
theorem Cls.get {K : PySem.W.Frag} {C : Addr} (c : Cls K C) (f : Str) : PySem.W.plainGet K C f = true := c.pg
def NoAttr (K : PySem.W.Frag) (C : Addr) (f : Str) : Prop := PySem.W.findIn K (.ref C) f = some none
theorem NoAttr.taker {K : PySem.W.Frag} {C : Addr} {f : Str} (n : NoAttr K C f) : PySem.W.takerIn K C f = some none := by
  unfold PySem.W.takerIn
  rw [show PySem.W.findIn K (.ref C) f = some none from n]
  rfl
structure Con (K : PySem.W.Frag) (C : Addr) (f : Str) (v : V) (u : Value) : Prop where
  at_ : PySem.W.findIn K (.ref C) f = some (some u)
  rel : RelV v u
  get : PySem.W.specialIn K u "__get__" = some none
  cp : PySem.W.copiedNames.contains f = false
structure Meth (K : PySem.W.Frag) (C : Addr) (m : Str) (f : Addr) : Prop where
  at_ : PySem.W.findIn K (.ref C) m = some (some (.ref f))
  fn : PySem.W.isFn K (.ref f) = true
  kp : PySem.W.keepIn K (.ref f) = true
section
variable {X : Cx} {pins : List (Addr × Obj)} {σ : St} {H : Hp} {s : Shared} {a C dx : Addr} {fs : List (Str × V)} {f : Str} {v : V} {A : Around} {E : Value → Shared → Prop}
theorem getattr_ok {b : Bool} {Q : Value → Shared → Prop} (I : Inv X pins σ H s) (e : H a = some (.ins C dx fs)) (c : Cls X.K C) (n : NoAttr X.K C f) (l : fs.lookup f = some v)
    (h : ∀ u s', Inv X pins σ H s' → RelV v u → Q u s') : wpAny (model X.prog X.w) A (getAttr (.ref a) f b) Q E s := by
  obtain ⟨mA, O, r, _, _, _⟩ := ins_get I.hok e
  obtain ⟨u, hu, ru⟩ := RelO.some_of (v := v) (o := mA f) (by rw [← l]; exact r f)
  exact get_map I.kIn O (c.get f) c.hd n hu (handed_of ru) (h u _ (I.tok _) ru)
theorem getmeth_ok {m : Str} {g : Addr} {pl : Sem Bool} {Q : Value × List Value → Shared → Prop} (I : Inv X pins σ H s) (e : H a = some (.ins C dx fs)) (c : Cls X.K C) (k : Meth X.K C m g) (l : fs.lookup m = none)
    (h : Q (.ref g, [.ref a]) s) : wpAny (model X.prog X.w) A (getMethod (.ref a) m pl) Q E s := by
  obtain ⟨mA, O, r, _, _, _⟩ := ins_get I.hok e
  have hn : mA m = none := RelO.none_of (by rw [← l]; exact r m)
  exact get_meth I.kIn O (c.get m) k.at_ k.fn hn h
theorem setattr_ok {y : V} {u : Value} {Q : Unit → Shared → Prop} (I : Inv X pins σ H s) (e : H a = some (.ins C dx fs)) (c : Cls X.K C) (n : NoAttr X.K C f) (hl : fs.length < 1000) (ry : RelV y u)
    (h : ∀ s', Inv X pins σ (upd H a (.ins C dx (putF f y fs))) s' → Q () s') : wpAny (model X.prog X.w) A (setAttr (.ref a) f u) Q E s := by
  obtain ⟨mA, O, r, wi, _, ho⟩ := ins_get I.hok e
  have hz : (fs.map (·.1)).length ≤ sizeLine := by rw [List.length_map, sizeLine_eq]; omega
  refine set_map I.kIn O c.sa c.po n.taker c.hd wi hz fun h' O' sb => h _ ?_
  have hd : ∃ o, h'.get? dx = some o := let ⟨o, _, _, e', _⟩ := O'.ns; ⟨o, e'⟩
  refine I.write (x := a) (e := dx) (by rw [e]; exact True.intro) (.inr ho) (fun b q hb z => (sb.2 b hb).trans z) hd ?_
  refine ⟨by rw [upd_ne O.ne]; exact ho, ?_, O.ne, O'.obj, _, O'.ns, fun g => ?_, fun g hg => ?_⟩
  · have := length_putF f y fs; omega
  · show RelO ((putF f y fs).lookup g) (if g = f then some u else mA g)
    rw [lookup_putF]
    by_cases q : g = f
    · rw [if_pos q, if_pos q]; exact ry
    · rw [if_neg q, if_neg q]; exact r g
  · by_cases q : g = f
    · rw [q]; exact (keys_putF f y fs).1
    · refine (keys_putF f y fs).2 g (wi g fun z => hg ?_)
      show (if g = f then some u else mA g) = none
      rw [if_neg q]; exact z
theorem Inv.made (I : Inv X pins σ H s) : Inv X pins σ (upd (upd H s.heap.objs.size (.own (s.heap.objs.size + 1))) (s.heap.objs.size + 1) (.ins C s.heap.objs.size []))
    { s with heap := (s.heap.push PySem.W.emptyDict).push (PySem.W.instObj C s.heap.objs.size) } := by
  have e1 : (s.heap.push PySem.W.emptyDict).get? s.heap.objs.size = some PySem.W.emptyDict := Heap.get?_push_size s.heap rfl
  have e2 : ((s.heap.push PySem.W.emptyDict).push (PySem.W.instObj C s.heap.objs.size)).get? (s.heap.objs.size + 1) = some (PySem.W.instObj C s.heap.objs.size) := by
    have := Heap.get?_push_size (s.heap.push PySem.W.emptyDict) (o := PySem.W.instObj C s.heap.objs.size) rfl
    rwa [Heap.size_push] at this
  have e3 : (s.heap.push PySem.W.emptyDict).Ns s.heap.objs.size (fun _ => none) := ⟨PySem.W.emptyDict, #[], _, e1, rfl, (fun e he => absurd he (by simp)), fun _ => rfl⟩
  have I1 := I.laid (a := s.heap.objs.size) (o := .own (s.heap.objs.size + 1)) (h' := s.heap.push PySem.W.emptyDict) (t' := s.toks) (fun b u q => Heap.get?_push_of_some _ q) (Nat.le_refl _) ⟨_, e1⟩
  refine I1.laid (a := s.heap.objs.size + 1) (o := .ins C s.heap.objs.size []) (t' := s.toks) (fun b u q => Heap.get?_push_of_some _ q) (Nat.le_of_eq (Heap.size_push _ _)) ?_
  have ne : s.heap.objs.size ≠ s.heap.objs.size + 1 := Nat.ne_of_lt (Nat.lt_succ_self _)
  refine ⟨by rw [upd_ne ne, upd_same], Nat.zero_le _, ne, e2, fun _ => none, (Heap.Ns1.of_empty e3).at fun o q => Heap.get?_push_of_some _ q, fun _ => True.intro, fun y hy => absurd rfl hy⟩
theorem attr_of {prog : Program} {w : World} {env : Env} {e : Expr} {f : Str} {pos : Pos} {s : Shared} {Q : Value → Shared → Prop} (hb : attributeBase e f env (eval e env) = eval e env)
    (h : wpAny (model prog w) A (eval e env) (fun o s₁ => wpAny (model prog w) A (getAttr o f true) Q E s₁) E s) : wpAny (model prog w) A (eval (.Attribute e f pos) env) Q E s :=
  Attribute_any_ h (by rw [arm_eval_Attribute, hb])
end
def tFld (K : PySem.W.Frag) (ta : TE) (f : Str) : TE := fun σ H Q => ta σ H fun x H1 => ∃ a C dx fs v, x = .ref a ∧ H1 a = some (.ins C dx fs) ∧ Cls K C ∧ NoAttr K C f ∧ fs.lookup f = some v ∧ Q v H1
def sFld (K : PySem.W.Frag) (ta tv : TE) (f : Str) : TS := fun D σ H => tv σ H fun y H1 => ta σ H1 fun x H2 => ∃ a C dx fs, x = .ref a ∧ H2 a = some (.ins C dx fs) ∧ Cls K C ∧ NoAttr K C f ∧ fs.length < 1000 ∧
  D.nx σ (upd H2 a (.ins C dx (putF f y fs)))
section
variable {X : Cx} {o e value : Expr} {f : Str} {pos pos' tpos : Pos} {ta tv : TE}
theorem pe_fld (he : PE X e ta) (hb : attributeBase e f X.env (eval e X.env) = eval e X.env) : PE X (.Attribute e f pos) (tFld X.K ta f) := by
  intro pins s σ H Q I h
  refine attr_of hb (thn (he pins s σ H _ I h) fun u s1 ⟨x, H1, I1, rx, a, C, dx, fs, v, ex, ea, c, n, l, q⟩ => ?_)
  subst ex
  obtain rfl : u = Value.ref a := rx
  exact getattr_ok I1 ea c n l fun u' s2 I2 ru => ⟨v, H1, I2, ru, q⟩
theorem ps_fld (ha : PE X o ta) (hv : PE X value tv) (hs : swapsWith value (some (.Attribute o f pos')) pos.line X.env = pure false) : PS X (.Assign [.Attribute o f pos'] value pos) (sFld X.K ta tv f) := by
  intro pins s σ H D I h
  refine plainObj_wpAny_Assign_Attribute (thn (hv pins s σ H _ I h) fun u s1 ⟨y, H1, I1, ry, q⟩ => thn (ha pins s1 σ H1 _ I1 q) fun ov s2 ⟨x, H2, I2, rx, a, C, dx, fs, ex, ea, c, n, l, q2⟩ => ?_) hs
  subst ex
  obtain rfl : ov = Value.ref a := rx
  exact setattr_ok I2 ea c n l ry fun s3 I3 => ⟨σ, _, I3, q2⟩
def rAdd : V → V → Hp → VK → Prop := fun x y H Q => ∃ i j, x = .int i ∧ y = .int j ∧ Q (.int (i + j)) H
def rSub : V → V → Hp → VK → Prop := fun x y H Q => ∃ i j, x = .int i ∧ y = .int j ∧ Q (.int (i - j)) H
end
section
variable {X : Cx} {pins : List (Addr × Obj)} {σ : St} {H : Hp} {s : Shared} {A : Around} {E : Value → Shared → Prop} {Q : Value → Shared → Prop} {c : Value} {b : Bool}
inductive TyOf (K : PySem.W.Frag) (H : Hp) : V → Value → Prop where
  | non : TyOf K H .non (.type "NoneType")
  | bl (x : Bool) : TyOf K H (.bl x) (.type "bool")
  | int (i : Int) : TyOf K H (.int i) (.type "int")
  | str (x : Str) : TyOf K H (.str x) (.type "str")
  | flt (x : UInt64) : TyOf K H (.flt x) (.type "float")
  | lst {a : Addr} {xs : List V} (e : H a = some (.lst xs)) : TyOf K H (.ref a) (.type "list")
  | frz {a : Addr} {o : Obj} {xs : List V} (e : H a = some (.frz o (.lst xs))) : TyOf K H (.ref a) (.type "list")
  | tup {a : Addr} {xs : List V} (e : H a = some (.tup xs)) : TyOf K H (.ref a) (.type "tuple")
  | dK {a : Addr} {kvs : List (Key × V)} (e : H a = some (.dK kvs)) : TyOf K H (.ref a) (.type "dict")
  | dT {a : Addr} {kvs : List (List Key × V)} (e : H a = some (.dT kvs)) : TyOf K H (.ref a) (.type "dict")
  | ins {a C dx : Addr} {fs : List (Str × V)} (e : H a = some (.ins C dx fs)) (cl : Cls K C) (ha : PySem.W.findIn K (.ref C) "__class__" = some (some (.builtin "object.__class__")))
      (hn : PySem.W.specialIn K (.builtin "object.__class__") "__get__" = some (some (.builtin "getset_descriptor.__get__"))) (htk : PySem.W.takesIn K (.builtin "object.__class__") = some true)
      (hm : PySem.W.mroIn K C (.type "object") = some true) : TyOf K H (.ref a) (.ref C)
end
end L2
namespace L2
open PySem PySem.Spec PyProof.Rows
structure Room (k : Nat) (A : Around) : Prop where
  hd : A.handled = none
  dp : A.depth + 3 * k + 5 < recursionLimit
  un : A.units + 16 * k + 200 < cLine
theorem Room.mono {j k : Nat} {A : Around} (r : Room k A) (h : j ≤ k) : Room j A := ⟨r.hd, by have := r.dp; omega, by have := r.un; omega⟩
theorem Room.deeper {k : Nat} {A : Around} (r : Room (k + 1) A) (env : Env) : Room k (A.deeper env) :=
  ⟨r.hd, by have := r.dp; show A.depth + 1 + 3 * k + 5 < _; omega, by have := r.un; show A.units + 3 + 16 * k + 200 < _; omega⟩
theorem Room.in1 {k : Nat} {A : Around} (r : Room (k + 1) A) : Room k A.in1 :=
  ⟨r.hd, by have := r.dp; show A.depth + 3 * k + 5 < _; omega, by have := r.un; show A.units + 1 + 16 * k + 200 < _; omega⟩
theorem make_depth {A : Around} {C : Addr} {us : List Value} {kw : List (Str × Value)} : (A.under (.builtin "type.__call__" ⟨.ref C :: us, kw⟩)).depth = A.depth + 1 := by
  first | rfl | simp [Around.under, Code.weight, Code.isCreation, Code.isGuard, Code.isCaller, Code.frames, Code.isFrame, guardIds]
theorem make_units {A : Around} {C : Addr} {us : List Value} {kw : List (Str × Value)} : (A.under (.builtin "type.__call__" ⟨.ref C :: us, kw⟩)).units = A.units + 1 := by
  first | rfl | simp [Around.under, Code.cUnits, Code.frames, Code.isFrame]
theorem Room.make {k : Nat} {A : Around} (r : Room (k + 1) A) (C : Addr) (us : List Value) (kw : List (Str × Value)) : Room k (A.under (.builtin "type.__call__" ⟨.ref C :: us, kw⟩)) :=
  ⟨r.hd, by have := r.dp; rw [make_depth]; omega, by have := r.un; rw [make_units]; omega⟩
theorem Room.depth {k : Nat} {A : Around} (r : Room k A) : A.depth < recursionLimit := by have := r.dp; omega
theorem Room.units {k : Nat} {A : Around} (r : Room k A) : A.units + 64 < cLine := by have := r.un; omega
def tNil : TA := fun _ H Q => Q [] H
def tCons (ta : TE) (tr : TA) : TA := fun σ H Q => ta σ H fun x H1 => tr σ H1 fun xs H2 => Q (x :: xs) H2
section
variable {X : Cx} {e : Expr} {es : List Expr} {te : TE} {t : TA} {pos : Pos}
theorem pa_nil : PA X [] tNil := fun _ _ _ _ H Q I h => Calls.spliced_nil ⟨[], H, I, .nil, h⟩
theorem pa_cons (ha : PE X e te) (hr : PA X es t) (hs : starEach (e :: es) X.env = (false, eval e X.env) :: starEach es X.env := by rfl) : PA X (e :: es) (tCons te t) := by
  intro pos pins s σ H Q I h
  rw [hs]
  show wpAny _ _ (spliced ((false, eval e X.env) :: backTo pos (starEach es X.env))) _ _ s
  refine Calls.spliced_cons (thn (ha pins s σ H _ I h) fun u s1 ⟨x, H1, I1, r1, q1⟩ => ?_)
  exact thn (hr pos pins s1 σ H1 _ I1 q1) fun us s2 ⟨xs, H2, I2, r2, q2⟩ => ⟨x :: xs, H2, I2, .cons r1 r2, q2⟩
def tTup (t : TA) : TE := fun σ H Q => t σ H fun xs H1 => xs.length ≤ sizeLine ∧ ∀ p, H1 p = none → Q (.ref p) (upd H1 p (.tup xs))
def tLst (t : TA) : TE := fun σ H Q => t σ H fun xs H1 => xs.length ≤ sizeLine ∧ ∀ p, H1 p = none → Q (.ref p) (upd H1 p (.lst xs))
theorem pe_tup {x1} (h : PA X es t) : PE X (.Tuple es x1 pos) (tTup t) := by
  intro pins s σ H Q I hq
  refine wpAny_Tuple_spliced (thn (h pos pins s σ H _ I hq) fun us s1 ⟨xs, H1, I1, r, z, q⟩ => ⟨by rw [← r.length]; exact z, ?_⟩)
  have hf : H1 s1.heap.objs.size = none := I1.hok.fresh (Nat.le_refl _)
  refine ⟨.ref s1.heap.objs.size, upd H1 s1.heap.objs.size (.tup xs), I1.laid (t' := s1.toks) (fun b u e => Heap.get?_push_of_some _ e) (Nat.le_refl _) ?_, rfl, q _ hf⟩
  exact ⟨z, us, r, ⟨_, Heap.get?_push_size _ rfl, rfl, _, rfl⟩⟩
theorem pe_lst (h : PA X es t) : PE X (.List es pos) (tLst t) := by
  intro pins s σ H Q I hq
  refine wpAny_List_spliced (thn (h pos pins s σ H _ I hq) fun us s1 ⟨xs, H1, I1, r, z, q⟩ => ⟨by rw [← r.length]; exact z, ?_⟩)
  have hf : H1 s1.heap.objs.size = none := I1.hok.fresh (Nat.le_refl _)
  refine ⟨.ref s1.heap.objs.size, upd H1 s1.heap.objs.size (.lst xs), I1.laid (t' := s1.toks) (fun b u e => Heap.get?_push_of_some _ e) (Nat.le_refl _) ?_, rfl, q _ hf⟩
  exact ⟨z, us, 0, r, Heap.get?_push_size _ rfl⟩
end
abbrev Sp := List V → Hp → VK → XK → Prop
abbrev CXT := List Env → Hp → Shared → XK → Value → Shared → Prop
structure Env0 (P : Program) (w : World) (K : PySem.W.Frag) (mg : Str → Option Value) (base : Heap) (A : Around) (outer : List Env) (s : Shared) (H : Hp) : Prop where
  frames : A.frames = some outer
  mod : Mod K mg base
  bs : ∀ b o, base.get? b = some o → s.heap.get? b = some o ∧ H b = none
  bsz : base.objs.size ≤ s.heap.objs.size
  funs : s.heap.FunFrames base outer
  frf : ∀ b ∈ frs outer, H b = none
  hok : HOk P w H s.heap
  bare : AllBare s.gens
def CE (outer : List Env) (P : Program) (w : World) (H : Hp) (s : Shared) (Q : VK) (u : Value) (s' : Shared) : Prop :=
  ∃ v H', s'.os = s.os ∧ AllBare s'.gens ∧ Un (frs outer) [] H H' s.heap s'.heap ∧ HOk P w H' s'.heap ∧ RelV v u ∧ Q v H'
def CR (CX : CXT) (outer : List Env) (P : Program) (w : World) (H : Hp) (s : Shared) (Q : VK) (E : XK) (r : Result) (s' : Shared) : Prop :=
  match r with
  | .ok (.ret u) => CE outer P w H s Q u s'
  | .ok _ => False
  | .error e => CX outer H s E e s'
structure FnOk (P : Program) (w : World) (K : PySem.W.Frag) (mg : Str → Option Value) (base : Heap) (CX : CXT) (k : Nat) (f : Addr) (fd : FuncData) (ps : List Str) (sp : Sp) : Prop where
  len : ∀ vs H Q E, sp vs H Q E → vs.length = ps.length
  run : ∀ (A : Around) (outer : List Env) (s : Shared) (H : Hp) (args : Args) (us : List Value) (vs : List V) (Q : VK) (E : XK), Room k A → Env0 P w K mg base A outer s H → BindsTo s fd args (ps.zip us) → Vals vs us → sp vs H Q E →
    codeAny (model P w) A (.call (.ref f) args) (CR CX outer P w H s Q E) s
theorem FnOk.mono {P : Program} {w : World} {K : PySem.W.Frag} {mg : Str → Option Value} {base : Heap} {CX : CXT} {j k : Nat} {f : Addr} {fd : FuncData} {ps : List Str} {sp : Sp} (F : FnOk P w K mg base CX j f fd ps sp) (h : j ≤ k) :
    FnOk P w K mg base CX k f fd ps sp := ⟨F.len, fun A outer s H args us vs Q E hr => F.run A outer s H args us vs Q E (hr.mono h)⟩
theorem FnOk.imp {P : Program} {w : World} {K : PySem.W.Frag} {mg : Str → Option Value} {base : Heap} {CX : CXT} {k : Nat} {f : Addr} {fd : FuncData} {ps : List Str} {sp sp' : Sp} (F : FnOk P w K mg base CX k f fd ps sp)
    (h : ∀ vs H Q E, sp' vs H Q E → sp vs H Q E) : FnOk P w K mg base CX k f fd ps sp' :=
  ⟨fun vs H Q E q => F.len vs H Q E (h _ _ _ _ q), fun A outer s H args us vs Q E hr he hb hv hs => F.run A outer s H args us vs Q E hr he hb hv (h _ _ _ _ hs)⟩
theorem Env0.make {P : Program} {w : World} {K : PySem.W.Frag} {mg : Str → Option Value} {base : Heap} {A : Around} {outer : List Env} {s : Shared} {H : Hp} (e : Env0 P w K mg base A outer s H) (C : Addr) (us : List Value) (kw : List (Str × Value)) :
    Env0 P w K mg base (A.under (.builtin "type.__call__" ⟨.ref C :: us, kw⟩)) outer s H := ⟨by first | exact e.frames | (simpa [Around.under, Code.envs, Code.isFrame, pushEnvs] using e.frames), e.mod, e.bs, e.bsz, e.funs, e.frf, e.hok, e.bare⟩
theorem Env0.in1 {P : Program} {w : World} {K : PySem.W.Frag} {mg : Str → Option Value} {base : Heap} {A : Around} {outer : List Env} {s : Shared} {H : Hp} (e : Env0 P w K mg base A outer s H) :
    Env0 P w K mg base A.in1 outer s H := ⟨e.frames, e.mod, e.bs, e.bsz, e.funs, e.frf, e.hok, e.bare⟩
section
variable {X : Cx} {pins : List (Addr × Obj)} {σ : St} {H : Hp} {s s' : Shared}
theorem Inv.env0 (I : Inv X pins σ H s) : Env0 X.prog X.w X.K X.mg X.base X.A X.stack s H :=
  ⟨I.ok.frames, I.ok.mod, I.bs, Nat.le_trans I.ok.bsz I.sz, I.stack, I.stkFree, I.hok, I.bare⟩
theorem Inv.after {Q : VK} {u : Value} (I : Inv X pins σ H s) (h : CE X.stack X.prog X.w H s Q u s') : EP X pins σ Q u s' := by
  obtain ⟨v, H', os, bare, un, hok, r, q⟩ := h
  obtain ⟨hh, g, d, t, os'⟩ := s'
  obtain rfl : os' = s.os := os
  exact ⟨v, H', I.call (h' := hh) (g' := g) (d' := d) (t' := t) (ch := []) un hok bare (fun b z => absurd z (by simp)), r, q⟩
end
def tCall (sp : Sp) (dvs : List V) (E : XK) (t : TA) : TE := fun σ H Q => t σ H fun vs H1 => sp (vs ++ dvs) H1 Q E
def tMeth (C : Addr) (m : Str) (sp : Sp) (dvs : List V) (E : XK) (ta : TE) (t : TA) : TE := fun σ H Q => ta σ H fun x H1 => ∃ a dx fs, x = .ref a ∧ H1 a = some (.ins C dx fs) ∧ fs.lookup m = none ∧
  t σ H1 fun vs H2 => sp (x :: (vs ++ dvs)) H2 Q E
def tMake (C : Addr) (sp : Sp) (dvs : List V) (E : XK) (t : TA) : TE := fun σ H Q => t σ H fun vs H1 => ∀ x dx, H1 x = none → H1 dx = none → dx ≠ x →
  sp (.ref x :: (vs ++ dvs)) (upd (upd H1 dx (.own x)) x (.ins C dx [])) (fun v H2 => v = .non ∧ Q (.ref x) H2) E
def Binds (K : PySem.W.Frag) (fd : FuncData) (ps : List Str) (ds : List Value) : Prop :=
  ∀ (s : Shared) (us : List Value), K.In s.heap → (us ++ ds).length = ps.length → BindsTo s fd ⟨us, []⟩ (ps.zip (us ++ ds))
theorem Binds.all {K : PySem.W.Frag} {fd : FuncData} {ps : List Str} (h : ∀ us : List Value, us.length = ps.length → bindArgs fd ⟨us, []⟩ = pure (ps.zip us)) : Binds K fd ps [] := fun s us _ hl => by
  rw [List.append_nil] at hl ⊢
  exact .of_eq (h us hl)
def Passes (CX : CXT) (X : Cx) (E : XK) : Prop := ∀ (pins : List (Addr × Obj)) (σ : St) (H : Hp) (s : Shared) (e : Value) (s' : Shared), Inv X pins σ H s → CX X.stack H s E e s' → X.xe e s'
section
variable {X : Cx} {CX : CXT} {k : Nat} {f C : Addr} {fd : FuncData} {ps : List Str} {sp : Sp} {dvs : List V} {ds : List Value} {E : XK} {x m : Str} {p pos apos : Pos} {e o : Expr} {es : List Expr} {ta : TE} {t : TA}
theorem run_fn {pins : List (Addr × Obj)} {σ : St} {H : Hp} {s : Shared} {Q : VK} {us : List Value} {vs : List V} (F : FnOk X.prog X.w X.K X.mg X.base CX k f fd ps sp) (hr : Room k X.A) (hb : Binds X.K fd ps ds) (hd : Vals dvs ds) (hx : Passes CX X E)
    (I : Inv X pins σ H s) (r : Vals vs us) (h : sp (vs ++ dvs) H Q E) : wpAny (model X.prog X.w) X.A (call (.ref f) us) (EP X pins σ Q) X.xe s := by
  have r2 : Vals (vs ++ dvs) (us ++ ds) := r.append hd
  have hl : (us ++ ds).length = ps.length := by rw [← r2.length]; exact F.len _ _ _ _ h
  refine wpAny_call (codeAny_mono (F.run X.A X.stack s H ⟨us, []⟩ (us ++ ds) (vs ++ dvs) Q E hr I.env0 (hb s us I.kIn hl) r2 h) fun r s' hq => ?_)
  cases r with
  | error e => exact hx pins σ H s e s' I hq
  | ok fl =>
    cases fl with
    | ret u => exact I.after hq
    | next => exact False.elim hq
    | brk => exact False.elim hq
    | cont => exact False.elim hq
theorem pe_call (F : FnOk X.prog X.w X.K X.mg X.base CX k f fd ps sp) (hr : Room k X.A) (hg : Gl X x) (hm : X.mg x = some (.ref f)) (hk : PySem.W.keepIn X.K (.ref f) = true) (hb : Binds X.K fd ps ds) (hd : Vals dvs ds) (hx : Passes CX X E)
    (ha : PA X (e :: es) t) (hdb : (x == ("__debug__" : Str)) = false := by decide) (he : starEach (e :: es) X.env = (false, eval e X.env) :: starEach es X.env := by rfl) (hpl : (backTo pos (starEach es X.env)).any (·.1) = false := by rfl) :
    PE X (.Call (.Name x p) (e :: es) [] pos) (tCall sp dvs E t) := by
  intro pins s σ H Q I h
  refine wpAny_Call_Name_kw (ld_glob I hg hm ?_ hdb)
  refine PySem.W.callWith_K (h₀ := X.base) I.ok.mod.kin hk (thn (ha pos pins s σ H _ I h) fun us s1 ⟨vs, H1, I1, r, q⟩ => ⟨I1.kIn, ?_⟩) he hpl
  exact run_fn F hr hb hd hx I1 r q
theorem pe_meth {pl : Sem Bool} (he : PE X o ta) (c : Cls X.K C) (hm : Meth X.K C m f) (F : FnOk X.prog X.w X.K X.mg X.base CX k f fd ps sp) (hr : Room k X.A) (hb : Binds X.K fd ps ds) (hd : Vals dvs ds) (hx : Passes CX X E) (ha : PA X (e :: es) t)
    (hst : starEach (e :: es) X.env = (false, eval e X.env) :: starEach es X.env := by rfl) (hpl : (backTo pos (starEach es X.env)).any (·.1) = false := by rfl)
    (ht : eval (.Call (.Attribute o m apos) (e :: es) [] pos) X.env = (do
      let ov ← eval o X.env
      standAt apos.atName
      let (f, first) ← holding [ov] (getMethod ov m pl)
      callWith pos f first (backTo pos (starEach (e :: es) X.env)) (backToKw pos (keywordEach [] X.env))) := by rfl) :
    PE X (.Call (.Attribute o m apos) (e :: es) [] pos) (tMeth C m sp dvs E ta t) := by
  intro pins s σ H Q I h
  refine PySem.W.methodCall_KW (pl := pl) (thn (he pins s σ H _ I h) fun u s1 ⟨x, H1, I1, rx, a, dx, fs, ex, ea, l, q⟩ => ?_) ht
  subst ex
  obtain rfl : u = Value.ref a := rx
  refine getmeth_ok I1 ea c hm l ?_
  refine PySem.W.callWith_K (first := [.ref a]) (h₀ := X.base) I.ok.mod.kin hm.kp (thn (ha pos pins s1 σ H1 _ I1 q) fun us s2 ⟨vs, H2, I2, r, q2⟩ => ⟨I2.kIn, ?_⟩) hst hpl
  exact run_fn (us := .ref a :: us) (vs := .ref a :: vs) F hr hb hd hx I2 (.cons rfl r) q2
theorem pe_meth0 {pl : Sem Bool} (he : PE X o ta) (c : Cls X.K C) (hm : Meth X.K C m f) (F : FnOk X.prog X.w X.K X.mg X.base CX k f fd ps sp) (hr : Room k X.A) (hb : Binds X.K fd ps ds) (hd : Vals dvs ds) (hx : Passes CX X E)
    (ht : eval (.Call (.Attribute o m apos) [] [] pos) X.env = (do
      let ov ← eval o X.env
      standAt apos.atName
      let (f, first) ← holding [ov] (getMethod ov m pl)
      callWith pos f first (backTo pos (starEach [] X.env)) (backToKw pos (keywordEach [] X.env))) := by rfl) :
    PE X (.Call (.Attribute o m apos) [] [] pos) (tMeth C m sp dvs E ta tNil) := by
  intro pins s σ H Q I h
  refine PySem.W.methodCall_KW (pl := pl) (thn (he pins s σ H _ I h) fun u s1 ⟨x, H1, I1, rx, a, dx, fs, ex, ea, l, q⟩ => ?_) ht
  subst ex
  obtain rfl : u = Value.ref a := rx
  refine getmeth_ok I1 ea c hm l ?_
  exact PySem.W.callWith_K0 (first := [.ref a]) I1.kIn hm.kp (run_fn (us := [.ref a]) (vs := [.ref a]) F hr hb hd hx I1 (.cons rfl .nil) q)
structure Mk (K : PySem.W.Frag) (C f : Addr) : Prop where
  makes : PySem.W.makesIn K C = true
  init : PySem.W.findIn K (.ref C) "__init__" = some (some (.ref f))
  fn : PySem.W.isFn K (.ref f) = true
  kp : PySem.W.keepIn K (.ref C) = true
theorem run_make {pins : List (Addr × Obj)} {σ : St} {H : Hp} {s : Shared} {Q : VK} {us : List Value} {vs : List V} (M : Mk X.K C f) (F : FnOk X.prog X.w X.K X.mg X.base CX k f fd ps sp) (hr : Room (k + 1) X.A) (hb : Binds X.K fd ps ds) (hd : Vals dvs ds)
    (hx : Passes CX X E) (I : Inv X pins σ H s) (r : Vals vs us)
    (h : ∀ x dx, H x = none → H dx = none → dx ≠ x → sp (.ref x :: (vs ++ dvs)) (upd (upd H dx (.own x)) x (.ins C dx [])) (fun v H2 => v = .non ∧ Q (.ref x) H2) E) :
    wpAny (model X.prog X.w) X.A (call (.ref C) us) (EP X pins σ Q) X.xe s := by
  have hq := h (s.heap.objs.size + 1) s.heap.objs.size (I.hok.fresh (Nat.le_succ _)) (I.hok.fresh (Nat.le_refl _)) (Nat.ne_of_lt (Nat.lt_succ_self _))
  have I2 := Inv.made (C := C) I
  have r2 : Vals (V.ref (s.heap.objs.size + 1) :: (vs ++ dvs)) (Value.ref (s.heap.objs.size + 1) :: (us ++ ds)) := .cons rfl (r.append hd)
  have hl : (Value.ref (s.heap.objs.size + 1) :: us ++ ds).length = ps.length := by
    have e := r2.length
    rw [F.len _ _ _ _ hq] at e
    exact e.symm
  refine wpAny_call (make_map (f := f) I.kIn M.makes M.init (beq_iff_eq.mp M.fn) (codeAny_mono (F.run _ X.stack _ _ ⟨Value.ref (s.heap.objs.size + 1) :: us, []⟩ (Value.ref (s.heap.objs.size + 1) :: (us ++ ds)) _ _ E (hr.make C us [])
    (I2.env0.make C us []) (hb _ (Value.ref (s.heap.objs.size + 1) :: us) I2.kIn hl) r2 hq) fun r s' hq' => ?_))
  cases r with
  | error e => exact hx pins σ _ _ e s' I2 hq'
  | ok fl =>
    cases fl with
    | ret u =>
      obtain ⟨v, H', I3, rv, ev, q3⟩ := I2.after hq'
      subst ev
      exact ⟨rv, ⟨V.ref (s.heap.objs.size + 1), H', I3, rfl, q3⟩⟩
    | next => exact False.elim hq'
    | brk => exact False.elim hq'
    | cont => exact False.elim hq'
theorem pe_make (M : Mk X.K C f) (F : FnOk X.prog X.w X.K X.mg X.base CX k f fd ps sp) (hr : Room (k + 1) X.A) (hg : Gl X x) (hm : X.mg x = some (.ref C)) (hb : Binds X.K fd ps ds) (hd : Vals dvs ds) (hx : Passes CX X E)
    (ha : PA X (e :: es) t) (hdb : (x == ("__debug__" : Str)) = false := by decide) (he : starEach (e :: es) X.env = (false, eval e X.env) :: starEach es X.env := by rfl) (hpl : (backTo pos (starEach es X.env)).any (·.1) = false := by rfl) :
    PE X (.Call (.Name x p) (e :: es) [] pos) (tMake C sp dvs E t) := by
  intro pins s σ H Q I h
  refine wpAny_Call_Name_kw (ld_glob I hg hm ?_ hdb)
  refine PySem.W.callWith_K (h₀ := X.base) I.ok.mod.kin M.kp (thn (ha pos pins s σ H _ I h) fun us s1 ⟨vs, H1, I1, r, q⟩ => ⟨I1.kIn, ?_⟩) he hpl
  exact run_make M F hr hb hd hx I1 r q
end
section
variable {X : Cx} {CX : CXT} {k : Nat} {f C : Addr} {fd : FuncData} {ps ks : List Str} {sp : Sp} {E : XK} {x m : Str} {p pos apos kpos : Pos} {e o : Expr} {es : List Expr} {kws : List Keyword} {te ta : TE} {t tk : TA} {nm : Option Str}
structure KBinds (K : PySem.W.Frag) (fd : FuncData) (ps ks : List Str) (g : List Value → List Value → List Value) (gV : List V → List V → List V) : Prop where
  to : ∀ (s : Shared) (us ws : List Value), K.In s.heap → (g us ws).length = ps.length → BindsTo s fd ⟨us, ks.zip ws⟩ (ps.zip (g us ws))
  rel : ∀ {vs : List V} {us : List Value} {zs : List V} {ws : List Value}, Vals vs us → Vals zs ws → Vals (gV vs zs) (g us ws)
variable {g : List Value → List Value → List Value} {gV : List V → List V → List V}
end
structure FnScope (N P : List Str) (sc : Scope) : Prop where
  kind : sc.kind = .function
  co : sc.isCoroutine = false
  gen : sc.isGenerator = false
  nd : N.Nodup
  pre : N.take P.length = P
  par : ∀ x ∈ P, sc.names.lookup x = some .local ∨ sc.names.lookup x = some .cell
  nofree : ∀ y ∈ sc.names, y.2 ≠ .free
theorem bindL_out {kindOf : Str → Option NameKind} {x : Str} : ∀ {binds : List (Str × Value)} {m : Str → Option Value}, (∀ v, (x, v) ∉ binds) → bindL kindOf binds m x = m x
  | [], _, _ => rfl
  | (n, v) :: r, m, h => by
    unfold bindL
    rw [bindL_out fun w hw => h w (List.mem_cons_of_mem _ hw)]
    split
    · have : x ≠ n := by rintro rfl; exact h v List.mem_cons_self
      simp [this]
    · rfl
theorem bindC_out {kindOf : Str → Option NameKind} {x : Str} : ∀ {binds : List (Str × Value)} {m : Str → Option Value}, (∀ v, (x, v) ∉ binds) → bindC kindOf binds m x = m x
  | [], _, _ => rfl
  | (n, v) :: r, m, h => by
    unfold bindC
    rw [bindC_out fun w hw => h w (List.mem_cons_of_mem _ hw)]
    split
    · rfl
    · have : x ≠ n := by rintro rfl; exact h v List.mem_cons_self
      simp [this]
theorem bindL_get {kindOf : Str → Option NameKind} {x : Str} {v : Value} : ∀ {P : List Str} {vs : List Value} {i : Nat} {m : Str → Option Value}, P.Nodup → P[i]? = some x → vs[i]? = some v → kindOf x = some .local →
    bindL kindOf (P.zip vs) m x = some v
  | [], _, _, _, _, h, _, _ => by simp at h
  | _ :: _, [], _, _, _, _, h, _ => by simp at h
  | p :: P, w :: vs, 0, m, nd, h1, h2, hk => by
    simp at h1 h2; subst h1; subst h2
    show bindL kindOf ((p, w) :: P.zip vs) m p = _
    unfold bindL
    rw [bindL_out fun v hv => (List.nodup_cons.mp nd).1 (List.of_mem_zip hv).1, if_pos hk]
    simp
  | p :: P, w :: vs, i + 1, m, nd, h1, h2, hk => by
    show bindL kindOf ((p, w) :: P.zip vs) m x = _
    unfold bindL
    exact bindL_get (i := i) (List.nodup_cons.mp nd).2 (by simpa using h1) (by simpa using h2) hk
theorem bindC_get {kindOf : Str → Option NameKind} {x : Str} {v : Value} : ∀ {P : List Str} {vs : List Value} {i : Nat} {m : Str → Option Value}, P.Nodup → P[i]? = some x → vs[i]? = some v → kindOf x ≠ some .local →
    bindC kindOf (P.zip vs) m x = some v
  | [], _, _, _, _, h, _, _ => by simp at h
  | _ :: _, [], _, _, _, _, h, _ => by simp at h
  | p :: P, w :: vs, 0, m, nd, h1, h2, hk => by
    simp at h1 h2; subst h1; subst h2
    show bindC kindOf ((p, w) :: P.zip vs) m p = _
    unfold bindC
    rw [bindC_out fun v hv => (List.nodup_cons.mp nd).1 (List.of_mem_zip hv).1, if_neg hk]
    simp
  | p :: P, w :: vs, i + 1, m, nd, h1, h2, hk => by
    show bindC kindOf ((p, w) :: P.zip vs) m x = _
    unfold bindC
    exact bindC_get (i := i) (List.nodup_cons.mp nd).2 (by simpa using h1) (by simpa using h2) hk
def start (N : List Str) (vs : List V) : St := vs.map some ++ List.replicate (N.length - vs.length) none
def cxOf (CX : CXT) (P : Program) (w : World) (K : PySem.W.Frag) (mg : Str → Option Value) (base : Heap) (N : List Str) (qual : Str) (scope : Scope) (f : Addr) (cd : Value) (A : Around) (outer : List Env) (s : Shared) (H : Hp) (E : XK) : Cx where
  prog := P
  w := w
  K := K
  mg := mg
  base := base
  A := A.deeper (envOfC qual scope s.heap.objs.size f cd)
  N := N
  s₀ := s
  H₀ := H
  env := envOfC qual scope s.heap.objs.size f cd
  outer := outer
  stack := envOfC qual scope s.heap.objs.size f cd :: outer
  ex := []
  calm := true
  fn := fun _ => true
  pn := []
  xe := fun e s' => wpAny (model P w) (A.deeper (envOfC qual scope s.heap.objs.size f cd)) (leaving (envOfC qual scope s.heap.objs.size f cd) e) (fun _ s'' => CX outer H s E e s'') (fun e' s'' => CX outer H s E e' s'') s'
theorem cell_has {sc : Scope} {n : Nat} {x : Str} (h : sc.names.lookup x = some .cell) : ∃ c, (cellsFrom n sc.names []).lookup x = some c := by
  have q := PySem.W.cellsFrom_some sc.names n [] (.inl h)
  exact Option.isSome_iff_exists.mp q
theorem inv_start {CX : CXT} {P : Program} {w : World} {K : PySem.W.Frag} {mg : Str → Option Value} {base : Heap} {N ps : List Str} {qual : Str} {scope : Scope} {f : Addr} {cd : Value} {A : Around} {outer : List Env} {s s1 : Shared} {H : Hp} {E : XK} {us : List Value} {vs : List V}
    (S : FnScope N ps scope) (hd : A.handled = none) (e0 : Env0 P w K mg base A outer s H) (hl : vs.length = ps.length) (r : Vals vs us)
    (x : InCallC s s.heap.objs.size (bindL (envOfC qual scope s.heap.objs.size f cd).kindOf (ps.zip us) fun _ => none) (cellsFrom (s.heap.objs.size + 1) scope.names []) (bindC (envOfC qual scope s.heap.objs.size f cd).kindOf (ps.zip us) fun _ => none) s1) :
    Inv (cxOf CX P w K mg base N qual scope f cd A outer s H E) [] (start N vs) H s1 := by
  have hpl : ps.length ≤ N.length := by have := congrArg List.length S.pre; rw [List.length_take] at this; omega
  obtain ⟨h1, tk, rfl, hk⟩ := x.done
  have noA : ∀ b : Addr, b ∉ (cxOf CX P w K mg base N qual scope f cd A outer s H E).ex := fun b z => absurd (show b ∈ ([] : List Addr) from z) (by simp)
  refine ⟨⟨e0.mod, S.kind, rfl, rfl, Nat.le_refl _, fun y z c h1 h2 => ?_, fun y hy => ?_, fun y c _ h => ?_, fun _ => hd, Around.frames_deeper e0.frames, .inr ⟨rfl, rfl⟩, fun b z => absurd z (noA b), e0.bs, e0.bsz, fun b _ _ => noA b, fun b z => absurd z (noA b), e0.funs, e0.frf⟩,
    rfl, e0.bare, Un.kept hk, ⟨_, x.toInCall.ns, fun i y v h1 h2 h3 => ?_⟩, fun y c h => ⟨_, x.cell y c h⟩, e0.hok.fresh (Nat.le_refl _), fun y c h => ?_, fun p hp => absurd (show p ∈ ([] : List (Addr × Obj)) from hp) (by simp), e0.hok.kept hk, ?_⟩
  · exact name_of_addr x.apart (PySem.mem_of_lookup h1) (PySem.mem_of_lookup h2)
  · have hy : scope.names.lookup y = some .cell ∨ scope.names.lookup y = some .free := hy
    rcases hy with hy | hy
    · exact cell_has hy
    · exact absurd rfl (S.nofree _ (PySem.mem_of_lookup hy))
  · exact Nat.le_of_lt (x.above y c (PySem.mem_of_lookup h))
  · have hi : i < vs.length := by
      unfold start at h2
      by_cases hi : i < vs.length
      · exact hi
      · rw [List.getElem?_append_right (by simpa using hi)] at h2
        rw [List.getElem?_replicate] at h2
        split at h2 <;> cases h2
    have ha : vs[i]? = some v := by
      unfold start at h2
      rw [List.getElem?_append_left (by simpa using hi), List.getElem?_map] at h2
      cases e : vs[i]? with
      | none => rw [e] at h2; cases h2
      | some a => rw [e] at h2; cases h2; rfl
    obtain ⟨u, hu, rv⟩ := r.get ha
    have hp : ps[i]? = some y := by
      rw [← S.pre, List.getElem?_take_of_lt (by omega)]; exact h1
    have ndP : ps.Nodup := by rw [← S.pre]; exact S.nd.sublist (List.take_sublist _ _)
    refine ⟨u, rv, ?_⟩
    rcases S.par y (List.mem_of_getElem? hp) with k | k
    · exact .inl ⟨k, bindL_get ndP hp hu k⟩
    · obtain ⟨c, e⟩ := cell_has (n := s.heap.objs.size + 1) k
      refine .inr ⟨.inl k, c, e, ?_⟩
      have q := x.cell y c e
      rw [bindC_get ndP hp hu (by show scope.names.lookup y ≠ _; rw [k]; decide)] at q
      exact q
  · exact e0.hok.fresh (Nat.le_of_lt (x.above y c (PySem.mem_of_lookup h)))
  · unfold start
    show _ = N.length
    rw [List.length_append, List.length_map, List.length_replicate]
    omega
theorem fn_of {CX : CXT} {P : Program} {w : World} {K : PySem.W.Frag} {mg : Str → Option Value} {base : Heap} {k : Nat} {f : Addr} {name qual : Str} {params : Arguments} {body : List Stmt} {scope : Scope} {dV kV doc pm cdv ct oc : Value} {an od : Option Addr}
    {osl : Array (Option Value)} {N ps : List Str} {sp : Sp} (lk : K.lookup f = some ⟨oc, od, .func (PySem.W.fnOf name qual params body scope dV kV doc pm an cdv ct), osl⟩) (hcd : PySem.W.codeIn K cdv qual = true) (S : FnScope N ps scope)
    (len : ∀ vs H Q E, sp vs H Q E → vs.length = ps.length)
    (hbody : ∀ (A : Around) (outer : List Env) (s : Shared) (H : Hp) (vs : List V) (Q : VK) (E : XK), Room k (A.deeper (envOfC qual scope s.heap.objs.size f cdv)) → sp vs H Q E →
      ∃ t, PSs (cxOf CX P w K mg base N qual scope f cdv A outer s H E) body t ∧ t { nx := fun _ H' => Q .non H', rt := Q } (start N vs) H) :
    FnOk P w K mg base CX (k + 1) f (PySem.W.fnOf name qual params body scope dV kV doc pm an cdv ct) ps sp := by
  refine ⟨len, fun A outer s H args us vs Q E hr e0 hb r hsp => ?_⟩
  have hl := len _ _ _ _ hsp
  have KX : K.In s.heap := e0.mod.kin.keeps fun b o e => (e0.bs b o e).1
  have lim : s.heap.NoLimit := e0.mod.nolimit.keeps fun b o e => (e0.bs b o e).1
  have hkind : ∀ y ∈ ps.zip us, scope.names.lookup y.1 = some .local ∨ (scope.names.lookup y.1 = some .cell ∧ ((cellsFrom (s.heap.objs.size + 1) scope.names []).lookup y.1).isSome = true) := fun ⟨n, v⟩ hy => by
    rcases S.par n (List.of_mem_zip hy).1 with q | q
    · exact .inl q
    · exact .inr ⟨q, PySem.W.cellsFrom_some _ _ _ (.inl q)⟩
  refine codeAny_call_function hr.depth (KX _ _ lk) rfl S.co S.gen rfl (PySem.W.codeRec_of KX hcd) (hb _ _ _ _ ?_)
  refine wpAny_newFunctionEnv_cells S.kind hkind fun env he s1 x => ?_
  subst he
  refine ⟨lim.keeps x.toInCall.keep, codeAny_func ?_⟩
  obtain ⟨t, ht, hq⟩ := hbody A outer s H vs Q E (hr.deeper _) hsp
  have I : Inv (cxOf CX P w K mg base N qual scope f cdv A outer s H E) [] (start N vs) H s1 := inv_start S hr.hd e0 hl r x
  refine wpAny_mono (ht [] s1 (start N vs) H _ I hq) (fun fl s' hs => ?_) fun e s' hs => hs
  have fin : ∀ {σ' : St} {H' : Hp} {v : V} {u : Value}, Inv (cxOf CX P w K mg base N qual scope f cdv A outer s H E) [] σ' H' s' → RelV v u → Q v H' → CE outer P w H s Q u s' :=
    fun {σ' H' v u} J rv q => ⟨v, H', J.os, J.bare, J.base, J.hok, rv, q⟩
  cases fl with
  | ret u =>
    obtain ⟨v, σ', H', J, rv, q⟩ := hs
    exact fin J rv q
  | next =>
    obtain ⟨σ', H', J, q⟩ := hs
    exact fin (v := V.non) (u := Value.none) J rfl q
  | brk =>
    obtain ⟨_, _, _, q⟩ := hs
    exact False.elim q
  | cont =>
    obtain ⟨_, _, _, q⟩ := hs
    exact False.elim q
end L2
namespace L2
open PySem PySem.Spec PyProof.Rows
section
variable {X : Cx} {x : Str} {p pos : Pos} {e : Expr} {es : List Expr} {t : TA} {id T : String} {r : List V → Hp → VK → Prop}
def tCB (r : List V → Hp → VK → Prop) (t : TA) : TE := fun σ H Q => t σ H fun vs H1 => r vs H1 Q
theorem pe_callB (hc : CallR X (.builtin id) r) (hg : Gl X x) (hm : X.mg x = none) (hv : bootBuiltins x = some (.builtin id)) (ha : PA X (e :: es) t) (hn : x ≠ "__name__" := by decide) (hdb : (x == ("__debug__" : Str)) = false := by decide)
    (he : starEach (e :: es) X.env = (false, eval e X.env) :: starEach es X.env := by rfl) (hpl : (backTo pos (starEach es X.env)).any (·.1) = false := by rfl) : PE X (.Call (.Name x p) (e :: es) [] pos) (tCB r t) := by
  intro pins s σ H Q I h
  refine wpAny_Call_Name_kw (ld_blt I hg hm hv ?_ hn hdb)
  exact PyProof.Rows.callWith_builtin1 (thn (ha pos pins s σ H _ I h) fun us s1 ⟨vs, H1, I1, r1, q1⟩ => hc pins s1 σ H1 vs us Q I1 r1 q1) he hpl
end
end L2
namespace HT
open PySem PyProof.Rows
section
open PySem.SeqAt
open PySem.AutoSeq1 (wpAny_loadPart')
open PySem.MeetsSeq PySem.MeetsSeq2 PySem.MeetsSeq3
end
section
variable {prog : Program} {w : World} {A : Around} {E : Value → Shared → Prop} {s : Shared}
theorem cat_tup {t b : Addr} {vs ws : List Value} {Q : Value → Shared → Prop} (ht : IsTup s.heap t vs.toArray) (hb : IsTup s.heap b ws.toArray) (hv : vs ≠ [])
    (h1 : ws = [] → Q (.ref t) s) (h2 : ws ≠ [] → Q (.ref s.heap.objs.size) { s with heap := s.heap.push { cls := .type "tuple", data := .seq (vs ++ ws).toArray } })
    (hsz : vs.length + ws.length ≤ sizeLine) : wpAny (model prog w) A (binaryOp .Add (.ref t) (.ref b)) Q E s := by
  obtain ⟨⟨cls, dd, data, sl⟩, ho, hc, n, hd⟩ := id ht
  obtain ⟨⟨cls2, dd2, data2, sl2⟩, ho2, hc2, n2, hd2⟩ := id hb
  simp only at hc hd hc2 hd2
  subst hc hd hc2 hd2
  have e : vs.toArray ++ ws.toArray = (vs ++ ws).toArray := by simp
  by_cases hw : ws = []
  · exact concat_meets ⟨_, ho, rfl⟩ ⟨_, ho2, rfl⟩ noFill_tuple_add seq_tuple_add PySem.F.slot_tuple_add PySem.F.entry_tuple_add (PySem.F.args_tuple_add_2 _ _)
      (tuple_addW1 t b vs.toArray ws.toArray n n2 dd dd2 sl sl2 (by simpa using hv) (by simp [hw])) ⟨ho, ho2, h1 hw⟩
  · refine concat_meets ⟨_, ho, rfl⟩ ⟨_, ho2, rfl⟩ noFill_tuple_add seq_tuple_add PySem.F.slot_tuple_add PySem.F.entry_tuple_add (PySem.F.args_tuple_add_2 _ _)
      (tuple_addW2 t b vs.toArray ws.toArray n n2 dd dd2 sl sl2 (by simpa using hv) (by simpa using hw) (by rw [List.size_toArray, List.size_toArray]; exact hsz)) ⟨ho, ho2, ?_⟩
    rw [e]
    exact h2 hw
def sIx (n d : Nat) : Option Int → Nat
  | none => d
  | some v => if v < 0 then (v + (n : Int)).toNat else min v.toNat n
theorem sIx_le (n d : Nat) (hd : d ≤ n) (o : Option Int) : sIx n d o ≤ n := by
  cases o with
  | none => exact hd
  | some v =>
    show (if v < 0 then (v + (n : Int)).toNat else min v.toNat n) ≤ n
    by_cases hv : v < 0
    · rw [if_pos hv]; omega
    · rw [if_neg hv]; exact Nat.min_le_right _ _
theorem clip_eq (v : Int) (n d : Nat) : (if v < 0 then max (v + (n : Int)) 0 else min v (n : Int)) = ((sIx n d (some v) : Nat) : Int) := by
  show (if v < 0 then max (v + (n : Int)) 0 else min v (n : Int)) = (((if v < 0 then (v + (n : Int)).toNat else min v.toNat n) : Nat) : Int)
  by_cases hv : v < 0
  · simp only [if_pos hv]; omega
  · simp only [if_neg hv]; omega
theorem adjust_gen (lo hi : Option Int) (n : Nat) : Builtin.Slice.sliceAdjust lo hi 1 (n : Int) = (((sIx n 0 lo : Nat) : Int), ((sIx n n hi : Nat) : Int)) := by
  have h1 : ¬ ((1 : Int) < 0) := by omega
  unfold Builtin.Slice.sliceAdjust
  simp only [h1, if_false]
  refine Prod.ext ?_ ?_
  · cases lo with
    | none => rfl
    | some v => exact clip_eq v n 0
  · cases hi with
    | none => rfl
    | some v => exact clip_eq v n n
theorem places_gen (i j : Nat) : Builtin.Slice.slicePlaces (i : Int) (j : Int) 1 = j - i := by
  unfold Builtin.Slice.slicePlaces
  have h1 : (1 : Int) > 0 := by omega
  simp only [h1, if_true, Int.ediv_one]
  split <;> omega
theorem slicePart_ {v : Value} {o : Option Int} {Q : Option Int → Shared → Prop} (p : IsPart v o) (h : Q o s) : wpAny (model prog w) A (Builtin.Slice.slicePartIndex v) Q E s := by
  cases p with
  | none => exact slicePart_none h
  | int i t => exact slicePart_int h
theorem sliceApplied_gen {sl : Addr} {vl vu : Value} {lo hi : Option Int} {n : Nat} {Q : Int × Int × Nat → Shared → Prop} (hs : s.heap.IsSliceOf sl vl vu .none) (pl : IsPart vl lo) (pu : IsPart vu hi)
    (h : Q (((sIx n 0 lo : Nat) : Int), 1, sIx n n hi - sIx n 0 lo) s) : wpAny (model prog w) A (Builtin.Slice.sliceApplied (.ref sl) (pure (n : Int))) Q E s := by
  obtain ⟨os, hos, hcs, hds⟩ := id hs
  unfold Builtin.Slice.sliceApplied Builtin.Slice.sliceFields
  refine wpAny_bind (wpAny_bind (wpAny_field hos hds (x := vl) rfl (wpAny_bind (wpAny_field hos hds (x := vu) rfl (wpAny_bind (wpAny_field hos hds (x := .none) rfl (wpAny_pure ?_)))))))
  refine wpAny_bind (slicePart_none ?_)
  show wpAny _ _ (if ((1 : Int) == 0) = true then _ else _) _ _ s
  rw [if_neg (by decide)]
  refine wpAny_bind (slicePart_ pl (wpAny_bind (slicePart_ pu (wpAny_bind (wpAny_pure ?_)))))
  show wpAny _ _ (match Builtin.Slice.sliceAdjust lo hi 1 (n : Int) with | (lo, hi) => pure (lo, (1 : Int), Builtin.Slice.slicePlaces lo hi 1)) _ _ s
  rw [adjust_gen lo hi n]
  show wpAny _ _ (pure (((sIx n 0 lo : Nat) : Int), (1 : Int), Builtin.Slice.slicePlaces ((sIx n 0 lo : Nat) : Int) ((sIx n n hi : Nat) : Int) 1)) _ _ s
  rw [places_gen]
  exact wpAny_pure h
theorem pick_gen (xs : Array Value) (i k : Nat) : ((List.range k).filterMap fun (m : Nat) => xs[((i : Int) + (m : Int) * 1).toNat]?).toArray = ((xs.toList.drop i).take k).toArray := by
  have e : (fun (m : Nat) => xs[((i : Int) + (m : Int) * 1).toNat]?) = fun m => xs[i + m]? := by
    funext m
    have : ((i : Int) + (m : Int) * 1).toNat = i + m := by omega
    rw [this]
  rw [e]
  have := pick_run xs i k
  rw [List.filterMap_map] at this
  have e2 : ((fun x => xs[x]?) ∘ fun x => i + x) = fun m => xs[i + m]? := rfl
  rw [e2] at this
  rw [this]
theorem getItem_tuple_cut {t sl : Addr} {items : Array Value} {vl vu : Value} {lo hi : Option Int} {Q : Value → Shared → Prop} (ht : IsTup s.heap t items) (hs : s.heap.IsSliceOf sl vl vu .none) (pl : IsPart vl lo) (pu : IsPart vu hi)
    (hw : ¬ (sIx items.size 0 lo = 0 ∧ sIx items.size items.size hi = items.size))
    (h : Q (.ref s.heap.objs.size) { s with heap := s.heap.push { cls := .type "tuple", data := .seq ((items.toList.drop (sIx items.size 0 lo)).take (sIx items.size items.size hi - sIx items.size 0 lo)).toArray } })
    (hsz : items.size ≤ sizeLine) : wpAny (model prog w) A (getItem (.ref t) (.ref sl)) Q E s := by
  have htake : sizeOk (.seq ((items.toList.drop (sIx items.size 0 lo)).take (sIx items.size items.size hi - sIx items.size 0 lo)).toArray) := by
    show ((items.toList.drop (sIx items.size 0 lo)).take (sIx items.size items.size hi - sIx items.size 0 lo)).toArray.size ≤ sizeLine
    rw [List.size_toArray, List.length_take, List.length_drop, Array.length_toList]
    omega
  have hj : sIx items.size items.size hi ≤ items.size := sIx_le _ _ (Nat.le_refl _) hi
  obtain ⟨os, hos, hcs, hds⟩ := id hs
  have hTs : s.TypeIs (.ref sl) "slice" := ⟨os, hos, hcs⟩
  unfold getItem
  try with_reducible refine wpAny_holding ?_
  first | refine wpAny_bind (wpAny_pure ?_) | skip
  refine wpAny_bind (wpAny_sequenceKey ht.typeIs (by decide) ?_)
  refine wpAny_bind (wpAny_callSpecial?_slot (name := Str.ofString "__getitem__") ht.typeIs PyProof.Rows.slot_tuple_getitem
    (wpAny_call_entry PyProof.Rows.slot_tuple_getitem ht.typeIs entry_tuple_getitem ?_ (args_tuple_getitem _ _)))
  show wpAny _ _ (Builtin.Tuple.tupleItemsOf (.ref t) >>= _) _ _ s
  refine wpAny_bind (tupleItemsOf_ ht ?_)
  refine wpAny_bind (wpAny_typeOf hTs ?_)
  rw [if_pos (by decide)]
  refine wpAny_bind (sliceApplied_gen hs pl pu ?_)
  have hno : ¬ ((((sIx items.size 0 lo : Nat) : Int) == 0 && (1 : Int) == 1 && (sIx items.size items.size hi - sIx items.size 0 lo) == items.size) = true) := by
    intro q
    rw [Bool.and_eq_true, Bool.and_eq_true] at q
    have q1 : ((sIx items.size 0 lo : Nat) : Int) = 0 := eq_of_beq q.1.1
    have q2 : sIx items.size items.size hi - sIx items.size 0 lo = items.size := eq_of_beq q.2
    exact hw ⟨by omega, by omega⟩
  show wpAny _ _ (if (((sIx items.size 0 lo : Nat) : Int) == 0 && (1 : Int) == 1 && (sIx items.size items.size hi - sIx items.size 0 lo) == items.size) = true then _ else _) _ _ s
  rw [if_neg hno, pick_gen]
  first
    | exact wpAny_bind (m := Builtin.Tuple.tupleExact _) (wpAny_newObj_type (wpAny_pure ⟨_, rfl, wpAny_pure h⟩) htake)
    | exact wpAny_bind (m := Builtin.Tuple.tupleExact _) (wpAny_newObj_type (wpAny_bind (wpAny_pure (wpAny_pure ⟨_, rfl, wpAny_pure h⟩))) htake)
    | exact wpAny_bind (wpAny_bind (m := Builtin.Tuple.tupleExact _) (wpAny_newObj_type (wpAny_pure (wpAny_pure ⟨_, rfl, wpAny_pure h⟩)) htake))
    | exact wpAny_bind (wpAny_bind (m := Builtin.Tuple.tupleExact _) (wpAny_newObj_type (wpAny_pure ⟨_, rfl, wpAny_pure h⟩) htake))
end
end HT
namespace L2
open PySem PySem.Spec PyProof.Rows
abbrev TO := St → Hp → (Option Int → Hp → Prop) → Prop
def PO (X : Cx) (e : Option Expr) (t : TO) : Prop :=
  ∀ (pins : List (Addr × Obj)) (s : Shared) (σ : St) (H : Hp) (Q : Option Int → Hp → Prop), Inv X pins σ H s → t σ H Q →
    wpAny (model X.prog X.w) X.A (evalPart e X.env) (fun u s' => ∃ o H', Inv X pins σ H' s' ∧ IsPart u o ∧ Q o H') X.xe s
def tNoPart : TO := fun _ H Q => Q none H
def tPart (t : TE) : TO := fun σ H Q => t σ H fun x H1 => ∃ i, x = .int i ∧ Q (some i) H1
section
variable {X : Cx} {e : Expr} {te : TE} {lo hi : Option Expr} {tl th : TO} {pos p2 : Pos}
theorem po_none : PO X none tNoPart := by
  intro pins s σ H Q I h
  rw [evalPart_none]
  exact wpAny_pure ⟨none, H, I, .none, h⟩
theorem po_some (h : PE X e te) : PO X (some e) (tPart te) := by
  intro pins s σ H Q I hw
  rw [evalPart_some]
  refine thn (h pins s σ H _ I hw) fun u s1 ⟨x, H1, I1, r1, q1⟩ => ?_
  obtain ⟨i, rfl, q⟩ := q1
  obtain ⟨t, rfl⟩ := r1
  exact ⟨some i, H1, I1, .int i t, q⟩
def SlR (X : Cx) (r : V → Option Int → Option Int → Hp → VK → Prop) : Prop :=
  ∀ (pins : List (Addr × Obj)) (s : Shared) (σ : St) (H : Hp) (x : V) (v vl vu : Value) (lo hi : Option Int) (sl : Addr) (Q : VK), Inv X pins σ H s → RelV x v → s.heap.IsSliceOf sl vl vu .none → IsPart vl lo → IsPart vu hi → r x lo hi H Q →
    ∃ T id, typeLookup (.type T) "__getitem__" = pure (some (.builtin id)) ∧ s.TypeIs v T ∧ wpAny (model X.prog X.w) X.A (getItem v (.ref sl)) (EP X pins σ Q) X.xe s
def tSl (r : V → Option Int → Option Int → Hp → VK → Prop) (te : TE) (tl th : TO) : TE := fun σ H Q => te σ H fun x H1 => tl σ H1 fun l H2 => th σ H2 fun u H3 => r x l u H3 Q
theorem pe_slice {r : V → Option Int → Option Int → Hp → VK → Prop} (hr : SlR X r) (he : PE X e te) (hl : PO X lo tl) (hu : PO X hi th) : PE X (.Subscript e (.Slice lo hi none p2) pos) (tSl r te tl th) := by
  intro pins s σ H Q I h
  refine Subscript_ (thn (he pins s σ H _ I h) fun v s1 ⟨x, H1, I1, r1, q1⟩ => ?_)
  refine wpAny_Slice (thn (hl pins s1 σ H1 _ I1 q1) fun vl s2 ⟨l, H2, I2, pl, q2⟩ => thn (hu pins s2 σ H2 _ I2 q2) fun vu s3 ⟨u, H3, I3, pu, q3⟩ => ?_)
  rw [evalPart_none]
  refine wpAny_pure ?_
  have I4 : Inv X pins σ H3 { s3 with heap := s3.heap.push { cls := .type "slice", data := .fields #[vl, vu, .none] } } := I3.kept (t' := s3.toks) fun b ob q => Heap.get?_push_of_some _ q
  obtain ⟨T, id, hT, ht, hg⟩ := hr pins { s3 with heap := s3.heap.push { cls := .type "slice", data := .fields #[vl, vu, .none] } } σ H3 x v vl vu l u s3.heap.objs.size Q I4 r1 (Heap.IsSliceOf.new ..) pl pu q3
  show wpAny (model X.prog X.w) X.A (subscriptTail e (.Slice lo hi none p2) v (.ref s3.heap.objs.size)) (EP X pins σ Q) X.xe { s3 with heap := s3.heap.push { cls := .type "slice", data := .fields #[vl, vu, .none] } }
  exact tail_any (ops := [.ref s3.heap.objs.size, v]) ht hT hg (by with_unfolding_all rfl)
def cutV (xs : List V) (lo hi : Option Int) : List V := (xs.drop (HT.sIx xs.length 0 lo)).take (HT.sIx xs.length xs.length hi - HT.sIx xs.length 0 lo)
theorem cutV_length (xs : List V) (lo hi : Option Int) : (cutV xs lo hi).length ≤ xs.length := by
  unfold cutV
  rw [List.length_take, List.length_drop]
  omega
def rSlT (K : PySem.W.Frag) : V → Option Int → Option Int → Hp → VK → Prop := fun x lo hi H Q => ∃ a xs, x = .ref a ∧ SqT K H a xs ∧
  ¬ (HT.sIx xs.length 0 lo = 0 ∧ HT.sIx xs.length xs.length hi = xs.length) ∧ ∀ p, H p = none → Q (.ref p) (upd H p (.tup (cutV xs lo hi)))
theorem sl_tup : SlR X (rSlT X.K) := by
  intro pins s σ H x v vl vu lo hi sl Q I rx hs pl pu h
  obtain ⟨a, xs, rfl, hx, hw, q⟩ := h
  cases rx
  obtain ⟨its, r, ht, hz⟩ := I.tuple hx
  have hlen : its.toArray.size = xs.length := by rw [List.size_toArray]; exact r.length.symm
  refine ⟨"tuple", _, PyProof.Rows.slot_tuple_getitem.lookup, ht.typeIs, ?_⟩
  refine HT.getItem_tuple_cut ht hs pl pu (by rw [hlen]; exact hw) ?_ (by rw [hlen]; exact hz)
  rw [hlen]
  refine ⟨.ref s.heap.objs.size, _, I.laid (t' := s.toks) (o := .tup (cutV xs lo hi)) (fun b ob q => Heap.get?_push_of_some _ q) (Nat.le_refl _) ?_, rfl, q _ (I.hok.fresh (Nat.le_refl _))⟩
  exact ⟨Nat.le_trans (cutV_length xs lo hi) hz, _, (r.drop (HT.sIx xs.length 0 lo)).take (HT.sIx xs.length xs.length hi - HT.sIx xs.length 0 lo), IsTup.new _ _⟩
def rCatT (K : PySem.W.Frag) : R2 := fun x y H Q => ∃ a b xs ys, x = .ref a ∧ y = .ref b ∧ SqT K H a xs ∧ SqT K H b ys ∧ xs ≠ [] ∧ xs.length + ys.length ≤ sizeLine ∧
  (ys = [] → Q (.ref a) H) ∧ (ys ≠ [] → ∀ p, H p = none → Q (.ref p) (upd H p (.tup (xs ++ ys))))
theorem Vals.nil_iff {xs : List V} {us : List Value} (r : Vals xs us) : us = [] ↔ xs = [] := by
  cases r with
  | nil => simp
  | cons _ _ => simp
theorem op_catT : OpR X (binaryOp .Add) (rCatT X.K) := by
  intro pins s σ H x y v u Q I rx ry h
  obtain ⟨a, b, xs, ys, rfl, rfl, ha, hb, hx, hz, q1, q2⟩ := h
  cases rx
  cases ry
  obtain ⟨its, r1, p1, _⟩ := I.tuple ha
  obtain ⟨its2, r2, p2, _⟩ := I.tuple hb
  refine HT.cat_tup p1 p2 (fun z => hx (r1.nil_iff.mp z)) (fun z => ⟨.ref a, H, I, rfl, q1 (r2.nil_iff.mp z)⟩) (fun z => ?_) (by rw [← r1.length, ← r2.length]; exact hz)
  refine ⟨.ref s.heap.objs.size, _, I.laid (t' := s.toks) (o := .tup (xs ++ ys)) (fun b ob q => Heap.get?_push_of_some _ q) (Nat.le_refl _) ?_, rfl, q2 (fun w => z (r2.nil_iff.mpr w)) _ (I.hok.fresh (Nat.le_refl _))⟩
  exact ⟨by rw [List.length_append]; exact hz, _, r1.append r2, IsTup.new _ _⟩
end
end L2
namespace L2
open PySem PySem.Spec PyProof.Rows
def ixN (n : Nat) (i : Int) : Option Nat := if 0 ≤ i then (if i < n then some i.toNat else none) else if -(n : Int) ≤ i then some (i + n).toNat else none
def atI {α : Type} (xs : List α) (i : Int) : Option α := (ixN xs.length i).bind fun j => xs[j]?
theorem ixN_seq {n : Nat} {i : Int} {j : Nat} (h : ixN n i = some j) : seqIndex? i n = some j ∧ j < n ∧ -(n : Int) ≤ i ∧ i < n := by
  unfold ixN at h
  by_cases h0 : 0 ≤ i
  · rw [if_pos h0] at h
    by_cases h1 : i < n
    · rw [if_pos h1] at h
      have e : i.toNat = j := Option.some.inj h
      exact ⟨by rw [seqIndex_of h0 h1, e], by omega, by omega, h1⟩
    · rw [if_neg h1] at h; cases h
  · rw [if_neg h0] at h
    by_cases h1 : -(n : Int) ≤ i
    · rw [if_pos h1] at h
      have e : (i + n).toNat = j := Option.some.inj h
      exact ⟨by rw [seqIndex_neg (by omega) h1, e], by omega, h1, by omega⟩
    · rw [if_neg h1] at h; cases h
theorem atI_get {α : Type} {xs : List α} {i : Int} {v : α} (h : atI xs i = some v) : ∃ j, seqIndex? i xs.length = some j ∧ xs[j]? = some v ∧ j < xs.length ∧ -(xs.length : Int) ≤ i ∧ i < xs.length := by
  unfold atI at h
  cases e : ixN xs.length i with
  | none => rw [e] at h; cases h
  | some j =>
    rw [e] at h
    obtain ⟨h1, h2, h3, h4⟩ := ixN_seq e
    exact ⟨j, h1, h, h2, h3, h4⟩
theorem atI_nat {α : Type} {xs : List α} {j : Nat} {v : α} (h : xs[j]? = some v) : atI xs (j : Int) = some v := by
  have hj : j < xs.length := (List.getElem?_eq_some_iff.mp h).1
  have e : ixN xs.length (j : Int) = some j := by
    unfold ixN
    rw [if_pos (by omega), if_pos (by omega)]; simp
  unfold atI; rw [e]; exact h
def PlainIx (b : Expr) : Prop := ∀ o i, subscripted b false o i = operate [o, i] (getItem o i)
def IxR (X : Cx) (r : R2) : Prop :=
  ∀ (value slice : Expr) (pins : List (Addr × Obj)) (s : Shared) (σ : St) (H : Hp) (x y : V) (v u : Value) (Q : VK), Inv X pins σ H s → RelV x v → RelV y u → r x y H Q →
    subscripted slice false v u = operate [v, u] (getItem v u) → wpAny (model X.prog X.w) X.A (subscriptTail value slice v u) (EP X pins σ Q) X.xe s
def MtR (X : Cx) (id : String) (r : V → List V → Hp → VK → Prop) : Prop :=
  ∀ (pins : List (Addr × Obj)) (s : Shared) (σ : St) (H : Hp) (x : V) (xs : List V) (v : Value) (us : List Value) (Q : VK), Inv X pins σ H s → RelV x v → Vals xs us → r x xs H Q →
    wpAny (model X.prog X.w) X.A (call (.builtin id) (v :: us)) (EP X pins σ Q) X.xe s
section
variable {X : Cx} {a b : Expr} {ta tb : TE} {pos : Pos}
theorem pe_ix {r : R2} (hr : IxR X r) (ha : PE X a ta) (hb : PE X b tb) (hs : PlainIx b) : PE X (.Subscript a b pos) (tOp r ta tb) := by
  intro pins s σ H Q I h
  exact Subscript_ (binT ha hb I h fun v u s2 x y H2 I2 rx ry q => hr a b pins s2 σ H2 x y v u Q I2 rx ry q (hs _ _))
def rIxL (K : PySem.W.Frag) : R2 := fun x y H Q => ∃ p xs i v, x = .ref p ∧ y = .int i ∧ SqL K H p xs ∧ atI xs i = some v ∧ Q v H
def rIxT (K : PySem.W.Frag) : R2 := fun x y H Q => ∃ p xs i v, x = .ref p ∧ y = .int i ∧ SqT K H p xs ∧ atI xs i = some v ∧ Q v H
def rIxS : R2 := fun x y H Q => ∃ z i c, x = .str z ∧ y = .int i ∧ z.length ≤ sizeLine ∧ atI z.cps.toList i = some c ∧ Q (.str ⟨#[c]⟩) H
theorem ix_list : IxR X (rIxL X.K) := by
  intro value slice pins s σ H x y v u Q I rx ry h hs
  obtain ⟨p, xs, i, z, rfl, rfl, hq, he, q⟩ := h
  cases rx
  obtain ⟨t, rfl⟩ := ry
  obtain ⟨its, r, pl, hz⟩ := I.list hq
  obtain ⟨j, h1, h2, h3, h4, h5⟩ := atI_get he
  obtain ⟨w, ew, rw'⟩ := r.get h2
  have hl := r.length
  have hn := line63
  have fin : EP X pins σ Q w s := ⟨z, H, I, rw', q⟩
  by_cases h0 : 0 ≤ i
  · have hj : i.toNat = j := by
      rw [seqIndex_of h0 h5] at h1
      exact Option.some.inj h1
    exact item_listR pl.isList h0 (by omega) (by rw [hj]; simpa using ew) fin hs
  · have hj : (i + (its.toArray.size : Int)).toNat = j := by
      rw [seqIndex_neg (by omega) h4] at h1
      rw [List.size_toArray, ← hl]
      exact Option.some.inj h1
    exact subscriptTail_builtinR (x := w) pl.isList.typeIs slot_list_getitem.lookup
      (wpAny_getItem_list_neg (Q := fun r s' => r = w ∧ EP X pins σ Q r s') pl.isList (by omega) (by rw [List.size_toArray] <;> omega) (by omega) (by rw [hj]; simpa using ew) ⟨rfl, fin⟩) hs
theorem ix_tup : IxR X (rIxT X.K) := by
  intro value slice pins s σ H x y v u Q I rx ry h hs
  obtain ⟨p, xs, i, z, rfl, rfl, hq, he, q⟩ := h
  cases rx
  obtain ⟨t, rfl⟩ := ry
  obtain ⟨its, r, pl, hz⟩ := I.tuple hq
  obtain ⟨j, h1, h2, h3, h4, h5⟩ := atI_get he
  obtain ⟨w, ew, rw'⟩ := r.get h2
  have hl := r.length
  have hn := line63
  have fin : EP X pins σ Q w s := ⟨z, H, I, rw', q⟩
  exact subscriptTail_builtinR (x := w) pl.typeIs slot_tuple_getitem.lookup
    (getItem_tuple (j := j) (Q := fun r s' => r = w ∧ EP X pins σ Q r s') pl (by omega) (by omega) (by rw [List.size_toArray, ← hl]; exact h1) (by simpa using ew) ⟨rfl, fin⟩) hs
theorem ix_str : IxR X rIxS := by
  intro value slice pins s σ H x y v u Q I rx ry h hs
  obtain ⟨z, i, c, rfl, rfl, hz, he, q⟩ := h
  obtain ⟨t, rfl⟩ := rx
  obtain ⟨t', rfl⟩ := ry
  obtain ⟨j, h1, h2, h3, h4, h5⟩ := atI_get he
  have hl : z.cps.toList.length = z.length := by simp [Str.length]
  rw [hl] at h1 h4 h5
  have hn := line63
  exact tail_any (typeIs_str s z t) slot_str_getitem.lookup (getItem_str (c := c) (by
    have e1 : decide (i < -(2 ^ 63 : Int)) = false := decide_eq_false (by omega)
    have e2 : decide (i ≥ 2 ^ 63) = false := decide_eq_false (by omega)
    rw [e1, e2, Bool.or_false]) (by rw [h1]; simpa using h2) ⟨.str ⟨#[c]⟩, H, I.tok _, ⟨_, rfl⟩, q⟩) hs
def rIx (K : PySem.W.Frag) : R2 := fun x y H Q => rIxL K x y H Q ∨ rIxT K x y H Q ∨ rIxS x y H Q
theorem mapSeq_set (its : List Value) (n j : Nat) (u : Value) : Obj.mapSeq (·.setIfInBounds j u) { cls := .type "list", data := .seq its.toArray n } = { cls := .type "list", data := .seq (its.set j u).toArray n } := by
  simp [Obj.mapSeq]
theorem Inv.lst {pins : List (Addr × Obj)} {σ : St} {H : Hp} {s : Shared} {p : Addr} {xs : List V} (I : Inv X pins σ H s) (h : H p = some (.lst xs)) :
    ∃ (its : List Value) (n : Nat), Vals xs its ∧ s.heap.get? p = some { cls := .type "list", data := .seq its.toArray n } ∧ xs.length ≤ sizeLine := by
  obtain ⟨z, its, n, r, e⟩ := I.hok p _ h
  exact ⟨its, n, r, e, z⟩
theorem Inv.lstUpd {pins : List (Addr × Obj)} {σ : St} {H : Hp} {s : Shared} {p : Addr} {xs ys : List V} {its its' : List Value} {n n' : Nat} {f : Obj → Obj} (I : Inv X pins σ H s) (h : H p = some (.lst xs))
    (ho : s.heap.get? p = some { cls := .type "list", data := .seq its.toArray n }) (hf : f { cls := .type "list", data := .seq its.toArray n } = { cls := .type "list", data := .seq its'.toArray n' }) (r : Vals ys its') (hz : ys.length ≤ sizeLine) (t : Nat) :
    Inv X pins σ (upd H p (.lst ys)) { s with heap := s.heap.update p f, toks := t } := by
  have e : (s.heap.update p f).get? p = some { cls := .type "list", data := .seq its'.toArray n' } := by
    rw [Heap.get?_update_self f ho (by rw [hf] <;> rfl), hf]
  refine I.write (x := p) (e := p) (by rw [h]; trivial) (.inl rfl) (fun b u hb q => (Heap.get?_update_other _ _ (Ne.symm hb)).trans q) ⟨_, e⟩ ?_
  exact ⟨hz, its', n', r, e⟩
def rSetL : V → V → V → Hp → (Hp → Prop) → Prop := fun o i v H Q => ∃ p xs k j, o = .ref p ∧ i = .int k ∧ H p = some (.lst xs) ∧ ixN xs.length k = some j ∧ Q (upd H p (.lst (xs.set j v)))
theorem set_list : PSet X rSetL := by
  intro pins s σ H o i v ov iv u Q I ro ri rv h
  obtain ⟨p, xs, k, j, rfl, rfl, hp, hj, q⟩ := h
  cases ro
  obtain ⟨t, rfl⟩ := ri
  obtain ⟨its, n, r, ho, hz⟩ := I.lst hp
  obtain ⟨h1, h2, h3, h4⟩ := ixN_seq hj
  have hl := r.length
  have hn := line63
  have I' : Inv X pins σ (upd H p (.lst (xs.set j v))) { s with heap := s.heap.update p (Obj.mapSeq (·.setIfInBounds j u)) } :=
    I.lstUpd hp ho (mapSeq_set its n j u) (r.set rv j) (by rw [List.length_set]; exact hz) s.toks
  by_cases h0 : 0 ≤ k
  · have hk : k.toNat = j := by
      rw [seqIndex_of h0 h4] at h1
      exact Option.some.inj h1
    exact PySem.W.ki_setAt ho h0 (by omega) (by rw [List.size_toArray, ← hl]; exact h4) (by rw [hk]; exact ⟨_, I', q⟩)
  · have hk : (k + (its.toArray.size : Int)).toNat = j := by
      rw [seqIndex_neg (by omega) h3] at h1
      rw [List.size_toArray, ← hl]
      exact Option.some.inj h1
    exact PySem.W.ki_setBack ho (by omega) (by rw [List.size_toArray, ← hl]; exact h3) (by omega) (by rw [hk]; exact ⟨_, I', q⟩)
theorem slice_bounds (lo hi : Option Int) (n : Nat) : (sliceBounds lo hi none n).1 = ((HT.sIx n 0 lo : Nat) : Int) ∧ (sliceBounds lo hi none n).2.1 = ((HT.sIx n n hi : Nat) : Int) ∧ (sliceBounds lo hi none n).2.2 = 1 := by
  refine ⟨?_, ?_, rfl⟩
  · cases lo with
    | none => simp [sliceBounds, HT.sIx]
    | some i =>
      simp only [sliceBounds, HT.sIx, Option.getD_none, show (1 : Int) > 0 by decide, if_true]
      by_cases h : i < 0
      · simp only [h, if_true] <;> omega
      · simp only [h, if_false] <;> omega
  · cases hi with
    | none => simp [sliceBounds, HT.sIx]
    | some i =>
      simp only [sliceBounds, HT.sIx, Option.getD_none, show (1 : Int) > 0 by decide, if_true]
      by_cases h : i < 0
      · simp only [h, if_true] <;> omega
      · simp only [h, if_false] <;> omega
theorem slicePick_cut (its : List Value) (lo hi : Option Int) : slicePick its.toArray lo hi none = ((its.drop (HT.sIx its.length 0 lo)).take (HT.sIx its.length its.length hi - HT.sIx its.length 0 lo)).toArray := by
  obtain ⟨h1, h2, h3⟩ := slice_bounds lo hi its.toArray.size
  unfold slicePick
  rw [h1, h2, h3]
  simp only [sliceRange_one, pick_run, List.size_toArray] <;> rfl
def rSlL (K : PySem.W.Frag) : V → Option Int → Option Int → Hp → VK → Prop := fun x lo hi H Q => ∃ a xs, x = .ref a ∧ SqL K H a xs ∧ ∀ p, H p = none → Q (.ref p) (upd H p (.lst (cutV xs lo hi)))
theorem sl_list : SlR X (rSlL X.K) := by
  intro pins s σ H x v vl vu lo hi sl Q I rx hs pl pu h
  obtain ⟨a, xs, rfl, hx, q⟩ := h
  cases rx
  obtain ⟨its, r, ht, hz⟩ := I.list hx
  have hlen := r.length
  refine ⟨"list", _, slot_list_getitem.lookup, ht.isList.typeIs, ?_⟩
  refine wpAny_getItem_list_slice ht.isList hs pl pu .none (by simp) ?_ (by rw [List.size_toArray] <;> omega)
  rw [slicePick_cut, ← hlen]
  refine ⟨.ref s.heap.objs.size, _, I.laid (t' := s.toks) (o := .lst (cutV xs lo hi)) (fun b ob q => Heap.get?_push_of_some _ q) (Nat.le_refl _) ?_, rfl, q _ (I.hok.fresh (Nat.le_refl _))⟩
  exact ⟨Nat.le_trans (cutV_length xs lo hi) hz, _, 0, (r.drop (HT.sIx xs.length 0 lo)).take (HT.sIx xs.length xs.length hi - HT.sIx xs.length 0 lo), Heap.get?_push_size _ rfl⟩
theorem call_len_seq : CallR X (.builtin "len") (fun xs H Q => ∃ p ys, xs = [.ref p] ∧ (SqL X.K H p ys ∨ SqT X.K H p ys) ∧ Q (.int ys.length) H) := by
  intro pins s σ H xs us Q I r h
  obtain ⟨p, ys, rfl, hq, q⟩ := h
  obtain ⟨u, rfl, rx⟩ := vals1 r
  cases rx
  have hn := line63
  rcases hq with hq | hq
  · obtain ⟨its, r', pl, hz⟩ := I.list hq
    have hlen := r'.length
    exact Calls.call_len_list pl.isList (by simp only [List.size_toArray] <;> omega) ⟨.int ys.length, H, I.tok _, ⟨s.toks + 1, by rw [List.size_toArray, hlen]⟩, q⟩
  · obtain ⟨its, r', pl, hz⟩ := I.tuple hq
    have hlen := r'.length
    exact len_tuple pl (by simp only [List.size_toArray] <;> omega) ⟨.int ys.length, H, I.tok _, ⟨s.toks + 1, by rw [List.size_toArray, hlen]⟩, q⟩
theorem call_len_str : CallR X (.builtin "len") (fun xs H Q => ∃ z, xs = [.str z] ∧ z.length ≤ sizeLine ∧ Q (.int z.length) H) := by
  intro pins s σ H xs us Q I r h
  obtain ⟨z, rfl, hz, q⟩ := h
  obtain ⟨u, rfl, t, rfl⟩ := vals1 r
  have hn := line63
  exact len_str (by omega) ⟨.int z.length, H, I.tok _, ⟨_, rfl⟩, q⟩
def tyV (K : PySem.W.Frag) (T : String) (x : V) (H : Hp) : Prop := match x with
  | .str _ => T = "str"
  | .int _ => T = "int"
  | .ref p => (T = "list" ∧ ∃ xs, SqL K H p xs) ∨ (T = "tuple" ∧ ∃ o, K.lookup p = some o ∧ o.cls = .type "tuple" ∧ o.dict = none) ∨
      (T = "dict" ∧ ((∃ kvs, H p = some (.dK kvs)) ∨ ∃ kvs, H p = some (.dT kvs))) ∨ (T = "set" ∧ ∃ S n, H p = some (.set S n))
  | _ => False
theorem tyV_is {pins : List (Addr × Obj)} {σ : St} {H : Hp} {s : Shared} {T : String} {x : V} {v : Value} (I : Inv X pins σ H s) (r : RelV x v) (ty : tyV X.K T x H) :
    s.TypeIs v T ∧ ∀ a, v = .ref a → ∃ ob, s.heap.get? a = some ob ∧ ob.dict = none := by
  cases x with
  | str z =>
    obtain ⟨t, rfl⟩ := r
    cases (show T = "str" from ty)
    exact ⟨typeIs_str s z t, fun _ e => nomatch e⟩
  | int i =>
    obtain ⟨t, rfl⟩ := r
    cases (show T = "int" from ty)
    exact ⟨typeIs_int s i t, fun _ e => nomatch e⟩
  | ref p =>
    cases r
    rcases ty with ⟨rfl, xs, hq⟩ | ⟨rfl, o, hk, hc, hd⟩ | ⟨rfl, hk⟩ | ⟨rfl, S, n, hk⟩
    · obtain ⟨its, _, pl, _⟩ := I.list hq
      refine ⟨pl.isList.typeIs, fun a e => ?_⟩
      cases e
      obtain ⟨o, n, e, c, hd, _⟩ := pl
      exact ⟨o, e, hd⟩
    · refine ⟨⟨o, I.kIn p o hk, hc⟩, fun a e => ?_⟩
      cases e
      exact ⟨o, I.kIn _ o hk, hd⟩
    · have z : ∃ o, s.heap.get? p = some o ∧ o.ExactDict := by
        rcases hk with ⟨kvs, hk⟩ | ⟨kvs, hk⟩
        · obtain ⟨_, _, _, _, o, _, _, e, ex, _⟩ := I.hok p _ hk
          exact ⟨o, e, ex⟩
        · obtain ⟨_, _, _, _, o, _, _, e, ex, _⟩ := I.hok p _ hk
          exact ⟨o, e, ex⟩
      obtain ⟨o, e, ex⟩ := z
      refine ⟨⟨o, e, ex.1⟩, fun a e2 => ?_⟩
      cases e2
      exact ⟨o, e, ex.2.1⟩
    · obtain ⟨o, _, _, _, e, ex, _⟩ := I.hok p _ hk
      refine ⟨⟨o, e, ex.1⟩, fun a e2 => ?_⟩
      cases e2
      exact ⟨o, e, ex.2.1⟩
  | _ => exact False.elim ty
def tBM (K : PySem.W.Frag) (T : String) (r : V → List V → Hp → VK → Prop) (to : TE) (t : TA) : TE := fun σ H Q => to σ H fun x H1 => tyV K T x H1 ∧ t σ H1 fun xs H2 => r x xs H2 Q
variable {o e : Expr} {es : List Expr} {to : TE} {t : TA} {name : Str} {apos cpos : Pos} {T id : String} {r : V → List V → Hp → VK → Prop}
theorem pe_bm (pa : PlainAttrs T) (slot : Slot T name id) (hty : typeOf (.builtin id) = pure (.type "method_descriptor")) (hm : MtR X id r) (ho : PE X o to) (ha : PA X (e :: es) t)
    (hbase : attributeBase o name X.env (eval o X.env) = eval o X.env := by rfl)
    (hfew : ((backTo cpos (starEach (e :: es) X.env)).all (fun x => !x.1) && (backToKw cpos (keywordEach [] X.env)).all (fun x => x.1.isSome)
      && decide ((e :: es).length + ([] : List Keyword).length + (if ([] : List Keyword).isEmpty then 0 else 1) < 30)) = true := by rfl)
    (hline : (apos.endLine == cpos.line) = true := by rfl) (hs : starEach (e :: es) X.env = (false, eval e X.env) :: starEach es X.env := by rfl) (hplain : (backTo cpos (starEach es X.env)).any (·.1) = false := by rfl) :
    PE X (.Call (.Attribute o name apos) (e :: es) [] cpos) (tBM X.K T r to t) := by
  intro pins s σ H Q I h
  refine wpAny_Call_method_late hbase hfew hline rfl (thn (ho pins s σ H _ I h) fun v s1 ⟨x, H1, I1, r1, ty, q1⟩ => ?_)
  obtain ⟨h1, h2⟩ := tyV_is I1 r1 ty
  refine ⟨T, id, pa, slot, hty, h1, h2, ?_⟩
  have hA := ha cpos pins s1 σ H1 _ I1 q1
  rw [hs] at hA ⊢
  refine Calls.callWith_builtin (by show (false || (backTo cpos (starEach es X.env)).any (·.1)) = false; rw [hplain] <;> rfl) (Calls.evalArgs_plain ?_)
  exact thn hA fun us s2 ⟨vs, H2, I2, r2, q2⟩ => hm pins s2 σ H2 x vs v us Q I2 r1 r2 q2
end
end L2
namespace L2
open PySem PySem.Spec PyProof.Rows
def MtM (X : Cx) (id : String) (r : V → List V → Hp → VK → Prop) : Prop :=
  ∀ (pins : List (Addr × Obj)) (s : Shared) (σ : St) (H : Hp) (x : V) (xs : List V) (v : Value) (us : List Value) (Q : VK), Inv X pins σ H s → RelV x v → Vals xs us → r x xs H Q →
    wpAny (model X.prog X.w) X.A (call (.builtin id) (v :: us)) (EP X pins σ Q) X.xe s
theorem Vals.one : ∀ {x : V} {us : List Value}, Vals [x] us → ∃ u, us = [u] ∧ RelV x u
  | _, _, .cons r .nil => ⟨_, rfl, r⟩
theorem Vals.two : ∀ {x y : V} {us : List Value}, Vals [x, y] us → ∃ u v, us = [u, v] ∧ RelV x u ∧ RelV y v
  | _, _, _, .cons r (.cons q .nil) => ⟨_, _, rfl, r, q⟩
theorem Vals.zero : ∀ {us : List Value}, Vals [] us → us = []
  | _, .nil => rfl
theorem Vals.rep {xs : List V} {us : List Value} (h : Vals xs us) : ∀ k : Nat, Vals (List.replicate k xs).flatten (List.replicate k us).flatten
  | 0 => .nil
  | k + 1 => by
    rw [List.replicate_succ, List.replicate_succ, List.flatten_cons, List.flatten_cons]
    exact Vals.append h (Vals.rep h k)
theorem foldl_rep (its : List Value) : ∀ (k : Nat) (acc : List Value),
    List.foldl (fun x1 x2 => x1 ++ x2) acc.toArray (List.replicate k its.toArray) = (acc ++ (List.replicate k its).flatten).toArray
  | 0, acc => by simp
  | k + 1, acc => by
    have e : acc.toArray ++ its.toArray = (acc ++ its).toArray := by simp
    have e2 : (acc ++ its) ++ (List.replicate k its).flatten = acc ++ (List.replicate (k + 1) its).flatten := by
      rw [List.replicate_succ, List.flatten_cons, List.append_assoc]
    rw [← e2, ← foldl_rep its k (acc ++ its), ← e, List.replicate_succ, List.foldl_cons]
section
variable {X : Cx} {pins : List (Addr × Obj)} {σ : St} {H : Hp} {s : Shared} {l b : Addr} {xs ys zs : List V}
theorem Inv.lset {its its' : List Value} {n : Nat} {f : Array Value → Array Value} {t' : Nat} (I : Inv X pins σ H s) (hH : H l = some (.lst xs))
    (e : s.heap.get? l = some { cls := .type "list", data := .seq its.toArray n }) (hf : f its.toArray = its'.toArray) (hv : Vals ys its') (hz : ys.length ≤ sizeLine) :
    Inv X pins σ (upd H l (.lst ys)) { s with heap := s.heap.update l (Obj.mapSeq f), toks := t' } := by
  have q := PySem.IsL.update e f
  rw [hf] at q
  refine I.write (x := l) (e := l) (by rw [hH]; exact trivial) (.inl rfl) (fun b' u hb hu => (Heap.get?_update_other s.heap (Obj.mapSeq f) (Ne.symm hb)).trans hu) ⟨_, q⟩ ?_
  exact ⟨hz, its', _, hv, q⟩
theorem Inv.lnew {its : List Value} {t' : Nat} (I : Inv X pins σ H s) (hv : Vals ys its) (hz : ys.length ≤ sizeLine) :
    Inv X pins σ (upd H s.heap.objs.size (.lst ys)) { s with heap := s.heap.push { cls := .type "list", data := .seq its.toArray }, toks := t' } :=
  I.laid (fun _ _ q => Heap.get?_push_of_some _ q) (Nat.le_refl _) ⟨hz, its, 0, hv, Heap.get?_push_size _ rfl⟩
theorem Inv.fresh (I : Inv X pins σ H s) : H s.heap.objs.size = none := I.hok.fresh (Nat.le_refl _)
theorem Inv.lstM (I : Inv X pins σ H s) (hH : H l = some (.lst xs)) : xs.length ≤ sizeLine ∧ ∃ (its : List Value) (n : Nat), Vals xs its ∧ xs.length = its.length ∧ s.heap.get? l = some { cls := .type "list", data := .seq its.toArray n } := by
  obtain ⟨z, its, n, r, e⟩ := I.hok l _ hH
  exact ⟨z, its, n, r, r.length, e⟩
theorem notLongL {n : Nat} (h : n ≤ sizeLine) : Builtin.List.listTooLong n = false := by
  unfold Builtin.List.listTooLong
  exact decide_eq_false (by omega)
end
section
variable {X : Cx}
def rAppend : V → List V → Hp → VK → Prop := fun x vs H Q => ∃ l xs y, x = .ref l ∧ vs = [y] ∧ H l = some (.lst xs) ∧ xs.length < sizeLine ∧ Q .non (upd H l (.lst (xs ++ [y])))
theorem mt_append : MtM X "list.append" rAppend := by
  intro pins s σ H x vs v us Q I rx rv h
  obtain ⟨l, xs, y, rfl, rfl, hH, hz, q⟩ := h
  cases rx
  obtain ⟨u, rfl, ru⟩ := rv.one
  obtain ⟨z, its, n, r, hl, e⟩ := I.lstM hH
  refine call_meets F.slot_list_append ⟨_, e, rfl⟩ F.entry_list_append (F.args_list_append_2 _ _) (PySem.list_append l its.toArray n u (by rw [List.size_toArray]; omega)) ⟨e, ?_⟩
  refine ⟨.non, _, I.lset (its' := its ++ [u]) hH e (by simp) (r.append (.cons ru .nil)) ?_, rfl, q⟩
  rw [List.length_append, List.length_singleton]
  omega
def rRep : R2 := fun x y H Q => ∃ l k xs, x = .ref l ∧ y = .int k ∧ H l = some (.lst xs) ∧ -(2 ^ 63) ≤ k ∧ k < 2 ^ 63 ∧ xs.length * k.toNat ≤ sizeLine ∧
  ∀ p, H p = none → Q (.ref p) (upd H p (.lst (List.replicate k.toNat xs).flatten))
theorem len_rep {α : Type} (xs : List α) (k : Nat) : (List.replicate k xs).flatten.length = k * xs.length := by
  induction k with
  | zero => simp
  | succ k ih => rw [List.replicate_succ, List.flatten_cons, List.length_append, ih, Nat.succ_mul, Nat.add_comm]
theorem op_rep : OpR X (binaryOp .Mult) rRep := by
  intro pins s σ H x y v u Q I rx ry h
  obtain ⟨l, k, xs, rfl, rfl, hH, h1, h2, hz, q⟩ := h
  cases rx
  obtain ⟨t, rfl⟩ := ry
  obtain ⟨z, its, n, r, hl, e⟩ := I.lstM hH
  have hlen : its.toArray.size * k.toNat ≤ sizeLine := by rw [List.size_toArray, ← hl]; exact hz
  have hcap : ¬ its.toArray.size * k.toNat > (2 ^ 63 - 1) / 8 := by
    have : (sizeLine : Nat) ≤ (2 ^ 63 - 1) / 8 := by decide
    omega
  have hfit : ¬ (!Builtin.List.listFitsIndex k) = true := by
    rw [fitsIndex_both h1 h2]
    exact Bool.false_ne_true
  have hlong : ¬ Builtin.List.listTooLong (its.toArray.size * k.toNat) = true := by
    rw [notLongL hlen]
    exact Bool.false_ne_true
  have hnew : List.foldl (fun x1 x2 => x1 ++ x2) #[] (List.replicate (if its.toArray.isEmpty = true then 0 else k.toNat) its.toArray) = (List.replicate k.toNat its).flatten.toArray := by
    have f0 : ∀ m : Nat, List.foldl (fun x1 x2 => x1 ++ x2) #[] (List.replicate m its.toArray) = (List.replicate m its).flatten.toArray := fun m => by
      have := foldl_rep its m []
      rw [List.nil_append] at this
      exact this
    rw [f0]
    cases its with
    | nil => simp
    | cons a r' => rw [if_neg (by simp)]
  refine wpAny_binaryOp_repeat_ref (T := "list") (U := "int") (by decide) ⟨_, e, rfl⟩ (fun s' => typeIs_int s' k t) noFill_list_mul F.fills_int_mul F.slot_int_rmul repeat_list F.slot_int_index.lookup
    (call_meets F.slot_int_rmul (typeIs_int s k t) F.entry_int_rmul (F.args_int_rmul_2 _ _) (int___rmul___int_list k t l its.toArray n)
      ⟨e, rfl, ⟨_, e, rfl⟩, call_meets F.slot_list_mul ⟨_, e, rfl⟩ F.entry_list_mul (F.args_list_mul_2 _ _) (AutoListH.list___mul___list_int_3 l its.toArray n k t hfit hcap hlong) ⟨e, ?_⟩⟩)
  rw [hnew]
  exact ⟨.ref _, _, I.lnew (t' := s.toks) (r.rep k.toNat) (by rw [len_rep, Nat.mul_comm]; exact hz), rfl, q _ I.fresh⟩
end
section
variable {prog : Program} {w : World} {A : Around} {E : Value → Shared → Prop} {s : Shared}
set_option maxRecDepth 100000 in
end
section
variable {X : Cx}
end
end L2
namespace L2
open PySem PySem.Spec PyProof.Rows
section
variable {κ : Type} [DecidableEq κ]
def valV (kvs : List (κ × V)) (k : κ) : Option V := (kvs.find? fun kv => decide (kv.1 = k)).map (·.2)
def putK (kvs : List (κ × V)) (k : κ) (v : V) : List (κ × V) :=
  if (kvs.any fun kv => decide (kv.1 = k)) = true then kvs.map (fun kv => if kv.1 = k then (kv.1, v) else kv) else kvs ++ [(k, v)]
def dropK (kvs : List (κ × V)) (k : κ) : List (κ × V) := kvs.filter fun kv => decide (kv.1 ≠ k)
theorem valV_pos {p : κ × V} {r : List (κ × V)} {k : κ} (e : p.1 = k) : valV (p :: r) k = some p.2 := by simp [valV, List.find?_cons, e]
theorem valV_neg {p : κ × V} {r : List (κ × V)} {k : κ} (e : ¬ p.1 = k) : valV (p :: r) k = valV r k := by simp [valV, List.find?_cons, e]
theorem valV_any (k : κ) : ∀ kvs : List (κ × V), (kvs.any fun kv => decide (kv.1 = k)) = (valV kvs k).isSome
  | [] => rfl
  | p :: r => by
    rw [List.any_cons]
    by_cases e : p.1 = k
    · simp only [valV_pos e, decide_eq_true e, Bool.true_or, Option.isSome_some]
    · rw [valV_neg e, decide_eq_false e, Bool.false_or]; exact valV_any k r
theorem length_putK (kvs : List (κ × V)) (k : κ) (v : V) : (putK kvs k v).length ≤ kvs.length + 1 := by
  unfold putK
  split
  · rw [List.length_map]; omega
  · rw [List.length_append, List.length_cons, List.length_nil]; omega
theorem putK_new {kvs : List (κ × V)} {k : κ} (v : V) (h : valV kvs k = none) : putK kvs k v = kvs ++ [(k, v)] := by
  unfold putK
  rw [valV_any, h]
  exact if_neg (by decide)
theorem RelO.isSome_eq {o : Option V} {u : Option Value} (r : RelO o u) : o.isSome = u.isSome := by
  cases o with
  | none => cases u with
    | none => rfl
    | some _ => exact (show False from r).elim
  | some _ => cases u with
    | none => exact (show False from r).elim
    | some _ => rfl
theorem RelO.getD {o : Option V} {u : Option Value} {d : V} {d' : Value} (r : RelO o u) (rd : RelV d d') : RelV (o.getD d) (u.getD d') := by
  cases o with
  | none => cases u with
    | none => exact rd
    | some _ => exact (show False from r).elim
  | some _ => cases u with
    | none => exact (show False from r).elim
    | some _ => exact r
theorem KV.val {kvs : List (κ × V)} {vs : List (κ × Value)} (r : KV kvs vs) (k : κ) : RelO (valV kvs k) (valueAt vs k) := by
  unfold KV at r
  induction r with
  | nil => exact True.intro
  | @cons p q ps qs h t ih =>
    obtain ⟨h1, h2⟩ := h
    by_cases e : p.1 = k
    · have e' : q.1 = k := h1.symm.trans e
      have b : valueAt (q :: qs) k = some q.2 := by simp [valueAt, List.find?_cons, e']
      rw [valV_pos e, b]; exact h2
    · have e' : ¬ q.1 = k := fun z => e (h1.trans z)
      have b : valueAt (q :: qs) k = valueAt qs k := by simp [valueAt, List.find?_cons, e']
      rw [valV_neg e, b]; exact ih
theorem KV.any {kvs : List (κ × V)} {vs : List (κ × Value)} (r : KV kvs vs) (k : κ) : (kvs.any fun kv => decide (kv.1 = k)) = vs.any fun kv => decide (kv.1 = k) := by
  unfold KV at r
  induction r with
  | nil => rfl
  | cons h t ih => rw [List.any_cons, List.any_cons, ih, h.1]
theorem KV.repl {kvs : List (κ × V)} {vs : List (κ × Value)} (r : KV kvs vs) (k : κ) {y : V} {u : Value} (ry : RelV y u) :
    KV (kvs.map fun kv => if kv.1 = k then (kv.1, y) else kv) (vs.map fun kv => if kv.1 = k then (kv.1, u) else kv) := by
  unfold KV at r ⊢
  induction r with
  | nil => exact .nil
  | @cons p q ps qs h t ih =>
    rw [List.map_cons, List.map_cons]
    refine .cons ?_ ih
    obtain ⟨h1, h2⟩ := h
    by_cases e : p.1 = k
    · rw [if_pos e, if_pos (h1.symm.trans e)]; exact ⟨h1, ry⟩
    · rw [if_neg e, if_neg (fun z => e (h1.trans z))]; exact ⟨h1, h2⟩
theorem KV.put {kvs : List (κ × V)} {vs : List (κ × Value)} (r : KV kvs vs) (k : κ) {y : V} {u : Value} (ry : RelV y u) : KV (putK kvs k y) (stored vs k u) := by
  unfold putK stored
  rw [r.any k]
  by_cases e : (vs.any fun kv => decide (kv.1 = k)) = true
  · rw [if_pos e, if_pos e]; exact r.repl k ry
  · rw [if_neg e, if_neg e]; exact Paired.snoc r ⟨rfl, ry⟩
theorem KV.drop {kvs : List (κ × V)} {vs : List (κ × Value)} (r : KV kvs vs) (k : κ) : KV (dropK kvs k) (without vs k) := by
  unfold KV at r ⊢
  unfold dropK without
  induction r with
  | nil => exact .nil
  | @cons p q ps qs h t ih =>
    obtain ⟨h1, h2⟩ := h
    rw [List.filter_cons, List.filter_cons]
    by_cases e : p.1 = k
    · have a : ¬ decide (p.1 ≠ k) = true := by simp [e]
      have b : ¬ decide (q.1 ≠ k) = true := by simp [h1.symm.trans e]
      rw [if_neg a, if_neg b]; exact ih
    · have e' : ¬ q.1 = k := fun z => e (h1.trans z)
      have a : decide (p.1 ≠ k) = true := by simp [e]
      have b : decide (q.1 ≠ k) = true := by simp [e']
      rw [if_pos a, if_pos b]; exact .cons ⟨h1, h2⟩ ih
theorem KV.keys {kvs : List (κ × V)} {vs : List (κ × Value)} (r : KV kvs vs) : kvs.map (·.1) = vs.map (·.1) := by
  unfold KV at r
  induction r with
  | nil => rfl
  | cons h t ih => rw [List.map_cons, List.map_cons, ih, h.1]
theorem KV.length {kvs : List (κ × V)} {vs : List (κ × Value)} (r : KV kvs vs) : kvs.length = vs.length := Paired.length r
theorem dropK_le (kvs : List (κ × V)) (k : κ) : (dropK kvs k).length ≤ kvs.length := List.length_filter_le _ _
end
theorem kV_is {P : Program} {w : World} {k : Key} {u : Value} (r : RelV (kV k) u) : (mixKind P w).is k u = true := by
  cases k with
  | inl i => obtain ⟨t, e⟩ := (show ∃ t, u = Value.int i t from r); subst e; exact mixKind_int P w i t
  | inr x => obtain ⟨t, e⟩ := (show ∃ t, u = Value.str x t from r); subst e; exact mixKind_str P w x t
theorem items_are {P : Program} {w : World} : ∀ {ks : List Key} {us : List Value}, Vals (ks.map kV) us → ItemsAre (mixKind P w) ks us
  | [], _, r => by rw [List.map_nil] at r; cases r; exact .nil
  | k :: ks, _, r => by
    rw [List.map_cons] at r
    cases r with
    | cons h t => exact .cons (kV_is h) (items_are t)
abbrev KT (H : Hp) : List (List Key × V) → List (List Key × Addr × Value) → Prop := Paired fun p q => p.1 = q.1 ∧ H q.2.1 = some (.tup (p.1.map kV)) ∧ RelV p.2 q.2.2
theorem KT.val {H : Hp} {kvs : List (List Key × V)} {xs : List (List Key × Addr × Value)} (r : KT H kvs xs) (k : List Key) : RelO (valV kvs k) ((atKey xs k).map (·.2)) := by
  induction r with
  | nil => exact True.intro
  | @cons p q ps qs h t ih =>
    obtain ⟨h1, _, h2⟩ := h
    by_cases e : p.1 = k
    · have e' : q.1 = k := h1.symm.trans e
      have b : atKey (q :: qs) k = some q.2 := by simp [atKey, List.find?_cons, e']
      rw [valV_pos e, b]; exact h2
    · have e' : ¬ q.1 = k := fun z => e (h1.trans z)
      have b : atKey (q :: qs) k = atKey qs k := by simp [atKey, List.find?_cons, e']
      rw [valV_neg e, b]; exact ih
theorem KT.repl {H : Hp} {kvs : List (List Key × V)} {xs : List (List Key × Addr × Value)} (r : KT H kvs xs) (k : List Key) {y : V} {u : Value} (ry : RelV y u) :
    KT H (kvs.map fun kv => if kv.1 = k then (kv.1, y) else kv) (xs.map (putAt k u)) := by
  induction r with
  | nil => exact .nil
  | @cons p q ps qs h t ih =>
    rw [List.map_cons, List.map_cons]
    refine .cons ?_ ih
    obtain ⟨h1, h2, h3⟩ := h
    unfold putAt
    by_cases e : p.1 = k
    · rw [if_pos e, if_pos (h1.symm.trans e)]; exact ⟨h1, h2, ry⟩
    · rw [if_neg e, if_neg (fun z => e (h1.trans z))]; exact ⟨h1, h2, h3⟩
theorem KT.put {H : Hp} {kvs : List (List Key × V)} {xs : List (List Key × Addr × Value)} (r : KT H kvs xs) (k : List Key) {b : Addr} {y : V} {u : Value} (hb : H b = some (.tup (k.map kV))) (ry : RelV y u) :
    KT H (putK kvs k y) (storedH xs k b u) := by
  have e : (kvs.any fun kv => decide (kv.1 = k)) = (atKey xs k).isSome := by
    rw [valV_any, (r.val k).isSome_eq, Option.isSome_map]
  unfold putK storedH
  rw [e]
  by_cases q : (atKey xs k).isSome = true
  · rw [if_pos q, if_pos q]; exact r.repl k ry
  · rw [if_neg q, if_neg q]; exact Paired.snoc r ⟨rfl, hb, ry⟩
theorem KT.keeps {H H' : Hp} {kvs : List (List Key × V)} {xs : List (List Key × Addr × Value)} (r : KT H kvs xs) (ht : ∀ b ys, H b = some (.tup ys) → H' b = some (.tup ys)) : KT H' kvs xs :=
  Paired.mapP r fun _ _ z => ⟨z.1, ht _ _ z.2.1, z.2.2⟩
section
variable {P : Program} {w : World} {H : Hp} {h : Heap} {a : Addr}
theorem rd_of {u : HO} (ok : HOk P w H h) (e : Rd H a u) : ObjOk P w H h a u := e.ok ok
theorem dk_rd {kvs : List (Key × V)} (ok : HOk P w H h) (e : Rd H a (.dK kvs)) : kvs.length ≤ sizeLine ∧ (a == sysModules) = false ∧ ∃ vs, KV kvs vs ∧ h.DictOf (mixKind P w) a vs :=
  show ObjOk P w H h a (.dK kvs) from rd_of ok e
theorem dk_of {kvs : List (Key × V)} (ok : HOk P w H h) (e : H a = some (.dK kvs)) : kvs.length ≤ sizeLine ∧ (a == sysModules) = false ∧ ∃ vs, KV kvs vs ∧ h.DictOf (mixKind P w) a vs := dk_rd ok (.inl e)
theorem key_of {ks : List Key} (ok : HOk P w H h) (e : H a = some (.tup (ks.map kV))) : (tupleKind (mixKind P w)).is h ks a := by
  obtain ⟨_, its, r, o, h1, h2, n, h3⟩ := (show ObjOk P w H h a (.tup (ks.map kV)) from ok a _ e)
  exact ⟨o, its.toArray, n, h1, h2, h3, by simpa using items_are r⟩
theorem dt_rd {kvs : List (List Key × V)} (ok : HOk P w H h) (e : Rd H a (.dT kvs)) : kvs.length ≤ sizeLine ∧ (a == sysModules) = false ∧
    ∃ xs, KT H kvs xs ∧ h.DictOfH (tupleKind (mixKind P w)) a xs := by
  obtain ⟨z, y, xs, r, o, es, ep, h1, h2, h3, h4, h5⟩ := (show ObjOk P w H h a (.dT kvs) from rd_of ok e)
  refine ⟨z, y, xs, r, o, es, ep, h1, h2, h3, h4, fun x hx => ?_, h5⟩
  have all : ∀ {l : List (List Key × V)} {m : List (List Key × Addr × Value)}, KT H l m → ∀ x ∈ m, (tupleKind (mixKind P w)).is h x.1 x.2.1 := by
    intro l m q
    induction q with
    | nil => intro x hx; exact nomatch hx
    | @cons p q ps qs hq t ih =>
      intro x hx
      rcases List.mem_cons.mp hx with e | hx
      · subst e
        exact key_of ok (by rw [← hq.1]; exact hq.2.1)
      · exact ih x hx
  exact all r x hx
theorem dt_of {kvs : List (List Key × V)} (ok : HOk P w H h) (e : H a = some (.dT kvs)) : kvs.length ≤ sizeLine ∧ (a == sysModules) = false ∧
    ∃ xs, KT H kvs xs ∧ h.DictOfH (tupleKind (mixKind P w)) a xs := dt_rd ok (.inl e)
end
def DGet (H : Hp) (a : Addr) (y : V) (r : Option V) : Prop :=
  (∃ kvs k, Rd H a (.dK kvs) ∧ y = kV k ∧ r = valV kvs k) ∨ ∃ kvs k b, Rd H a (.dT kvs) ∧ y = .ref b ∧ H b = some (.tup (k.map kV)) ∧ r = valV kvs k
def DPut (H : Hp) (a : Addr) (y v : V) (H' : Hp) : Prop :=
  (∃ kvs k, H a = some (.dK kvs) ∧ y = kV k ∧ kvs.length < sizeLine ∧ H' = upd H a (.dK (putK kvs k v))) ∨
  ∃ kvs k b, H a = some (.dT kvs) ∧ y = .ref b ∧ H b = some (.tup (k.map kV)) ∧ kvs.length < sizeLine ∧ H' = upd H a (.dT (putK kvs k v))
theorem DGet.k {H : Hp} {a : Addr} {kvs : List (Key × V)} {k : Key} (e : H a = some (.dK kvs)) : DGet H a (kV k) (valV kvs k) := .inl ⟨kvs, k, .inl e, rfl, rfl⟩
theorem DGet.t {H : Hp} {a b : Addr} {kvs : List (List Key × V)} {k : List Key} (e : H a = some (.dT kvs)) (eb : H b = some (.tup (k.map kV))) : DGet H a (.ref b) (valV kvs k) := .inr ⟨kvs, k, b, .inl e, rfl, eb, rfl⟩
theorem DPut.k {H : Hp} {a : Addr} {kvs : List (Key × V)} {k : Key} {v : V} (e : H a = some (.dK kvs)) (hl : kvs.length < sizeLine) : DPut H a (kV k) v (upd H a (.dK (putK kvs k v))) := .inl ⟨kvs, k, e, rfl, hl, rfl⟩
theorem DPut.t {H : Hp} {a b : Addr} {kvs : List (List Key × V)} {k : List Key} {v : V} (e : H a = some (.dT kvs)) (eb : H b = some (.tup (k.map kV))) (hl : kvs.length < sizeLine) :
    DPut H a (.ref b) v (upd H a (.dT (putK kvs k v))) := .inr ⟨kvs, k, b, e, rfl, eb, hl, rfl⟩
section
variable {X : Cx} {pins : List (Addr × Obj)} {σ : St} {H : Hp} {s : Shared} {a : Addr} {y v : V} {u r : Value} {o : Option V} {A : Around} {E : Value → Shared → Prop}
theorem Inv.big (I : Inv X pins σ H s) : sysModules < s.heap.objs.size := by
  have h : mainGlobals < s.heap.objs.size := (I.mod.glob.keeps I.bk).lt
  exact Nat.lt_trans (by decide) h
theorem d_getItem {Q : Value → Shared → Prop} (hu : A.units + 1 < cLine) (I : Inv X pins σ H s) (g : DGet H a y (some v)) (ry : RelV y u) (h : ∀ w' s', Inv X pins σ H s' → RelV v w' → Q w' s') :
    wpAny (model X.prog X.w) A (getItem (.ref a) u) Q E s := by
  rcases g with ⟨kvs, k, e, ey, l⟩ | ⟨kvs, k, b, e, ey, eb, l⟩
  · subst ey
    obtain ⟨z, hd, vs, rel, dd⟩ := dk_rd I.hok e
    obtain ⟨w', hw, rw'⟩ := RelO.some_of (v := v) (o := valueAt vs k) (by rw [l]; exact rel.val k)
    exact wpAny_getItem_of (kV_is ry) dd.mapOf hw (h w' _ (I.tok _) rw')
  · subst ey
    cases (show u = Value.ref b from ry)
    obtain ⟨z, hd, xs, rel, dd⟩ := dt_rd I.hok e
    obtain ⟨w', hw, rw'⟩ := RelO.some_of (v := v) (o := (atKey xs k).map (·.2)) (by rw [l]; exact rel.val k)
    obtain ⟨p, hp, hp2⟩ := Option.map_eq_some_iff.mp hw
    refine wpAny_getItem_heap (tupleKind_room_in1 hu) (key_of I.hok eb) dd hp ?_
    rw [hp2]
    exact h w' _ (I.tok _) rw'
theorem d_in {Q : Value → Shared → Prop} (hu : A.units + 1 < cLine) (I : Inv X pins σ H s) (g : DGet H a y o) (ry : RelV y u) (h : ∀ s', Inv X pins σ H s' → Q (.bool o.isSome) s') :
    wpAny (model X.prog X.w) A (compareOp .In u (.ref a)) Q E s := by
  rcases g with ⟨kvs, k, e, ey, l⟩ | ⟨kvs, k, b, e, ey, eb, l⟩
  · subst ey
    obtain ⟨z, hd, vs, rel, dd⟩ := dk_rd I.hok e
    refine wpAny_in_of (kV_is ry) hd dd.mapOf ?_
    rw [← (rel.val k).isSome_eq, ← l]
    exact h _ (I.tok _)
  · subst ey
    cases (show u = Value.ref b from ry)
    obtain ⟨z, hd, xs, rel, dd⟩ := dt_rd I.hok e
    refine wpAny_in_heap (tupleKind_room_in1 hu) (key_of I.hok eb) hd dd ?_
    have q := (rel.val k).isSome_eq
    rw [Option.isSome_map] at q
    rw [← q, ← l]
    exact h _ (I.tok _)
theorem d_notIn {Q : Value → Shared → Prop} (hu : A.units + 1 < cLine) (I : Inv X pins σ H s) (g : DGet H a y o) (ry : RelV y u) (h : ∀ s', Inv X pins σ H s' → Q (.bool (!o.isSome)) s') :
    wpAny (model X.prog X.w) A (compareOp .NotIn u (.ref a)) Q E s := by
  rcases g with ⟨kvs, k, e, ey, l⟩ | ⟨kvs, k, b, e, ey, eb, l⟩
  · subst ey
    obtain ⟨z, hd, vs, rel, dd⟩ := dk_rd I.hok e
    refine wpAny_notIn_of (kV_is ry) hd dd.mapOf ?_
    rw [← (rel.val k).isSome_eq, ← l]
    exact h _ (I.tok _)
  · subst ey
    cases (show u = Value.ref b from ry)
    obtain ⟨z, hd, xs, rel, dd⟩ := dt_rd I.hok e
    refine wpAny_notIn_heap (tupleKind_room_in1 hu) (key_of I.hok eb) hd dd ?_
    have q := (rel.val k).isSome_eq
    rw [Option.isSome_map] at q
    rw [← q, ← l]
    exact h _ (I.tok _)
theorem d_write {h' : Heap} {t' : Nat} {ob : HO} (I : Inv X pins σ H s) (mu : Mut (H a)) (hs : Heap.SameBut a s.heap h') (he : ∃ q, h'.get? a = some q) (new : ObjOk X.prog X.w (upd H a ob) h' a ob) :
    Inv X pins σ (upd H a ob) { s with heap := h', toks := t' } :=
  I.write (x := a) (e := a) mu (.inl rfl) (fun b q hb z => (hs.2 b hb).trans z) he new
theorem dk_new {P : Program} {w : World} {H' : Hp} {h' : Heap} {kvs : List (Key × V)} {vs : List (Key × Value)} (z : kvs.length ≤ sizeLine) (hd : (a == sysModules) = false) (rel : KV kvs vs) (dd : h'.DictOf (mixKind P w) a vs) :
    ObjOk P w H' h' a (.dK kvs) := ⟨z, hd, vs, rel, dd⟩
theorem d_setItem {H' : Hp} {Q : Unit → Shared → Prop} (hu : A.units + 1 < cLine) (I : Inv X pins σ H s) (g : DPut H a y v H') (ry : RelV y u) (rv : RelV v r) (h : ∀ s', Inv X pins σ H' s' → Q () s') :
    wpAny (model X.prog X.w) A (setItem (.ref a) u r) Q E s := by
  rcases g with ⟨kvs, k, e, ey, l, eH⟩ | ⟨kvs, k, b, e, ey, eb, l, eH⟩
  · subst ey eH
    obtain ⟨z, hd, vs, rel, dd⟩ := dk_of I.hok e
    have hz : vs.length ≤ sizeLine := by rw [← rel.length]; exact z
    have hl : (putK kvs k v).length ≤ sizeLine := by have := length_putK kvs k v; omega
    refine wpAny_setItem_pairs (hsz := hz) (kV_is ry) dd fun h' dd' hs => h _ ?_
    have he : ∃ q, h'.get? a = some q := let ⟨q, _, _, hq, _⟩ := dd'; ⟨q, hq⟩
    exact d_write I (by rw [e]; exact True.intro) hs he (dk_new hl hd (rel.put k rv) dd')
  · subst ey eH
    cases (show u = Value.ref b from ry)
    obtain ⟨z, hd, xs, rel, dd⟩ := dt_of I.hok e
    have hz : xs.length ≤ sizeLine := by rw [← Paired.length rel]; exact z
    have hl : (putK kvs k v).length ≤ sizeLine := by have := length_putK kvs k v; omega
    refine wpAny_setItem_heap (hsz := hz) (tupleKind_room_in1 hu) (key_of I.hok eb) dd fun h' dd' hs => h _ ?_
    obtain ⟨q, es, ep, hq, h2, h3, h4, _, h5⟩ := dd'
    refine d_write I (by rw [e]; exact True.intro) hs ⟨q, hq⟩ ⟨hl, hd, _, (rel.put k eb rv).keeps fun c ys ec => ?_, q, es, ep, hq, h2, h3, h4, h5⟩
    rw [upd_ne (ne_of ec e (fun z => nomatch z))]
    exact ec
end
section
variable {X : Cx} {pins : List (Addr × Obj)} {σ : St} {H : Hp} {s : Shared} {a : Addr} {kvs : List (Key × V)} {k : Key} {u : Value} {A : Around} {E : Value → Shared → Prop}
theorem d_delItem {Q : Unit → Shared → Prop} (I : Inv X pins σ H s) (e : H a = some (.dK kvs)) (ry : RelV (kV k) u) (l : (valV kvs k).isSome = true) (h : ∀ s', Inv X pins σ (upd H a (.dK (dropK kvs k))) s' → Q () s') :
    wpAny (model X.prog X.w) A (delItem (.ref a) u) Q E s := by
  obtain ⟨z, hd, vs, rel, dd⟩ := dk_of I.hok e
  refine wpAny_delItem_slot dd.typeIs (by decide) PySem.F.slot_dict_delitem
    (call_meetsIn PySem.F.slot_dict_delitem dd.typeIs PySem.F.entry_dict_delitem (PySem.F.args_dict_delitem_2 _ _) (meets_dict_delitem_pairs (mixKind X.prog X.w) a (kV_is ry)) ⟨vs, dd, by rw [← rel.length]; exact z, by rw [← (rel.val k).isSome_eq]; exact l, fun h' dd' hs => h _ ?_⟩)
  have he : ∃ q, h'.get? a = some q := let ⟨q, _, _, hq, _⟩ := dd'; ⟨q, hq⟩
  exact d_write I (by rw [e]; exact True.intro) hs he (dk_new (Nat.le_trans (dropK_le kvs k) z) hd (rel.drop k) dd')
theorem d_pop {v : V} {more : List Value} {Q : Value → Shared → Prop} (I : Inv X pins σ H s) (e : H a = some (.dK kvs)) (ry : RelV (kV k) u) (l : valV kvs k = some v) (hm : more = [] ∨ ∃ x, more = [x])
    (h : ∀ w' s', Inv X pins σ (upd H a (.dK (dropK kvs k))) s' → RelV v w' → Q w' s') : wpAny (model X.prog X.w) A (call (.builtin "dict.pop") (.ref a :: u :: more)) Q E s := by
  obtain ⟨z, hd, vs, rel, dd⟩ := dk_of I.hok e
  obtain ⟨w', hw, rw'⟩ := RelO.some_of (v := v) (o := valueAt vs k) (by rw [← l]; exact rel.val k)
  have hp : (keyPart u).isSome = true := by
    cases k with
    | inl i => obtain ⟨t, q⟩ := (show ∃ t, u = Value.int i t from ry); subst q; rfl
    | inr x => obtain ⟨t, q⟩ := (show ∃ t, u = Value.str x t from ry); subst q; rfl
  have ha : argsOk "dict.pop" ⟨.ref a :: u :: more, []⟩ := by
    rcases hm with q | ⟨x, q⟩
    · subst q; exact PySem.F.args_dict_pop_2 _ _
    · subst q; exact PySem.F.args_dict_pop_3 _ _ _
  refine call_meetsIn PySem.F.slot_dict_pop dd.typeIs PySem.F.entry_dict_pop ha (meets_dict_pop_there (mixKind X.prog X.w) a (kV_is ry) more hm hp)
    ⟨vs, w', dd, by rw [← rel.length]; exact z, hw, fun h' dd' hs => h w' _ ?_ rw'⟩
  have he : ∃ q, h'.get? a = some q := let ⟨q, _, _, hq, _⟩ := dd'; ⟨q, hq⟩
  exact d_write I (by rw [e]; exact True.intro) hs he (dk_new (Nat.le_trans (dropK_le kvs k) z) hd (rel.drop k) dd')
theorem d_len {Q : Value → Shared → Prop} (I : Inv X pins σ H s) (e : Rd H a (.dK kvs)) (h : ∀ t s', Inv X pins σ H s' → Q (.int kvs.length t) s') : wpAny (model X.prog X.w) A (call (.builtin "len") [.ref a]) Q E s := by
  obtain ⟨z, hd, vs, rel, dd⟩ := dk_rd I.hok e
  refine call_len_dict hd dd (by rw [← rel.length]; rw [sizeLine_eq] at z; omega) ?_
  rw [← rel.length]
  exact h _ _ (I.tok _)
end
def NoSl (i : Expr) : Prop := ∀ ov iv, subscripted i false ov iv = operate [ov, iv] (getItem ov iv)
theorem subD_of {prog : Program} {w : World} {A : Around} {E : Value → Shared → Prop} {s : Shared} {env : Env} {value slice : Expr} {pos : Pos} {T id : String} {Q : Value → Shared → Prop}
    (hl : typeLookup (.type T) "__getitem__" = pure (some (.builtin id))) (hs : NoSl slice)
    (h : wpAny (model prog w) A (eval value env) (fun o s₁ => wpAny (model prog w) A (eval slice env) (fun i s₂ => s₂.TypeIs o T ∧ wpAny (model prog w) A (getItem o i) Q E s₂) E s₁) E s) :
    wpAny (model prog w) A (eval (.Subscript value slice pos) env) Q E s := by
  refine Subscript_ (wpAny_mono h (fun o s₁ h₁ => wpAny_mono h₁ (fun i s₂ h₂ => ?_) fun _ _ x => x) fun _ _ x => x)
  obtain ⟨hT, h₂⟩ := h₂
  unfold subscriptTail
  refine wpAny_bind ?_
  rw [getitemInPython_of_ne hT.not_modules]
  refine wpAny_bind (wpAny_specialOf hT hl ?_)
  have fin : wpAny (model prog w) A (subscripted slice false o i) (fun r s₃ => wpAny (model prog w) A (letTemporaryGo value o r >>= fun _ => pure r) Q E s₃) E s₂ := by
    rw [hs o i]
    exact wpAny_operating (wpAny_mono h₂ (fun r s₃ h₃ => wpAny_bind (wpAny_letTemporaryGo (wpAny_pure h₃))) fun _ _ x => x)
  first
    | exact wpAny_pure (wpAny_bind fin)
    | exact wpAny_bind (wpAny_pure (wpAny_bind fin))
    | exact wpAny_bind fin
theorem dict_typeIs {X : Cx} {pins : List (Addr × Obj)} {σ : St} {H : Hp} {s : Shared} {a : Addr} {y : V} {o : Option V} (I : Inv X pins σ H s) (g : DGet H a y o) : s.TypeIs (.ref a) "dict" := by
  rcases g with ⟨kvs, k, e, _, _⟩ | ⟨kvs, k, b, e, _, _, _⟩
  · obtain ⟨_, _, vs, _, dd⟩ := dk_rd I.hok e
    exact dd.typeIs
  · obtain ⟨_, _, xs, _, dd⟩ := dt_rd I.hok e
    exact dd.typeIs
def tDGet (td ty : TE) : TE := fun σ H Q => td σ H fun x H1 => ty σ H1 fun y H2 => ∃ a v, x = .ref a ∧ DGet H2 a y (some v) ∧ Q v H2
def tDIn (ty td : TE) : TE := fun σ H Q => ty σ H fun y H1 => td σ H1 fun x H2 => ∃ a o, x = .ref a ∧ DGet H2 a y o ∧ Q (.bl o.isSome) H2
def tDNotIn (ty td : TE) : TE := fun σ H Q => ty σ H fun y H1 => td σ H1 fun x H2 => ∃ a o, x = .ref a ∧ DGet H2 a y o ∧ Q (.bl (!o.isSome)) H2
def sDPut (td ty tv : TE) : TS := fun D σ H => tv σ H fun v H1 => td σ H1 fun x H2 => ty σ H2 fun y H3 => ∃ a H4, x = .ref a ∧ DPut H3 a y v H4 ∧ D.nx σ H4
def sDDel (td ty : TE) : TS := fun D σ H => td σ H fun x H1 => ty σ H1 fun y H2 => ∃ a kvs k, x = .ref a ∧ H2 a = some (.dK kvs) ∧ y = kV k ∧ (valV kvs k).isSome = true ∧ D.nx σ (upd H2 a (.dK (dropK kvs k)))
section
variable {X : Cx} {o i e value : Expr} {pos pos' tpos : Pos} {td ty tv : TE}
theorem pe_dget (hu : X.A.units + 1 < cLine) (ho : PE X o td) (hi : PE X i ty) (hs : NoSl i) : PE X (.Subscript o i pos) (tDGet td ty) := by
  intro pins s σ H Q I h
  refine subD_of PySem.F.slot_dict_getitem.lookup hs (thn (ho pins s σ H _ I h) fun u s1 ⟨x, H1, I1, rx, q1⟩ => thn (hi pins s1 σ H1 _ I1 q1) fun iv s2 ⟨y, H2, I2, ry, a, v, ex, g, q2⟩ => ?_)
  subst ex
  obtain rfl : u = Value.ref a := rx
  exact ⟨dict_typeIs I2 g, d_getItem hu I2 g ry fun w' s3 I3 rw' => ⟨v, H2, I3, rw', q2⟩⟩
theorem pc_din (hu : X.A.units + 1 < cLine) (hi : PE X i ty) (ho : PE X o td) : PC X .In i o (tDIn ty td) := by
  intro pins s σ H Q I h
  refine thn (hi pins s σ H _ I h) fun iv s1 ⟨y, H1, I1, ry, q1⟩ => thn (ho pins s1 σ H1 _ I1 q1) fun u s2 ⟨x, H2, I2, rx, a, ov, ex, g, q2⟩ => ?_
  subst ex
  obtain rfl : u = Value.ref a := rx
  exact d_in hu I2 g ry fun s3 I3 => ⟨.bl ov.isSome, H2, I3, rfl, q2⟩
theorem pc_dnotin (hu : X.A.units + 1 < cLine) (hi : PE X i ty) (ho : PE X o td) : PC X .NotIn i o (tDNotIn ty td) := by
  intro pins s σ H Q I h
  refine thn (hi pins s σ H _ I h) fun iv s1 ⟨y, H1, I1, ry, q1⟩ => thn (ho pins s1 σ H1 _ I1 q1) fun u s2 ⟨x, H2, I2, rx, a, ov, ex, g, q2⟩ => ?_
  subst ex
  obtain rfl : u = Value.ref a := rx
  exact d_notIn hu I2 g ry fun s3 I3 => ⟨.bl (!ov.isSome), H2, I3, rfl, q2⟩
theorem ps_dput (hu : X.A.units + 1 < cLine) (ho : PE X o td) (hi : PE X i ty) (hv : PE X value tv) (hs : swapsWith value (some (.Subscript o i pos')) pos.line X.env = pure false) :
    PS X (.Assign [.Subscript o i pos'] value pos) (sDPut td ty tv) := by
  intro pins s σ H D I h
  refine wpAny_Assign_Subscript (thn (hv pins s σ H _ I h) fun r s1 ⟨v, H1, I1, rv, q1⟩ => thn (ho pins s1 σ H1 _ I1 q1) fun u s2 ⟨x, H2, I2, rx, q2⟩ => thn (hi pins s2 σ H2 _ I2 q2) fun iv s3 ⟨y, H3, I3, ry, a, H4, ex, g, q3⟩ => ?_) hs
  subst ex
  obtain rfl : u = Value.ref a := rx
  exact d_setItem hu I3 g ry rv fun s4 I4 => ⟨σ, H4, I4, q3⟩
theorem ps_ddel (ho : PE X o td) (hi : PE X i ty) : PS X (.Delete [.Subscript o i tpos] pos) (sDDel td ty) := by
  intro pins s σ H D I h
  refine wpAny_Delete (wpAny_deleteEach_cons (wpAny_delete_Subscript (thn (ho pins s σ H _ I h) fun u s1 ⟨x, H1, I1, rx, q1⟩ => thn (hi pins s1 σ H1 _ I1 q1) fun iv s2 ⟨y, H2, I2, ry, a, kvs, k, ex, e, ey, l, q2⟩ => ?_)))
  subst ex ey
  obtain rfl : u = Value.ref a := rx
  exact d_delItem I2 e ry l fun s3 I3 => wpAny_deleteEach_nil ⟨σ, _, I3, q2⟩
end
theorem dk_empty {P : Program} {w : World} {H : Hp} (h : Heap) (hb : sysModules < h.objs.size) : ObjOk P w H (h.push { cls := .type "dict", data := .dict #[] }) h.objs.size (.dK []) :=
  ⟨Nat.zero_le _, beq_eq_false_iff_ne.mpr (Ne.symm (Nat.ne_of_lt hb)), [], .nil, Heap.DictOf.new h⟩
def tDNewK : TE := fun _ H Q => ∀ p, H p = none → Q (.ref p) (upd H p (.dK []))
section
variable {X : Cx} {pos : Pos}
theorem pe_dnewK : PE X (.Dict [] [] pos) tDNewK := fun pins s σ H Q I h =>
  wpAny_Dict_empty ⟨.ref s.heap.objs.size, _, I.laid (a := s.heap.objs.size) (o := .dK []) (t' := s.toks) (fun _ _ q => Heap.get?_push_of_some _ q) (Nat.le_refl _) (dk_empty s.heap I.big), rfl, h _ (I.hok.fresh (Nat.le_refl _))⟩
end
def tPairs : List (TE × TE) → St → Hp → (List (V × V) → Hp → Prop) → Prop
  | [], _, H, Q => Q [] H
  | (tk, tv) :: r, σ, H, Q => tk σ H fun x H1 => tv σ H1 fun y H2 => tPairs r σ H2 fun ps H3 => Q ((x, y) :: ps) H3
abbrev VV : List (V × V) → List (Value × Value) → Prop := Paired fun p q => RelV p.1 q.1 ∧ RelV p.2 q.2
def PPs (X : Cx) (pos : Pos) (keys : List (Option Expr)) (values : List Expr) (trs : List (TE × TE)) : Prop :=
  ∀ (pins : List (Addr × Obj)) (s : Shared) (σ : St) (H : Hp) (Q : List (V × V) → Hp → Prop), Inv X pins σ H s → tPairs trs σ H Q →
    wpAny (model X.prog X.w) X.A (evalPairs (pairTrees keys values X.env pos)) (fun vs s' => ∃ ps H', Inv X pins σ H' s' ∧ VV ps vs ∧ Q ps H') X.xe s
theorem pps_nil {X : Cx} {pos : Pos} : PPs X pos [] [] [] := fun pins s σ H Q I h => pairTrees_nil_walk ⟨[], H, I, .nil, h⟩
theorem pps_cons {X : Cx} {pos : Pos} {k v : Expr} {ks : List (Option Expr)} {vs : List Expr} {tk tv : TE} {trs : List (TE × TE)} (hk : PE X k tk) (hv : PE X v tv) (hr : PPs X pos ks vs trs) :
    PPs X pos (some k :: ks) (v :: vs) ((tk, tv) :: trs) := fun pins s σ H Q I h =>
  pairTrees_cons_walk (thn (hk pins s σ H _ I h) fun u s1 ⟨x, H1, I1, rx, q1⟩ => thn (hv pins s1 σ H1 _ I1 q1) fun w2 s2 ⟨y, H2, I2, ry, q2⟩ =>
    thn (hr pins s2 σ H2 _ I2 q2) fun ws s3 ⟨ps, H3, I3, rel, q3⟩ => ⟨(x, y) :: ps, H3, I3, .cons ⟨rx, ry⟩ rel, q3⟩)
def mergeK (kvs more : List (Key × V)) : List (Key × V) := more.foldl (fun acc kv => putK acc kv.1 kv.2) kvs
theorem KV.merge : ∀ {more : List (Key × V)} {rs : List (Key × Value)} {kvs : List (Key × V)} {vs : List (Key × Value)}, KV more rs → KV kvs vs → KV (mergeK kvs more) (merged vs rs) := by
  intro more rs kvs vs r
  unfold KV at r
  induction r generalizing kvs vs with
  | nil => intro q; exact q
  | @cons p q ps qs h t ih =>
    intro r0
    have e : KV (putK kvs p.1 p.2) (stored vs q.1 q.2) := by
      have := r0.put p.1 h.2
      rw [← h.1]; exact this
    exact ih e
theorem length_mergeK : ∀ (more kvs : List (Key × V)), (mergeK kvs more).length ≤ kvs.length + more.length
  | [], kvs => by show kvs.length ≤ kvs.length + 0; omega
  | p :: r, kvs => by
    have h1 := length_mergeK r (putK kvs p.1 p.2)
    have h2 := length_putK kvs p.1 p.2
    show (mergeK (putK kvs p.1 p.2) r).length ≤ _
    rw [List.length_cons]; omega
theorem carries_of {P : Program} {w : World} : ∀ {kvs : List (Key × V)} {ws : List (Value × Value)}, VV (kvs.map fun kv => (kV kv.1, kv.2)) ws → ∃ rs, Carries (mixKind P w) ws rs ∧ KV kvs rs
  | [], _, r => by rw [List.map_nil] at r; cases r; exact ⟨[], True.intro, .nil⟩
  | p :: kvs, _, r => by
    rw [List.map_cons] at r
    cases r with
    | @cons a b as bs h t =>
      obtain ⟨rs, c, q⟩ := carries_of (P := P) (w := w) t
      obtain ⟨b1, b2⟩ := b
      exact ⟨(p.1, b2) :: rs, ⟨kV_is h.1, rfl, c⟩, .cons ⟨rfl, h.2⟩ q⟩
def tDisp (trs : List (TE × TE)) : TE := fun σ H Q => ∀ p, H p = none → tPairs trs σ (upd H p (.dK [])) fun ps H2 => H2 p = some (.dK []) ∧ ∃ kvs : List (Key × V), ps = kvs.map (fun kv => (kV kv.1, kv.2)) ∧ kvs.length ≤ 15 ∧ Q (.ref p) (upd H2 p (.dK (mergeK [] kvs)))
theorem pe_disp {X : Cx} {pos : Pos} {keys : List (Option Expr)} {values : List Expr} {trs : List (TE × TE)} (h : PPs X pos keys values trs) (hall : keys.all (·.isSome) = true) (hl : keys.length = values.length) (h0 : keys ≠ [])
    (h15 : keys.length ≤ 15) : PE X (.Dict keys values pos) (tDisp trs) := by
  intro pins s σ H Q I q
  have hn := I.hok.fresh (Nat.le_refl s.heap.objs.size)
  have I1 := I.laid (a := s.heap.objs.size) (o := .dK []) (h' := s.heap.push { cls := .type "dict", data := .dict #[] }) (t' := s.toks) (fun _ _ q => Heap.get?_push_of_some _ q) (Nat.le_refl _) (dk_empty s.heap I.big)
  refine wpAny_Dict_walk (knd := mixKind X.prog X.w) hall hl h0 h15 (thn (h pins _ σ _ _ I1 (q _ hn)) fun ws s2 ⟨ps, H2, I2, rel, e, kvs, ep, lk, q2⟩ => ?_)
  subst ep
  obtain ⟨rs, c, rk⟩ := carries_of (P := X.prog) (w := X.w) rel
  obtain ⟨z, hd, vs0, r0, dd⟩ := dk_of I2.hok e
  cases r0
  refine ⟨rs, c, dd, fun h' dd' hs => ⟨.ref s.heap.objs.size, _, ?_, rfl, q2⟩⟩
  have hz : (mergeK [] kvs).length ≤ sizeLine := by
    have h1 := length_mergeK kvs []
    rw [List.length_nil] at h1
    rw [sizeLine_eq]; omega
  have he : ∃ q, h'.get? s.heap.objs.size = some q := let ⟨q, _, _, hq, _⟩ := dd'; ⟨q, hq⟩
  exact d_write I2 (by rw [e]; exact True.intro) hs he (dk_new hz hd (rk.merge .nil) dd')
structure M1 (X : Cx) (o : Expr) (m : Str) (apos : Pos) (e : Expr) (cpos : Pos) : Prop where
  base : attributeBase o m X.env (eval o X.env) = eval o X.env
  few : ((backTo cpos (starEach [e] X.env)).all (fun x => !x.1) && (backToKw cpos (keywordEach [] X.env)).all (fun x => x.1.isSome)
    && decide (([e] : List Expr).length + ([] : List Keyword).length + (if ([] : List Keyword).isEmpty then 0 else 1) < 30)) = true
  line : (apos.endLine == cpos.line) = true
  trees : backTo cpos (starEach [e] X.env) = [(false, eval e X.env)]
structure M2 (X : Cx) (o : Expr) (m : Str) (apos : Pos) (e f : Expr) (cpos : Pos) : Prop where
  base : attributeBase o m X.env (eval o X.env) = eval o X.env
  few : ((backTo cpos (starEach [e, f] X.env)).all (fun x => !x.1) && (backToKw cpos (keywordEach [] X.env)).all (fun x => x.1.isSome)
    && decide (([e, f] : List Expr).length + ([] : List Keyword).length + (if ([] : List Keyword).isEmpty then 0 else 1) < 30)) = true
  line : (apos.endLine == cpos.line) = true
  trees : backTo cpos (starEach [e, f] X.env) = [(false, eval e X.env), (false, eval f X.env)]
def IsD (H : Hp) (a : Addr) : Prop := (∃ kvs, Rd H a (.dK kvs)) ∨ ∃ kvs, Rd H a (.dT kvs)
theorem isD_at {X : Cx} {pins : List (Addr × Obj)} {σ : St} {H : Hp} {s : Shared} {a : Addr} (I : Inv X pins σ H s) (d : IsD H a) :
    s.TypeIs (.ref a) "dict" ∧ (∀ b, Value.ref a = .ref b → ∃ ob, s.heap.get? b = some ob ∧ ob.dict = none) ∧ (a == sysModules) = false := by
  rcases d with ⟨kvs, e⟩ | ⟨kvs, e⟩
  · obtain ⟨_, hd, vs, _, dd⟩ := dk_rd I.hok e
    refine ⟨dd.typeIs, fun b q => ?_, hd⟩
    cases q
    obtain ⟨ob, _, _, h1, h2, _⟩ := dd
    exact ⟨ob, h1, h2.2.1⟩
  · obtain ⟨_, hd, xs, _, dd⟩ := dt_rd I.hok e
    refine ⟨dd.typeIs, fun b q => ?_, hd⟩
    cases q
    obtain ⟨ob, _, _, h1, h2, _⟩ := dd
    exact ⟨ob, h1, h2.2.1⟩
section
variable {X : Cx} {pins : List (Addr × Obj)} {σ : St} {H : Hp} {s : Shared} {a : Addr} {y d : V} {u r : Value} {o : Option V} {A : Around} {E : Value → Shared → Prop}
theorem d_get2 {Q : Value → Shared → Prop} (hu : A.units + 1 < cLine) (I : Inv X pins σ H s) (g : DGet H a y o) (ry : RelV y u) (rd : RelV d r) (h : ∀ w' s', Inv X pins σ H s' → RelV (o.getD d) w' → Q w' s') :
    wpAny (model X.prog X.w) A (call (.builtin "dict.get") [.ref a, u, r]) Q E s := by
  rcases g with ⟨kvs, k, e, ey, l⟩ | ⟨kvs, k, b, e, ey, eb, l⟩
  · subst ey
    obtain ⟨z, hd, vs, rel, dd⟩ := dk_rd I.hok e
    refine call_meetsIn PySem.F.slot_dict_get dd.typeIs PySem.F.entry_dict_get (PySem.F.args_dict_get_3 _ _ _) (meets_dict_get_default (mixKind X.prog X.w) a (kV_is ry) hd r) ⟨_, dd.mapOf, h _ _ (I.tok _) ?_⟩
    rw [l]
    exact (rel.val k).getD rd
  · subst ey
    cases (show u = Value.ref b from ry)
    obtain ⟨z, hd, xs, rel, dd⟩ := dt_rd I.hok e
    refine call_meetsIn PySem.F.slot_dict_get dd.typeIs PySem.F.entry_dict_get (PySem.F.args_dict_get_3 _ _ _) (meetsH_dict_get_default (tupleKind (mixKind X.prog X.w)) a b hd r) ⟨tupleKind_room_in1 hu, k, xs, key_of I.hok eb, dd, h _ _ (I.tok _) ?_⟩
    rw [l]
    exact (rel.val k).getD rd
end
def tDGet2 (td ty tx : TE) : TE := fun σ H Q => td σ H fun x H1 => ∃ a, x = .ref a ∧ IsD H1 a ∧ ty σ H1 fun y H2 => tx σ H2 fun z H3 => ∃ o, DGet H3 a y o ∧ Q (o.getD z) H3
def tDPop1 (td ty : TE) : TE := fun σ H Q => td σ H fun x H1 => ∃ a, x = .ref a ∧ IsD H1 a ∧ ty σ H1 fun y H2 => ∃ kvs k v, H2 a = some (.dK kvs) ∧ y = kV k ∧ valV kvs k = some v ∧ Q v (upd H2 a (.dK (dropK kvs k)))
section
variable {X : Cx} {o e f : Expr} {apos cpos : Pos} {td ty tx : TE}
theorem pe_dget2 (hu : X.A.units + 1 < cLine) (ho : PE X o td) (he : PE X e ty) (hf : PE X f tx) (m : M2 X o "get" apos e f cpos) : PE X (.Call (.Attribute o "get" apos) [e, f] [] cpos) (tDGet2 td ty tx) := by
  intro pins s σ H Q I h
  refine wpAny_Call_method m.base m.few m.line PySem.F.plainAttrs_dict PySem.F.slot_dict_get PySem.F.type_dict_get (thn (ho pins s σ H _ I h) fun u s1 ⟨x, H1, I1, rx, a, ex, d, q1⟩ => ?_)
  subst ex
  obtain rfl : u = Value.ref a := rx
  obtain ⟨t1, t2, _⟩ := isD_at I1 d
  refine ⟨t1, t2, ?_⟩
  rw [m.trees]
  refine Calls.callWith_builtin rfl (Calls.evalArgs_plain (Calls.spliced_cons (thn (he pins s1 σ H1 _ I1 q1) fun iv s2 ⟨y, H2, I2, ry, q2⟩ =>
    Calls.spliced_cons (thn (hf pins s2 σ H2 _ I2 q2) fun fv s3 ⟨z, H3, I3, rz, ov, g, q3⟩ => Calls.spliced_nil ?_))))
  exact d_get2 hu I3 g ry rz fun w' s4 I4 rw' => ⟨_, H3, I4, rw', q3⟩
theorem pe_dpop1 (ho : PE X o td) (he : PE X e ty) (m : M1 X o "pop" apos e cpos) : PE X (.Call (.Attribute o "pop" apos) [e] [] cpos) (tDPop1 td ty) := by
  intro pins s σ H Q I h
  refine wpAny_Call_method m.base m.few m.line PySem.F.plainAttrs_dict PySem.F.slot_dict_pop PySem.F.type_dict_pop (thn (ho pins s σ H _ I h) fun u s1 ⟨x, H1, I1, rx, a, ex, d, q1⟩ => ?_)
  subst ex
  obtain rfl : u = Value.ref a := rx
  obtain ⟨t1, t2, _⟩ := isD_at I1 d
  refine ⟨t1, t2, ?_⟩
  rw [m.trees]
  refine Calls.callWith_builtin rfl (Calls.evalArgs_plain (Calls.spliced_cons (thn (he pins s1 σ H1 _ I1 q1) fun iv s2 ⟨y, H2, I2, ry, kvs, k, v, ea, ey, l, q2⟩ => Calls.spliced_nil ?_)))
  subst ey
  exact d_pop I2 ea ry l (.inl rfl) fun w' s3 I3 rw' => ⟨v, _, I3, rw', q2⟩
end
section
variable {X : Cx} {pins : List (Addr × Obj)} {σ : St} {H : Hp} {s : Shared} {a : Addr} {kvs : List (Key × V)} {A : Around} {E : Value → Shared → Prop}
end
section
variable {X : Cx} {pins : List (Addr × Obj)} {σ : St} {H : Hp} {s : Shared} {a : Addr} {y : V} {u : Value} {A : Around} {E : Value → Shared → Prop}
end
end L2
namespace Att
open PySem PySem.W PySem.Calls PyProof.Rows
theorem ints_of_wellAll {P : Params} {h : Heap} : ∀ (ns : List Int) (vs : List Value), WellAll P h vs (ns.map WData.int) → IntsAre vs ns := by
  intro ns
  induction ns with
  | nil =>
    intro vs w
    rw [List.map_nil] at w
    cases w
    exact .nil
  | cons n ns ih =>
    intro vs w
    rw [List.map_cons] at w
    cases w with
    | cons a b =>
      cases a
      exact .cons _ _ (ih _ b)
theorem script_of {l : OpenLaw} {n : Nat} (hn : l.most = some n) {P : Params} {h : Heap} {args : List WData} {vals : List Value}
    (hpre : l.row.toRowW.claim.pre args = true) (hwl : WellAll P h vals args) :
    ∃ a vs ns, vals = [Value.ref a] ∧ args = [WData.list (ns.map WData.int)] ∧ h.get? a = some { cls := .type "list", data := .seq vs.toArray } ∧ IntsAre vs ns ∧ ns.length ≤ n := by
  have hsh : WShape.hasAll [] args [.list .int] = true := (pre_splitW hpre).1
  have hc : l.pre.holds [] { args := args } = true := (pre_splitW hpre).2
  obtain ⟨d, r, rfl, h1, h2⟩ := hasAllW_cons hsh
  obtain rfl := hasAllW_nil h2
  obtain ⟨xs, rfl, h3⟩ := hasW_list h1
  obtain ⟨ns, rfl⟩ := items_int h3
  have hlen : ns.length ≤ n := by
    unfold OpenLaw.pre at hc
    have h4 : (WTm.not (.lt (.lit (.int (n : Int))) (.len (.arg 0)))).holds [] { args := [.list (ns.map .int)] } = true := by
      have h4 := (holds_andW hc).1
      rw [hn] at h4
      exact h4
    have h5 := condW_of h4 (w_not (w_lt w_lit (w_len_list (w_arg rfl))))
    rw [List.length_map] at h5
    refine Nat.le_of_not_lt fun q => ?_
    have q' : (n : Int) < ((ns.length : Nat) : Int) := by omega
    first
      | (rw [decide_eq_true q'] at h5; exact absurd h5 (by decide))
      | (simp at h5; omega)
  cases hwl with
  | cons w1 w2 =>
    cases w2
    cases w1 with
    | list ho hall => exact ⟨_, _, ns, rfl, rfl, ho, ints_of_wellAll ns _ hall, hlen⟩
theorem post_true (l : OpenLaw) (args : List WData) : l.row.toRowW.claim.post args (.bool true) args = true :=
  postW_of (r := l.row.toRowW) (X := (true == true))
    (show WShape.has [] (.bool true) .bool = true by first | rfl | decide | simp [WShape.has, WShape.arms, WShape.armsAll])
    (show (WTm.eq .res (.lit (.bool true))).value [] { args := args, res := some (.bool true), after := args } = some (.bool (true == true)) from w_eq_bool (w_res rfl) w_lit) rfl
theorem attach_call {l : OpenLaw} {n : Nat} {q : Program} {loose : List Str} {XP : (Str → Option Value) → Heap → Prop} {YP : World → Heap → Prop} {d : DefRec}
    (hn : l.most = some n) (hdf : d.params.defaults = [])
    (call : ∀ (w : World) (s₀ s₁ : Shared) (mg mb : Str → Option Value) (fa : Addr) (o : Obj) (pm cd doc : Value) (a : Addr) (vs : List Value) (ns : List Int),
      Ground q loose [] XP w s₀ mg mb s₁.heap → YP w s₁.heap →
      s₁.heap.get? fa = some o → o.data = .func (docDef d.name d.params d.body d.scope pm cd doc) → s₁.heap.CodeRec cd d.name → mg d.name = some (.ref fa) →
      s₁.heap.get? a = some { cls := .type "list", data := .seq vs.toArray } → IntsAre vs ns → ns.length ≤ n → s₁.gens = #[] →
      codeAny (model l.prog w) callerA (.call (.ref fa) ⟨[.ref a], []⟩) (fun r s' => r = .ok (.ret (.bool true)) ∧ OldK s₁.heap s'.heap ∧ s'.os = s₁.os ∧ AllBare s'.gens) s₁) :
    WalkO q loose XP YP l.row.toRowW d [] (fun f vs => PySem.call f vs) := by
  intro w s₀ s₁ mg mb G Y fa o pm cd doc dV kV ho hd hcd hD hmg hg args vals as hpre hlay hrd hwl hlo
  obtain rfl : dV = .none := Dflts.none hD hdf
  obtain rfl : kV = .none := Dflts.noKw hD
  obtain ⟨a, vs, ns, rfl, rfl, hobj, hints, hlen⟩ := script_of hn hpre hwl
  refine enter_call (codeAny_mono (call w s₀ s₁ mg mb fa o pm cd doc a vs ns G Y ho (fd_plain hd) hcd hmg hobj hints hlen hg) fun r s' hq => ?_)
  obtain ⟨rfl, h2, h3, h4⟩ := hq
  exact ⟨.inl ⟨.bool true, .bool true, [], rfl, fun _ => rfl, .bool true, post_true l _, fun _ => ⟨List.Pairwise.nil, fun _ hm => (nomatch hm)⟩⟩, h2, h3, h4⟩
section
variable {prog : Program} {w : World} {A : Around} {E : Value → Shared → Prop} {s : Shared} {K : Frag}
end
end Att
namespace L2
open PySem PySem.Spec PyProof.Rows
theorem vals_ints : ∀ {vs : List Value} {ns : List Int}, IntsAre vs ns → Vals (ns.map V.int) vs
  | _, _, .nil => .nil
  | _, _, .cons n t h => .cons ⟨t, rfl⟩ (vals_ints h)
def Only (H : Hp) : Prop := ∀ b, H b = none ∨ ∃ o xs, H b = some (.frz o (.lst xs))
theorem law_call {P : Program} {w : World} {K : PySem.W.Frag} {mg mb : Str → Option Value} {CX : CXT} {k : Nat} {fa a : Addr} {fd : FuncData} {x : Str} {sp : Sp} {s₁ : Shared} {vs : List Value} {ns : List Int}
    (KX : K.In s₁.heap) (hns : s₁.heap.Ns mainGlobals mg) (hb : s₁.heap.Ns builtinsNs mb) (hbb : ∀ x : Str, x ≠ "__name__" → mb x = bootBuiltins x) (hlim : s₁.heap.NoLimit) (hg : s₁.gens = #[])
    (ha : s₁.heap.get? a = some { cls := .type "list", data := .seq vs.toArray }) (hi : IntsAre vs ns) (hl : ns.length ≤ sizeLine) (hr : Room k callerA)
    (F : ∀ base : Heap, K.In base → base.Ns mainGlobals mg → FnOk P w K mg base CX k fa fd [x] sp) (hbind : ∀ (s : Shared) (u : Value), BindsTo s fd ⟨[u], []⟩ [(x, u)])
    (hsp : ∀ H : Hp, Only H → SqL K H a (ns.map V.int) → sp [.ref a] H (fun v _ => v = .bl true) fun _ _ _ => False)
    (hCX : ∀ H e s', CX [] H s₁ (fun _ _ _ => False) e s' → False) :
    codeAny (model P w) callerA (.call (.ref fa) ⟨[.ref a], []⟩) (fun r s' => r = .ok (.ret (.bool true)) ∧ OldK s₁.heap s'.heap ∧ s'.os = s₁.os ∧ AllBare s'.gens) s₁ := by
  have rv := vals_ints hi
  have lenV := hi.length
  -- from an abstract heap in which nothing but the script may be tracked
  have core : ∀ H : Hp, Only H → SqL K H a (ns.map V.int) → HOk P w H s₁.heap → (∀ b, H b ≠ none → b = a) → (H a ≠ none → K.lookup a = none) →
      codeAny (model P w) callerA (.call (.ref fa) ⟨[.ref a], []⟩) (fun r s' => r = .ok (.ret (.bool true)) ∧ OldK s₁.heap s'.heap ∧ s'.os = s₁.os ∧ AllBare s'.gens) s₁ := by
    intro H hO hS hok hA hK
    have base_of : ∀ {b : Addr} {o : Obj}, s₁.heap.get? b = some o → H b = none → (hidT s₁.heap H).get? b = some o := fun e n => hidT_get e n
    have noA : ∀ {b : Addr} {o : Obj} {es : Array DictEntry} {ep : Nat}, s₁.heap.get? b = some o → o.data = .dict es ep → H b = none := fun {b o es ep} e d => by
      cases q : H b with
      | none => rfl
      | some u =>
        have e' : b = a := hA b (by rw [q]; simp)
        subst e'
        rw [ha] at e; cases e
        have d' : Data.seq vs.toArray _ = Data.dict es ep := d
        cases d'
    have nsK : ∀ {b : Addr} {m : Str → Option Value}, s₁.heap.Ns b m → (hidT s₁.heap H).Ns b m := fun {b m} ⟨o, es, ep, e, d, r⟩ => ⟨o, es, ep, base_of e (noA e d), d, r⟩
    have hKb : K.In (hidT s₁.heap H) := fun b o e => base_of (KX b o e) (by
      cases q : H b with
      | none => rfl
      | some u =>
        have e' : b = a := hA b (by rw [q]; simp)
        subst e'
        rw [hK (by rw [q]; simp)] at e; cases e)
    have hM : Mod K mg (hidT s₁.heap H) := ⟨hKb, nsK hns, ⟨mb, nsK hb, hbb⟩, let ⟨mc, h1, h2⟩ := hlim; ⟨mc, nsK h1, h2⟩⟩
    have e0 : Env0 P w K mg (hidT s₁.heap H) callerA [] s₁ H := ⟨rfl, hM, fun b o e => of_hidT e, Nat.le_of_eq (hidT_size _ _), trivial, fun b hb => absurd (show b ∈ ([] : List Addr) from hb) (by simp), hok, .of_eq hg⟩
    refine codeAny_mono ((F _ hKb (nsK hns)).run callerA [] s₁ H ⟨[.ref a], []⟩ [.ref a] [.ref a] _ _ hr e0 (hbind s₁ (.ref a)) (.cons rfl .nil) (hsp H hO hS)) fun r s' h => ?_
    cases r with
    | error e => exact (hCX H e s' h).elim
    | ok fl =>
      cases fl with
      | next => exact False.elim h
      | brk => exact False.elim h
      | cont => exact False.elim h
      | ret u =>
        obtain ⟨v, H', os, bare, un, hok', r', q⟩ := h
        have q' : v = .bl true := q
        subst q'
        obtain rfl : u = Value.bool true := r'
        refine ⟨rfl, OldK.of_keep fun b o e => ?_, os, bare⟩
        cases q : H b with
        | none => exact un.keep b o e q (by intro z; exact absurd (show b ∈ ([] : List Addr) from z) (by simp)) (by simp)
        | some u =>
          rcases hO b with z | ⟨ob, xs, z⟩
          · rw [q] at z; cases z
          · have z2 := un.frzs b ob _ z
            obtain ⟨e1, _⟩ := hok b _ z
            obtain ⟨e2, _⟩ := hok' b _ z2
            rw [e] at e1; cases e1
            exact e2
  cases hk : K.lookup a with
  | some o =>
    -- the script is one of the module's own objects
    have e := KX a o hk
    rw [ha] at e
    cases e
    refine core (fun _ => none) (fun _ => .inl rfl) (.inr ⟨_, vs.toArray, _, hk, rfl, rfl, rfl, by rw [List.size_toArray, lenV]; exact hl, by simpa using rv⟩) (fun b u z => by have z' : (none : Option HO) = some u := z; cases z') (fun b z => absurd rfl z) fun z => absurd rfl z
  | none =>
    refine core (fun b => if b = a then some (.frz { cls := .type "list", data := .seq vs.toArray } (.lst (ns.map V.int))) else none) (fun b => ?_) (.inl (.inr ⟨{ cls := .type "list", data := .seq vs.toArray }, if_pos rfl⟩)) (fun b u z => ?_) (fun b z => ?_) fun _ => hk
    · by_cases hb : b = a
      · exact .inr ⟨_, _, if_pos hb⟩
      · exact .inl (if_neg hb)
    · by_cases hb : b = a
      · have z' := (if_pos hb).symm.trans z
        cases z'
        subst hb
        exact ⟨ha, by rw [List.length_map]; exact hl, vs, _, rv, ha⟩
      · have z' := (if_neg hb).symm.trans z
        cases z'
    · by_cases hb : b = a
      · exact hb
      · exact absurd (if_neg hb) z
end L2
namespace L2
open PySem PySem.Spec PyProof.Rows
theorem walk_of {l : PySem.W.OpenLaw} {n k : Nat} {q : Program} {loose : List Str} {XP : (Str → Option Value) → Heap → Prop} {YP : World → Heap → Prop} {d : DefRec} {K : Params → PySem.W.Frag} {CX : World → CXT} {sp : World → Sp} {x : Str}
    (hn : l.most = some n) (hn2 : n ≤ sizeLine) (hdf : d.params.defaults = []) (hr : Room k callerA)
    (hY : ∀ (w : World) (h : Heap), YP w h → (K w.params).In h)
    (F : ∀ (w : World) (mg : Str → Option Value) (fa : Addr) (h : Heap), (K w.params).In h → h.Ns mainGlobals mg → mg d.name = some (.ref fa) →
      ∃ fd : FuncData, (∀ (s : Shared) (u : Value), BindsTo s fd ⟨[u], []⟩ [(x, u)]) ∧
        ∀ base : Heap, (K w.params).In base → base.Ns mainGlobals mg → FnOk l.prog w (K w.params) mg base (CX w) k fa fd [x] (sp w))
    (hsp : ∀ (w : World) (H : Hp) (a : Addr) (ns : List Int), ns.length ≤ n → Only H → SqL (K w.params) H a (ns.map V.int) → sp w [.ref a] H (fun v _ => v = .bl true) fun _ _ _ => False)
    (hCX : ∀ (w : World) (H : Hp) (s : Shared) (e : Value) (s' : Shared), CX w [] H s (fun _ _ _ => False) e s' → False) :
    PySem.W.WalkO q loose XP YP l.row.toRowW d [] (fun f vs => PySem.call f vs) := by
  refine Att.attach_call hn hdf fun w s₀ s₁ mg mb fa o pm cd doc a vs ns G Y ho hd hcd hmg hobj hints hlen hg => ?_
  have KX := hY w _ Y
  obtain ⟨fd, hb, hF⟩ := F w mg fa _ KX G.T.g hmg
  exact law_call KX G.T.g G.T.b G.T.builtins G.T.nolimit hg hobj hints (Nat.le_trans hlen hn2) hr hF hb (fun H hO hS => hsp w H a ns hlen hO hS) fun H e s' => hCX w H s₁ e s'
end L2
namespace L2
open PySem PySem.Spec PyProof.Rows
def inClass (s : Stmt) (j : Nat) : Stmt := match s with
  | .ClassDef _ _ _ body _ _ _ _ _ _ _ => body.getD j (.Pass ⟨0, 0, 0, 0⟩)
  | _ => .Pass ⟨0, 0, 0, 0⟩
def defArgs (s : Stmt) : Arguments := match s with
  | .FunctionDef _ a _ _ _ _ _ _ _ _ => a
  | _ => { posonlyargs := [], args := [], vararg := none, kwonlyargs := [], kw_defaults := [], kwarg := none, defaults := [] }
def defBody (s : Stmt) : List Stmt := match s with
  | .FunctionDef _ _ b _ _ _ _ _ _ _ => b
  | _ => []
def defScope (s : Stmt) : Scope := match s with
  | .FunctionDef _ _ _ _ _ _ sc _ _ _ => sc
  | _ => { kind := .function, names := [], isGenerator := false, isCoroutine := false }
abbrev CX0 : CXT := fun _ _ _ _ _ _ => False
abbrev E0 : XK := fun _ _ _ => False
theorem pass0 {X : Cx} : Passes CX0 X E0 := fun _ _ _ _ _ _ _ h => h.elim
structure Fun (K : PySem.W.Frag) (x qual : Str) (st : Stmt) (f : Addr) (fd : FuncData) : Prop where
  ex : ∃ (oc : Value) (od : Option Addr) (kV doc pm : Value) (an : Option Addr) (cdv ct : Value) (osl : Array (Option Value)),
    fd = PySem.W.fnOf x qual (defArgs st) (defBody st) (defScope st) .none kV doc pm an cdv ct ∧ K.lookup f = some ⟨oc, od, .func fd, osl⟩ ∧ PySem.W.codeIn K cdv qual = true
  kp : PySem.W.keepIn K (.ref f) = true
section
variable {P : Program} {w : World} {K : PySem.W.Frag} {mg : Str → Option Value} {base : Heap}
theorem Fun.ok {x qual : Str} {st : Stmt} {f : Addr} {fd : FuncData} {N ps : List Str} {k : Nat} {sp : Sp} (F : Fun K x qual st f fd) (S : FnScope N ps (defScope st)) (len : ∀ vs H Q E, sp vs H Q E → vs.length = ps.length)
    (hbody : ∀ (cdv : Value) (A : Around) (outer : List Env) (s : Shared) (H : Hp) (vs : List V) (Q : VK) (E : XK), Room k (A.deeper (envOfC qual (defScope st) s.heap.objs.size f cdv)) → sp vs H Q E →
      ∃ t, PSs (cxOf CX0 P w K mg base N qual (defScope st) f cdv A outer s H E).nox (defBody st) t ∧ t { nx := fun _ H' => Q .non H', rt := Q } (start N vs) H) : FnOk P w K mg base CX0 (k + 1) f fd ps sp := by
  obtain ⟨oc, od, kV, doc, pm, an, cdv, ct, osl, rfl, lk, hcd⟩ := F.ex
  refine fn_of lk hcd S len fun A outer s H vs Q E hr hsp => ?_
  obtain ⟨t, h, q⟩ := hbody cdv A outer s H vs Q E hr hsp
  exact ⟨t, h.nox, q⟩
theorem Fun.binds {x qual : Str} {st : Stmt} {f : Addr} {fd : FuncData} {ps : List Str} (F : Fun K x qual st f fd)
    (h : ∀ (kV doc pm : Value) (an : Option Addr) (cdv ct : Value) (us : List Value), us.length = ps.length → bindArgs (PySem.W.fnOf x qual (defArgs st) (defBody st) (defScope st) .none kV doc pm an cdv ct) ⟨us, []⟩ = pure (ps.zip us)) : Binds K fd ps [] := by
  obtain ⟨oc, od, kV, doc, pm, an, cdv, ct, osl, rfl, lk, hcd⟩ := F.ex
  exact .all (h kV doc pm an cdv ct)
theorem fun_mk {x qual : Str} {st : Stmt} {f : Addr} {oc : Value} {od an : Option Addr} {osl : Array (Option Value)} {kV doc pm cdv ct : Value} (l : K.lookup f = some ⟨oc, od, .func (PySem.W.fnOf x qual (defArgs st) (defBody st) (defScope st) .none kV doc pm an cdv ct), osl⟩)
    (c : PySem.W.codeIn K cdv qual = true) (k : PySem.W.keepIn K (.ref f) = true) : Fun K x qual st f (PySem.W.fnOf x qual (defArgs st) (defBody st) (defScope st) .none kV doc pm an cdv ct) := ⟨⟨oc, od, kV, doc, pm, an, cdv, ct, osl, rfl, l, c⟩, k⟩
end
theorem hu_of {A : Around} {k : Nat} (hr : Room k A) : A.units + 1 < cLine := Nat.lt_of_le_of_lt (Nat.add_le_add_left (by decide : 1 ≤ 64) _) hr.units
section
variable {X : Cx}
end
theorem iteF {A B : Prop} (h : B) : if false = true then A else B := by
  rw [if_neg Bool.false_ne_true]
  exact h
theorem iteT {A B : Prop} (h : A) : if true = true then A else B := by
  rw [if_pos rfl]
  exact h
def Same (H H' : Hp) : Prop := ∀ b o, H b = some o → H' b = some o
theorem Same.refl (H : Hp) : Same H H := fun _ _ h => h
theorem Same.trans {H H1 H2 : Hp} (a : Same H H1) (b : Same H1 H2) : Same H H2 := fun c o h => b c o (a c o h)
theorem Same.free {H H' : Hp} (e : Same H H') {l : Addr} (h : H' l = Option.none) : H l = Option.none := by
  cases q : H l with
  | none => rfl
  | some o =>
    rw [e l o q] at h
    cases h
theorem Same.seq {K : PySem.W.Frag} {H H' : Hp} {a : Addr} {xs : List V} (e : Same H H') (h : SqL K H a xs) : SqL K H' a xs := by
  rcases h with (h | ⟨o, h⟩) | h
  · exact .inl (.inl (e _ _ h))
  · exact .inl (.inr ⟨o, e _ _ h⟩)
  · exact .inr h
end L2
namespace L2
open PySem PySem.Spec PyProof.Rows
section
variable {X : Cx}
theorem call_lenD : CallR X (.builtin "len") (fun xs H Q => ∃ a kvs, xs = [V.ref a] ∧ H a = some (.dK kvs) ∧ Q (.int kvs.length) H) := by
  intro pins s σ H xs us Q I r h
  obtain ⟨a, kvs, rfl, ha, q⟩ := h
  obtain ⟨u, rfl, ru⟩ := vals1 r
  cases ru
  exact d_len I (.inl ha) fun t s' I' => ⟨.int kvs.length, H, I', ⟨t, rfl⟩, q⟩
end
section
variable {κ : Type} [DecidableEq κ]
theorem valV_in {kvs : List (κ × V)} {k : κ} {v : V} (h : valV kvs k = some v) : k ∈ kvs.map (·.1) := by
  have q : (kvs.any fun kv => decide (kv.1 = k)) = true := by
    rw [valV_any, h]
    all_goals rfl
  obtain ⟨p, hp, e⟩ := List.any_eq_true.mp q
  exact List.mem_map.mpr ⟨p, hp, of_decide_eq_true e⟩
end
end L2
end
set_option Elab.async false
set_option linter.all false
set_option maxRecDepth 100000
set_option maxHeartbeats 4000000
namespace R
open PySem PySem.Spec PyProof.Rows L2
inductive RV where
  | non | bl (b : Bool) | int (i : Int) | str (x : Str) | ref (a : Addr) | ty (n : String)
  | tup (xs : List RV) | ls (xs : List RV)
def Fz (K : PySem.W.Frag) (H : Hp) (a : Addr) (vs : List V) : Prop :=
  (∃ o, H a = some (.frz o (.lst vs))) ∨
    ∃ (o : Obj) (its : Array Value) (n : Nat), K.lookup a = some o ∧ o.cls = .type "list" ∧ o.dict = Option.none ∧ o.data = .seq its n ∧ its.size ≤ sizeLine ∧ Vals vs its.toList
theorem Fz.sq {K : PySem.W.Frag} {H : Hp} {a : Addr} {vs : List V} (h : Fz K H a vs) : SqL K H a vs := by
  rcases h with ⟨o, h⟩ | h
  · exact .inl (.inr ⟨o, h⟩)
  · exact .inr h
mutual
def Rep (K : PySem.W.Frag) (H : Hp) : RV → V → Prop
  | .non, v => v = .non
  | .bl b, v => v = .bl b
  | .int i, v => v = .int i
  | .str x, v => v = .str x
  | .ref a, v => v = .ref a
  | .ty n, v => v = .ty n
  | .tup xs, v => ∃ a vs, v = .ref a ∧ SqT K H a vs ∧ Reps K H xs vs
  | .ls xs, v => ∃ a vs, v = .ref a ∧ Fz K H a vs ∧ Reps K H xs vs
def Reps (K : PySem.W.Frag) (H : Hp) : List RV → List V → Prop
  | [], vs => vs = []
  | x :: xs, vs => ∃ v r, vs = v :: r ∧ Rep K H x v ∧ Reps K H xs r
end
structure Ext (H H' : Hp) : Prop where
  tups : ∀ b xs, H b = some (.tup xs) → H' b = some (.tup xs)
  frzs : ∀ b o u, H b = some (.frz o u) → H' b = some (.frz o u)
theorem Ext.refl (H : Hp) : Ext H H := ⟨fun _ _ h => h, fun _ _ _ h => h⟩
theorem Ext.trans {H H1 H2 : Hp} (a : Ext H H1) (b : Ext H1 H2) : Ext H H2 := ⟨fun c x h => b.tups c x (a.tups c x h), fun c o x h => b.frzs c o x (a.frzs c o x h)⟩
theorem Ext.new {H : Hp} {p : Addr} {o : HO} (h : H p = none) : Ext H (upd H p o) :=
  ⟨fun b xs e => by rw [upd_ne (ne_of_none e h)]; exact e, fun b o xs e => by rw [upd_ne (ne_of_none e h)]; exact e⟩
def Soft : HO → Bool
  | .tup _ => false
  | .frz _ _ => false
  | _ => true
theorem Ext.write {H : Hp} {p : Addr} {o o' : HO} (h : H p = some o) (s : Soft o = true) : Ext H (upd H p o') := by
  refine ⟨fun b xs e => ?_, fun b ob xs e => ?_⟩
  · have n : b ≠ p := by rintro rfl; rw [h] at e; cases e; cases s
    rw [upd_ne n]; exact e
  · have n : b ≠ p := by rintro rfl; rw [h] at e; cases e; cases s
    rw [upd_ne n]; exact e
theorem SqT.ext {K : PySem.W.Frag} {H H' : Hp} {a : Addr} {vs : List V} (e : Ext H H') (h : SqT K H a vs) : SqT K H' a vs := by
  rcases h with (h | ⟨o, h⟩) | h
  · exact .inl (.inl (e.tups _ _ h))
  · exact .inl (.inr ⟨o, e.frzs _ _ _ h⟩)
  · exact .inr h
theorem Fz.ext {K : PySem.W.Frag} {H H' : Hp} {a : Addr} {vs : List V} (e : Ext H H') (h : Fz K H a vs) : Fz K H' a vs := by
  rcases h with ⟨o, h⟩ | h
  · exact .inl ⟨o, e.frzs _ _ _ h⟩
  · exact .inr h
mutual
theorem Rep.ext {K : PySem.W.Frag} {H H' : Hp} (e : Ext H H') : ∀ (r : RV) (v : V), Rep K H r v → Rep K H' r v
  | .non, v, h => by simpa only [Rep] using h
  | .bl _, v, h => by simpa only [Rep] using h
  | .int _, v, h => by simpa only [Rep] using h
  | .str _, v, h => by simpa only [Rep] using h
  | .ref _, v, h => by simpa only [Rep] using h
  | .ty _, v, h => by simpa only [Rep] using h
  | .tup xs, v, h => by
    simp only [Rep] at h ⊢
    obtain ⟨a, vs, e1, h1, h2⟩ := h
    exact ⟨a, vs, e1, SqT.ext e h1, Reps.ext e xs vs h2⟩
  | .ls xs, v, h => by
    simp only [Rep] at h ⊢
    obtain ⟨a, vs, e1, h1, h2⟩ := h
    exact ⟨a, vs, e1, h1.ext e, Reps.ext e xs vs h2⟩
theorem Reps.ext {K : PySem.W.Frag} {H H' : Hp} (e : Ext H H') : ∀ (rs : List RV) (vs : List V), Reps K H rs vs → Reps K H' rs vs
  | [], vs, h => by simpa only [Reps] using h
  | x :: xs, vs, h => by
    simp only [Reps] at h ⊢
    obtain ⟨v, r, e1, h1, h2⟩ := h
    exact ⟨v, r, e1, Rep.ext e x v h1, Reps.ext e xs r h2⟩
end
section
variable {K : PySem.W.Frag} {H : Hp}
theorem Reps.cons {x : RV} {xs : List RV} {v : V} {vs : List V} (h : Rep K H x v) (t : Reps K H xs vs) : Reps K H (x :: xs) (v :: vs) := by
  simp only [Reps]; exact ⟨v, vs, rfl, h, t⟩
theorem Reps.nil : Reps K H [] [] := by simp only [Reps]
theorem Reps.length : ∀ {xs : List RV} {vs : List V}, Reps K H xs vs → xs.length = vs.length
  | [], vs, h => by simp only [Reps] at h; subst h; rfl
  | x :: xs, vs, h => by
    simp only [Reps] at h
    obtain ⟨v, r, rfl, _, t⟩ := h
    simp [Reps.length t]
theorem Reps.get : ∀ {xs : List RV} {vs : List V} {i : Nat} {x : RV}, Reps K H xs vs → xs[i]? = some x → ∃ v, vs[i]? = some v ∧ Rep K H x v
  | [], _, _, _, _, e => by simp at e
  | y :: xs, vs, 0, x, h, e => by
    simp only [Reps] at h
    obtain ⟨v, r, rfl, h1, _⟩ := h
    simp at e; subst e
    exact ⟨v, by simp, h1⟩
  | y :: xs, vs, i + 1, x, h, e => by
    simp only [Reps] at h
    obtain ⟨v, r, rfl, _, t⟩ := h
    obtain ⟨u, h1, h2⟩ := Reps.get (i := i) t (by simpa using e)
    exact ⟨u, by simpa using h1, h2⟩
theorem Reps.append : ∀ {xs ys : List RV} {vs ws : List V}, Reps K H xs vs → Reps K H ys ws → Reps K H (xs ++ ys) (vs ++ ws)
  | [], _, vs, _, h, t => by simp only [Reps] at h; subst h; simpa using t
  | x :: xs, ys, vs, ws, h, t => by
    simp only [Reps] at h
    obtain ⟨v, r, rfl, h1, h2⟩ := h
    exact Reps.cons h1 (Reps.append h2 t)
theorem Reps.take : ∀ {xs : List RV} {vs : List V} (n : Nat), Reps K H xs vs → Reps K H (xs.take n) (vs.take n)
  | _, _, 0, _ => by simpa using Reps.nil
  | [], vs, n + 1, h => by simp only [Reps] at h; subst h; simpa using Reps.nil
  | x :: xs, vs, n + 1, h => by
    simp only [Reps] at h
    obtain ⟨v, r, rfl, h1, h2⟩ := h
    exact Reps.cons h1 (Reps.take n h2)
theorem Reps.drop : ∀ {xs : List RV} {vs : List V} (n : Nat), Reps K H xs vs → Reps K H (xs.drop n) (vs.drop n)
  | _, _, 0, h => by simpa using h
  | [], vs, n + 1, h => by simp only [Reps] at h; subst h; simpa using Reps.nil
  | x :: xs, vs, n + 1, h => by
    simp only [Reps] at h
    obtain ⟨v, r, rfl, h1, h2⟩ := h
    exact Reps.drop n h2
theorem Reps.set {x : RV} {v : V} (hx : Rep K H x v) : ∀ {xs : List RV} {vs : List V} (i : Nat), Reps K H xs vs → Reps K H (xs.set i x) (vs.set i v)
  | [], vs, i, h => by simp only [Reps] at h; subst h; simpa using Reps.nil
  | y :: xs, vs, 0, h => by
    simp only [Reps] at h
    obtain ⟨w, r, rfl, h1, h2⟩ := h
    exact Reps.cons hx h2
  | y :: xs, vs, i + 1, h => by
    simp only [Reps] at h
    obtain ⟨w, r, rfl, h1, h2⟩ := h
    exact Reps.cons h1 (Reps.set hx i h2)
theorem Reps.atI {xs : List RV} {vs : List V} {i : Int} {x : RV} (h : Reps K H xs vs) (e : L2.atI xs i = some x) : ∃ v, L2.atI vs i = some v ∧ Rep K H x v := by
  unfold L2.atI at e ⊢
  rw [← h.length]
  cases q : ixN xs.length i with
  | none => rw [q] at e; cases e
  | some j => rw [q] at e; exact h.get (by simpa using e)
end
inductive RO where
  | lst (xs : List RV)
  | dk (kvs : List (Key × RV))
  | ins (C : Addr) (fs : List (Str × RV))
abbrev RM := Addr → Option RO
def put (M : RM) (a : Addr) (o : RO) : RM := fun b => if b = a then some o else M b
theorem put_same {M : RM} {a : Addr} {o : RO} : put M a o a = some o := by unfold put; rw [if_pos rfl]
theorem put_ne {M : RM} {a b : Addr} {o : RO} (h : b ≠ a) : put M a o b = M b := by unfold put; rw [if_neg h]
theorem put_put {M : RM} {a : Addr} {o o' : RO} : put (put M a o) a o' = put M a o' := by
  funext b; unfold put; split <;> rfl
def RepP {κ : Type} (K : PySem.W.Frag) (H : Hp) : List (κ × RV) → List (κ × V) → Prop
  | [], ws => ws = []
  | (k, x) :: r, ws => ∃ v t, ws = (k, v) :: t ∧ Rep K H x v ∧ RepP K H r t
theorem RepP.ext {κ : Type} {K : PySem.W.Frag} {H H' : Hp} (e : Ext H H') : ∀ {xs : List (κ × RV)} {ws : List (κ × V)}, RepP K H xs ws → RepP K H' xs ws
  | [], _, h => h
  | (k, x) :: r, ws, h => by
    obtain ⟨v, t, e1, h1, h2⟩ := h
    exact ⟨v, t, e1, Rep.ext e x v h1, RepP.ext e h2⟩
def RepO (K : PySem.W.Frag) (H : Hp) : RO → HO → Prop
  | .lst xs, o => ∃ vs, o = .lst vs ∧ Reps K H xs vs
  | .dk kvs, o => ∃ ws, o = .dK ws ∧ RepP K H kvs ws
  | .ins C fs, o => ∃ dx gs, o = .ins C dx gs ∧ RepP K H fs gs
theorem RepO.ext {K : PySem.W.Frag} {H H' : Hp} (e : Ext H H') : ∀ {o : RO} {ho : HO}, RepO K H o ho → RepO K H' o ho
  | .lst xs, _, h => by obtain ⟨vs, e1, h1⟩ := h; exact ⟨vs, e1, Reps.ext e xs vs h1⟩
  | .dk _, _, h => by obtain ⟨ws, e1, h1⟩ := h; exact ⟨ws, e1, h1.ext e⟩
  | .ins _ _, _, h => by obtain ⟨dx, gs, e1, h1⟩ := h; exact ⟨dx, gs, e1, h1.ext e⟩
theorem RepO.soft {K : PySem.W.Frag} {H : Hp} : ∀ {o : RO} {ho : HO}, RepO K H o ho → Soft ho = true
  | .lst _, _, h => by obtain ⟨_, rfl, _⟩ := h; rfl
  | .dk _, _, h => by obtain ⟨_, rfl, _⟩ := h; rfl
  | .ins _ _, _, h => by obtain ⟨_, _, rfl, _⟩ := h; rfl
def View (K : PySem.W.Frag) (H : Hp) (M : RM) : Prop := ∀ a o, M a = some o → ∃ ho, H a = some ho ∧ RepO K H o ho
section
variable {K : PySem.W.Frag} {H H' : Hp} {M : RM} {p : Addr} {ho : HO} {o : RO}
theorem View.free (w : View K H M) (h : H p = none) : M p = none := by
  cases q : M p with
  | none => rfl
  | some o => obtain ⟨ho, e, _⟩ := w p o q; rw [h] at e; cases e
theorem View.new (w : View K H M) (h : H p = none) : View K (upd H p ho) M := fun a o e => by
  obtain ⟨ho', e1, r⟩ := w a o e
  exact ⟨ho', by rw [upd_ne (ne_of_none e1 h)]; exact e1, r.ext (Ext.new h)⟩
theorem View.newPut (w : View K H M) (h : H p = none) (r : RepO K (upd H p ho) o ho) : View K (upd H p ho) (put M p o) := fun a o' e => by
  by_cases ha : a = p
  · subst ha; rw [put_same] at e; cases e; exact ⟨ho, upd_same, r⟩
  · rw [put_ne ha] at e; exact w.new h a o' e
theorem View.write {o' : RO} (w : View K H M) (h : M p = some o') (r : RepO K (upd H p ho) o ho) : View K (upd H p ho) (put M p o) := fun a o'' e => by
  by_cases ha : a = p
  · subst ha; rw [put_same] at e; cases e; exact ⟨ho, upd_same, r⟩
  · rw [put_ne ha] at e
    obtain ⟨ho', e1, r1⟩ := w a o'' e
    obtain ⟨hp, e2, r2⟩ := w p o' h
    exact ⟨ho', by rw [upd_ne ha]; exact e1, r1.ext (Ext.write e2 r2.soft)⟩
end
abbrev RSt := List (Option RV)
abbrev RVK := RV → RM → Prop
abbrev RTE := RSt → RM → RVK → Prop
abbrev RTT := RSt → RM → (Bool → RM → Prop) → Prop
abbrev RTA := RSt → RM → (List RV → RM → Prop) → Prop
def RepSt (K : PySem.W.Frag) (H : Hp) (σ : RSt) (σ0 : L2.St) : Prop := σ.length = σ0.length ∧ ∀ (i : Nat) r, σ[i]? = some (some r) → ∃ v, σ0[i]? = some (some v) ∧ Rep K H r v
theorem RepSt.ext {K : PySem.W.Frag} {H H' : Hp} {σ : RSt} {σ0 : L2.St} (h : RepSt K H σ σ0) (e : Ext H H') : RepSt K H' σ σ0 :=
  ⟨h.1, fun i r q => by obtain ⟨v, e1, h1⟩ := h.2 i r q; exact ⟨v, e1, Rep.ext e r v h1⟩⟩
theorem RepSt.set {K : PySem.W.Frag} {H : Hp} {σ : RSt} {σ0 : L2.St} {r : RV} {v : V} (h : RepSt K H σ σ0) (hr : Rep K H r v) (i : Nat) : RepSt K H (σ.set i (some r)) (σ0.set i (some v)) := by
  refine ⟨by simp [h.1], fun j r' q => ?_⟩
  by_cases hj : i = j
  · subst hj
    rw [List.getElem?_set] at q
    split at q
    · split at q
      · cases q; rename_i hl _ ; exact ⟨v, by rw [List.getElem?_set_self (by rw [← h.1]; assumption)], hr⟩
      · cases q
    · rename_i z; exact absurd rfl z
  · rw [List.getElem?_set_ne hj] at q
    obtain ⟨w, e1, h1⟩ := h.2 j r' q
    exact ⟨w, by rw [List.getElem?_set_ne hj]; exact e1, h1⟩
def UpK (K : PySem.W.Frag) (H : Hp) (Q : RVK) (Q0 : VK) : Prop := ∀ rv M' v H', Q rv M' → Ext H H' → View K H' M' → Rep K H' rv v → Q0 v H'
theorem UpK.ext {K : PySem.W.Frag} {H H' : Hp} {Q : RVK} {Q0 : VK} (h : UpK K H Q Q0) (e : Ext H H') : UpK K H' Q Q0 := fun rv M' v H2 q e2 w r => h rv M' v H2 q (e.trans e2) w r
def up (K : PySem.W.Frag) (t : RTE) : TE := fun σ0 H Q0 => ∃ σ M Q, RepSt K H σ σ0 ∧ View K H M ∧ t σ M Q ∧ UpK K H Q Q0
def upT (K : PySem.W.Frag) (t : RTT) : TT := fun σ0 H Q0 => ∃ σ M Q, RepSt K H σ σ0 ∧ View K H M ∧ t σ M Q ∧ ∀ b M' H', Q b M' → Ext H H' → View K H' M' → Q0 b H'
def upA (K : PySem.W.Frag) (t : RTA) : TA := fun σ0 H Q0 => ∃ σ M Q, RepSt K H σ σ0 ∧ View K H M ∧ t σ M Q ∧ ∀ rs M' vs H', Q rs M' → Ext H H' → View K H' M' → Reps K H' rs vs → Q0 vs H'
structure RD where
  nx : RSt → RM → Prop
  rt : RVK
  bk : RSt → RM → Prop := fun _ _ => False
  ct : RSt → RM → Prop := fun _ _ => False
abbrev RTS := RD → RSt → RM → Prop
def UpS (K : PySem.W.Frag) (H : Hp) (q : RSt → RM → Prop) (q0 : L2.St → Hp → Prop) : Prop := ∀ σ M σ0 H', q σ M → Ext H H' → View K H' M → RepSt K H' σ σ0 → q0 σ0 H'
theorem UpS.ext {K : PySem.W.Frag} {H H' : Hp} {Q : RSt → RM → Prop} {Q0 : L2.St → Hp → Prop} (h : UpS K H Q Q0) (e : Ext H H') : UpS K H' Q Q0 := fun σ M σ0 H2 q e2 w r => h σ M σ0 H2 q (e.trans e2) w r
structure UpD (K : PySem.W.Frag) (H : Hp) (D : RD) (D0 : Ends) : Prop where
  nx : UpS K H D.nx D0.nx
  rt : UpK K H D.rt D0.rt
  bk : UpS K H D.bk D0.bk
  ct : UpS K H D.ct D0.ct
theorem UpD.ext {K : PySem.W.Frag} {H H' : Hp} {D : RD} {D0 : Ends} (h : UpD K H D D0) (e : Ext H H') : UpD K H' D D0 := ⟨h.nx.ext e, h.rt.ext e, h.bk.ext e, h.ct.ext e⟩
def upS (K : PySem.W.Frag) (t : RTS) : TS := fun D0 σ0 H => ∃ σ M D, RepSt K H σ σ0 ∧ View K H M ∧ t D σ M ∧ UpD K H D D0
def RPE (X : Cx) (e : Expr) (t : RTE) : Prop := PE X e (up X.K t)
def RPT (X : Cx) (e : Expr) (t : RTT) : Prop := PT X e (upT X.K t)
def RPW (X : Cx) (e : Expr) (t : RTT) : Prop := PW X e (upT X.K t)
def RPA (X : Cx) (es : List Expr) (t : RTA) : Prop := PA X es (upA X.K t)
def RPS (X : Cx) (s : Stmt) (t : RTS) : Prop := PS X s (upS X.K t)
def RPSs (X : Cx) (s : List Stmt) (t : RTS) : Prop := PSs X s (upS X.K t)
section
variable {X : Cx}
theorem PE.imp {e : Expr} {t t' : TE} (h : PE X e t) (i : ∀ σ H Q, t' σ H Q → t σ H Q) : PE X e t' := fun pins s σ H Q I w => h pins s σ H Q I (i σ H Q w)
theorem PT.imp {e : Expr} {t t' : TT} (h : PT X e t) (i : ∀ σ H Q, t' σ H Q → t σ H Q) : PT X e t' := fun pins s σ H Q I w => h pins s σ H Q I (i σ H Q w)
theorem PW.imp {e : Expr} {t t' : TT} (h : PW X e t) (i : ∀ σ H Q, t' σ H Q → t σ H Q) : PW X e t' := fun wh pins s σ H Q I w => h wh pins s σ H Q I (i σ H Q w)
theorem PA.imp {e : List Expr} {t t' : TA} (h : PA X e t) (i : ∀ σ H Q, t' σ H Q → t σ H Q) : PA X e t' := fun pos pins s σ H Q I w => h pos pins s σ H Q I (i σ H Q w)
theorem PS.imp {e : Stmt} {t t' : TS} (h : PS X e t) (i : ∀ D σ H, t' D σ H → t D σ H) : PS X e t' := fun pins s σ H D I w => h pins s σ H D I (i D σ H w)
theorem PSs.imp {e : List Stmt} {t t' : TS} (h : PSs X e t) (i : ∀ D σ H, t' D σ H → t D σ H) : PSs X e t' := fun pins s σ H D I w => h pins s σ H D I (i D σ H w)
end
end R
set_option Elab.async false
set_option linter.all false
set_option maxRecDepth 100000
set_option maxHeartbeats 4000000
namespace R
open PySem PySem.Spec PyProof.Rows L2
section
variable {X : Cx} {a b c : Expr} {ta tb tc : RTE} {tA tB : RTT} {pos : Pos} {rest : List Expr}
def rVar (i : Nat) : RTE := fun σ M Q => match σ[i]? with | some (some v) => Q v M | _ => False
def rC (v : RV) : RTE := fun _ M Q => Q v M
theorem rv (i : Nat) {x : Str} {pos : Pos} (hN : X.N[i]? = some x := by rfl) (hv : Vis X.env.scope x := by first | exact Or.inl rfl | exact Or.inr (Or.inl rfl) | exact Or.inr (Or.inr rfl)) (hd : (x == ("__debug__" : Str)) = false := by decide)
    (hcd : (x == ("__classdict__" : Str)) = false := by decide) : RPE X (.Name x pos) (rVar i) := PE.imp (pe_var hN hv hd hcd) fun σ0 H Q h => by
  obtain ⟨σ, M, Qr, hs, hv, ht, hk⟩ := h
  unfold rVar at ht
  split at ht
  · rename_i r e
    obtain ⟨v, e1, h1⟩ := hs.2 i r e
    exact ⟨v, e1, hk r M v H ht (.refl H) hv h1⟩
  · exact ht.elim
theorem rconst {e : Expr} {v : V} {r : RV} (h : PE X e (tC v)) (hr : ∀ H, Rep X.K H r v) : RPE X e (rC r) := PE.imp h fun σ0 H Q h => by
  obtain ⟨σ, M, Qr, hs, hv, ht, hk⟩ := h
  exact hk r M v H ht (.refl H) hv (hr H)
theorem ri {i j pos} : RPE X (.Constant (.int i) j pos) (rC (.int i)) := rconst pe_int fun H => by simp only [Rep]
theorem rb {b j pos} : RPE X (.Constant (.bool b) j pos) (rC (.bl b)) := rconst pe_bl fun H => by simp only [Rep]
theorem rn {j pos} : RPE X (.Constant .none j pos) (rC .non) := rconst pe_non fun H => by simp only [Rep]
theorem rs {x j pos} : RPE X (.Constant (.str x) j pos) (rC (.str x)) := rconst pe_str fun H => by simp only [Rep]
theorem rbltn {x : Str} {v : V} {r : RV} {u : Value} {pos : Pos} (hm : X.mg x = none) (hv : bootBuiltins x = some u) (rl : RelV v u) (hr : ∀ H, Rep X.K H r v) (hg : Gl X x := by rfl) (hn : x ≠ "__name__" := by decide) (hd : (x == ("__debug__" : Str)) = false := by decide) : RPE X (.Name x pos) (rC r) :=
  rconst (pe_bltn hg hm hv rl hn hd) hr
abbrev RR2 := RV → RV → RM → RVK → Prop
def upO (K : PySem.W.Frag) (rr : RR2) : R2 := fun x y H Q0 => ∃ rx ry M Q, Rep K H rx x ∧ Rep K H ry y ∧ View K H M ∧ rr rx ry M Q ∧ UpK K H Q Q0
def ROp (X : Cx) (f : Value → Value → Sem Value) (rr : RR2) : Prop := OpR X f (upO X.K rr)
def rOp (rr : RR2) (ta tb : RTE) : RTE := fun σ M Q => ta σ M fun x M1 => tb σ M1 fun y M2 => rr x y M2 Q
theorem rop_imp {K : PySem.W.Frag} {rr : RR2} {σ0 : L2.St} {H : Hp} {Q0 : VK} (h : up K (rOp rr ta tb) σ0 H Q0) : tOp (upO K rr) (up K ta) (up K tb) σ0 H Q0 := by
  obtain ⟨σ, M, Q, hs, hv, ht, hk⟩ := h
  refine ⟨σ, M, _, hs, hv, ht, fun rx M1 x H1 hb e1 v1 r1 => ?_⟩
  refine ⟨σ, M1, _, hs.ext e1, v1, hb, fun ry M2 y H2 hr e2 v2 r2 => ?_⟩
  exact ⟨rx, ry, M2, Q, Rep.ext e2 rx x r1, r2, v2, hr, hk.ext (e1.trans e2)⟩
theorem rop {op : Operator} {rr : RR2} (ho : ROp X (binaryOp op) rr) (ha : RPE X a ta) (hb : RPE X b tb) : RPE X (.BinOp a op b pos) (rOp rr ta tb) := PE.imp (pe_op ho ha hb) fun _ _ _ h => rop_imp h
theorem rcmp {op : CmpOp} {rr : RR2} (ho : ROp X (compareOp op) rr) (ha : RPE X a ta) (hb : RPE X b tb) (hm : behindInMarks op b = false := by first | exact nomark _ | (with_unfolding_all rfl)) : RPE X (.Compare a [op] [b] pos) (rOp rr ta tb) :=
  PE.imp (pe_cmpR ho ha hb hm) fun _ _ _ h => rop_imp h
def rTest (t : RTE) : RTT := fun σ M Q => t σ M fun v M' => match v with | .bl k => Q k M' | _ => False
theorem test_up {K : PySem.W.Frag} {H : Hp} {Q : Bool → RM → Prop} {Q0 : Bool → Hp → Prop} (hk : ∀ b M' H', Q b M' → Ext H H' → View K H' M' → Q0 b H') :
    UpK K H (fun v M' => match v with | .bl k => Q k M' | _ => False) (fun x H' => ∃ k, x = .bl k ∧ Q0 k H') := fun rv M' v H' q e w r => by
  cases rv with
  | bl k => simp only [Rep] at r; exact ⟨k, r, hk k M' H' q e w⟩
  | _ => exact q.elim
theorem rtcmp {op : CmpOp} {rr : RR2} (ho : ROp X (compareOp op) rr) (ha : RPE X a ta) (hb : RPE X b tb) (hm : behindInMarks op b = false := by first | exact nomark _ | (with_unfolding_all rfl)) : RPT X (.Compare a [op] [b] pos) (rTest (rOp rr ta tb)) :=
  PT.imp (pt_cmpR ho ha hb hm) fun σ0 H Q0 h => by
    obtain ⟨σ, M, Q, hs, hv, ht, hk⟩ := h
    exact rop_imp ⟨σ, M, _, hs, hv, ht, test_up hk⟩
theorem rtval {e : Expr} {t : RTE} (h : RPE X e t) (he : ∀ whole, isTrue e X.env whole = (do let v ← whole; standAt e.pos; holding [v] (truthy v)) := by intro _; rfl) : RPT X e (rTest t) :=
  PT.imp (pt_val h he) fun σ0 H Q0 h => by
    obtain ⟨σ, M, Q, hs, hv, ht, hk⟩ := h
    exact ⟨σ, M, _, hs, hv, ht, test_up hk⟩
def rChain (rr rr' : RR2) (ta tb tc : RTE) : RTE := fun σ M Q => ta σ M fun x M1 => tb σ M1 fun y M2 => rr x y M2 fun z M3 => match z with
  | .bl k => (k = true → tc σ M3 fun w M4 => rr' y w M4 Q) ∧ (k = false → Q (.bl false) M3)
  | _ => False
theorem chain_imp {K : PySem.W.Frag} {rr rr' : RR2} {σ0 : L2.St} {H : Hp} {Q0 : VK} (h : up K (rChain rr rr' ta tb tc) σ0 H Q0) : tChain (upO K rr) (upO K rr') (up K ta) (up K tb) (up K tc) σ0 H Q0 := by
  obtain ⟨σ, M, Q, hs, hv, ht, hk⟩ := h
  refine ⟨σ, M, _, hs, hv, ht, fun rx M1 x H1 hb e1 v1 r1 => ?_⟩
  refine ⟨σ, M1, _, hs.ext e1, v1, hb, fun ry M2 y H2 hr e2 v2 r2 => ?_⟩
  refine ⟨rx, ry, M2, _, Rep.ext e2 rx x r1, r2, v2, hr, fun rz M3 z H3 hz e3 v3 r3 => ?_⟩
  cases rz with
  | bl k =>
    simp only [Rep] at r3
    refine ⟨k, r3, ?_⟩
    have e13 := (e1.trans e2).trans e3
    cases k with
    | true =>
      refine iteT ?_
      refine ⟨σ, M3, _, hs.ext e13, v3, hz.1 rfl, fun rw M4 w H4 hw e4 v4 r4 => ?_⟩
      exact ⟨ry, rw, M4, Q, Rep.ext (e3.trans e4) ry y r2, r4, v4, hw, hk.ext (e13.trans e4)⟩
    | false => exact iteF (hk _ M3 _ H3 (hz.2 rfl) e13 v3 (by simp only [Rep]))
  | _ => exact hz.elim
theorem rchain {op op' : CmpOp} {rr rr' : RR2} (ho : ROp X (compareOp op) rr) (ho' : ROp X (compareOp op') rr') (ha : RPE X a ta) (hb : RPE X b tb) (hc : RPE X c tc) (hm : lastMarks [op, op'] [b, c] = false := by with_unfolding_all rfl) :
    RPE X (.Compare a [op, op'] [b, c] pos) (rChain rr rr' ta tb tc) := PE.imp (pe_chain ho ho' ha hb hc hm) fun _ _ _ h => chain_imp h
def rUn (g : RV → RM → RVK → Prop) (ta : RTE) : RTE := fun σ M Q => ta σ M fun x M1 => g x M1 Q
def rAnd (t u : RTT) : RTT := fun σ M Q => t σ M fun c M1 => (c = true → u σ M1 Q) ∧ (c = false → Q false M1)
def rOr (t u : RTT) : RTT := fun σ M Q => t σ M fun c M1 => (c = true → Q true M1) ∧ (c = false → u σ M1 Q)
def rNot (t : RTT) : RTT := fun σ M Q => t σ M fun c M1 => Q (!c) M1
theorem rand1 (ha : RPT X a tA) : RPW X (.BoolOp .And [a] pos) tA := pw_and1 ha
theorem ror1 (ha : RPT X a tA) : RPW X (.BoolOp .Or [a] pos) tA := pw_or1 ha
theorem rand (ha : RPT X a tA) (hb : RPW X (.BoolOp .And (b :: rest) pos) tB) : RPW X (.BoolOp .And (a :: b :: rest) pos) (rAnd tA tB) := PW.imp (pw_and ha hb) fun σ0 H Q0 h => by
  obtain ⟨σ, M, Q, hs, hv, ht, hk⟩ := h
  refine ⟨σ, M, _, hs, hv, ht, fun k M1 H1 q e1 v1 => ?_⟩
  cases k with
  | true => exact iteT ⟨σ, M1, Q, hs.ext e1, v1, q.1 rfl, fun b M' H' z e2 w => hk b M' H' z (e1.trans e2) w⟩
  | false => exact iteF (hk false M1 H1 (q.2 rfl) e1 v1)
theorem ror (ha : RPT X a tA) (hb : RPW X (.BoolOp .Or (b :: rest) pos) tB) : RPW X (.BoolOp .Or (a :: b :: rest) pos) (rOr tA tB) := PW.imp (pw_or ha hb) fun σ0 H Q0 h => by
  obtain ⟨σ, M, Q, hs, hv, ht, hk⟩ := h
  refine ⟨σ, M, _, hs, hv, ht, fun k M1 H1 q e1 v1 => ?_⟩
  cases k with
  | true => exact iteT (hk true M1 H1 (q.1 rfl) e1 v1)
  | false => exact iteF ⟨σ, M1, Q, hs.ext e1, v1, q.2 rfl, fun b M' H' z e2 w => hk b M' H' z (e1.trans e2) w⟩
theorem rtw (h : RPW X a tA) : RPT X a tA := PW.pt h
theorem rtnot (ha : RPT X a tA) : RPT X (.UnaryOp .Not a pos) (rNot tA) := PT.imp (pt_not ha) fun σ0 H Q0 h => by
  obtain ⟨σ, M, Q, hs, hv, ht, hk⟩ := h
  exact ⟨σ, M, _, hs, hv, ht, fun k M1 H1 q e1 v1 => hk (!k) M1 H1 q e1 v1⟩
def rAndV (ta tb : RTE) : RTE := fun σ M Q => ta σ M fun x M1 => match x with | .bl c => (c = true → tb σ M1 Q) ∧ (c = false → Q (.bl false) M1) | _ => False
def rOrV (ta tb : RTE) : RTE := fun σ M Q => ta σ M fun x M1 => match x with | .bl c => (c = true → Q (.bl true) M1) ∧ (c = false → tb σ M1 Q) | _ => False
def rNotV (ta : RTE) : RTE := fun σ M Q => ta σ M fun x M1 => match x with | .bl c => Q (.bl (!c)) M1 | _ => False
theorem rone {op} {t : RTE} (h : RPE X a t) : RPE X (.BoolOp op [a] pos) t := pe_one h
theorem randv (ha : RPE X a ta) (hb : RPE X (.BoolOp .And (b :: rest) pos) tb) : RPE X (.BoolOp .And (a :: b :: rest) pos) (rAndV ta tb) := PE.imp (pe_and ha hb) fun σ0 H Q0 h => by
  obtain ⟨σ, M, Q, hs, hv, ht, hk⟩ := h
  refine ⟨σ, M, _, hs, hv, ht, fun rx M1 x H1 q e1 v1 r1 => ?_⟩
  cases rx with
  | bl k =>
    simp only [Rep] at r1
    refine ⟨k, r1, ?_⟩
    cases k with
    | true => exact iteT ⟨σ, M1, Q, hs.ext e1, v1, q.1 rfl, hk.ext e1⟩
    | false => exact iteF (hk _ M1 _ H1 (q.2 rfl) e1 v1 (by simp only [Rep]))
  | _ => exact q.elim
theorem rorv (ha : RPE X a ta) (hb : RPE X (.BoolOp .Or (b :: rest) pos) tb) : RPE X (.BoolOp .Or (a :: b :: rest) pos) (rOrV ta tb) := PE.imp (pe_or ha hb) fun σ0 H Q0 h => by
  obtain ⟨σ, M, Q, hs, hv, ht, hk⟩ := h
  refine ⟨σ, M, _, hs, hv, ht, fun rx M1 x H1 q e1 v1 r1 => ?_⟩
  cases rx with
  | bl k =>
    simp only [Rep] at r1
    refine ⟨k, r1, ?_⟩
    cases k with
    | true => exact iteT (hk _ M1 _ H1 (q.1 rfl) e1 v1 (by simp only [Rep]))
    | false => exact iteF ⟨σ, M1, Q, hs.ext e1, v1, q.2 rfl, hk.ext e1⟩
  | _ => exact q.elim
theorem rnotv (ha : RPE X a ta) : RPE X (.UnaryOp .Not a pos) (rNotV ta) := PE.imp (pe_not ha) fun σ0 H Q0 h => by
  obtain ⟨σ, M, Q, hs, hv, ht, hk⟩ := h
  refine ⟨σ, M, _, hs, hv, ht, fun rx M1 x H1 q e1 v1 r1 => ?_⟩
  cases rx with
  | bl k => simp only [Rep] at r1; exact ⟨k, r1, hk _ M1 _ H1 q e1 v1 (by simp only [Rep])⟩
  | _ => exact q.elim
def rIf (t : RTT) (ta tb : RTE) : RTE := fun σ M Q => t σ M fun c M1 => (c = true → ta σ M1 Q) ∧ (c = false → tb σ M1 Q)
theorem rif {c : Expr} (hc : RPT X c tA) (ha : RPE X a ta) (hb : RPE X b tb) : RPE X (.IfExp c a b pos) (rIf tA ta tb) := PE.imp (pe_ifExp hc ha hb) fun σ0 H Q0 h => by
  obtain ⟨σ, M, Q, hs, hv, ht, hk⟩ := h
  refine ⟨σ, M, _, hs, hv, ht, fun k M1 H1 q e1 v1 => ?_⟩
  cases k with
  | true => exact iteT ⟨σ, M1, Q, hs.ext e1, v1, q.1 rfl, hk.ext e1⟩
  | false => exact iteF ⟨σ, M1, Q, hs.ext e1, v1, q.2 rfl, hk.ext e1⟩
variable {e : Expr} {es : List Expr} {te : RTE} {t : RTA}
def rNil : RTA := fun _ M Q => Q [] M
def rCons (ta : RTE) (tr : RTA) : RTA := fun σ M Q => ta σ M fun x M1 => tr σ M1 fun xs M2 => Q (x :: xs) M2
theorem anil : RPA X [] rNil := PA.imp pa_nil fun σ0 H Q0 h => by
  obtain ⟨σ, M, Q, hs, hv, ht, hk⟩ := h
  exact hk [] M [] H ht (.refl H) hv Reps.nil
theorem acons (ha : RPE X e te) (hr : RPA X es t) (hs : starEach (e :: es) X.env = (false, eval e X.env) :: starEach es X.env := by rfl) : RPA X (e :: es) (rCons te t) := PA.imp (pa_cons ha hr hs) fun σ0 H Q0 h => by
  obtain ⟨σ, M, Q, hs, hv, ht, hk⟩ := h
  refine ⟨σ, M, _, hs, hv, ht, fun rx M1 x H1 q e1 v1 r1 => ?_⟩
  refine ⟨σ, M1, _, hs.ext e1, v1, q, fun rs M2 vs H2 q2 e2 v2 r2 => ?_⟩
  exact hk (rx :: rs) M2 (x :: vs) H2 q2 (e1.trans e2) v2 (Reps.cons (Rep.ext e2 rx x r1) r2)
def rTup (t : RTA) : RTE := fun σ M Q => t σ M fun rs M1 => rs.length ≤ sizeLine ∧ Q (.tup rs) M1
theorem rep_tup {K : PySem.W.Frag} {H : Hp} {p : Addr} {rs : List RV} {vs : List V} (h : H p = none) (r : Reps K H rs vs) : Rep K (upd H p (.tup vs)) (.tup rs) (.ref p) := by
  simp only [Rep]; exact ⟨p, vs, rfl, SqT.of upd_same, Reps.ext (Ext.new h) rs vs r⟩
theorem rep_ls {K : PySem.W.Frag} {H : Hp} {p : Addr} {o : Obj} {rs : List RV} {vs : List V} (h : H p = none) (r : Reps K H rs vs) : Rep K (upd H p (.frz o (.lst vs))) (.ls rs) (.ref p) := by
  simp only [Rep]; exact ⟨p, vs, rfl, .inl ⟨o, upd_same⟩, Reps.ext (Ext.new h) rs vs r⟩
theorem rtup {x1} (h : RPA X es t) : RPE X (.Tuple es x1 pos) (rTup t) := PE.imp (pe_tup h) fun σ0 H Q0 h => by
  obtain ⟨σ, M, Q, hs, hv, ht, hk⟩ := h
  refine ⟨σ, M, _, hs, hv, ht, fun rs M1 vs H1 q e1 v1 r1 => ⟨by rw [← r1.length]; exact q.1, fun p hp => ?_⟩⟩
  exact hk _ M1 _ _ q.2 (e1.trans (Ext.new hp)) (v1.new hp) (rep_tup hp r1)
def rLst (t : RTA) : RTE := fun σ M Q => t σ M fun rs M1 => rs.length ≤ sizeLine ∧ ∀ p, M1 p = none → Q (.ref p) (put M1 p (.lst rs))
theorem rlst (h : RPA X es t) : RPE X (.List es pos) (rLst t) := PE.imp (pe_lst h) fun σ0 H Q0 h => by
  obtain ⟨σ, M, Q, hs, hv, ht, hk⟩ := h
  refine ⟨σ, M, _, hs, hv, ht, fun rs M1 vs H1 q e1 v1 r1 => ⟨by rw [← r1.length]; exact q.1, fun p hp => ?_⟩⟩
  exact hk _ _ _ _ (q.2 p (v1.free hp)) (e1.trans (Ext.new hp)) (v1.newPut hp ⟨vs, rfl, Reps.ext (Ext.new hp) rs vs r1⟩) (by simp only [Rep])
end
section
variable {X : Cx} {pins : List (Addr × Obj)} {σ : L2.St} {H : Hp} {s : Shared}
theorem freeze {p : Addr} {xs : List V} (I : Inv X pins σ H s) (h : H p = some (.lst xs)) : ∃ o, Inv X pins σ (upd H p (.frz o (.lst xs))) s := by
  have hz : xs.length ≤ sizeLine ∧ ∃ (its : List Value) (n : Nat), Vals xs its ∧ s.heap.get? p = some { cls := .type "list", data := .seq its.toArray n } := I.hok p _ h
  obtain ⟨z, its, n, r, e⟩ := id hz
  have np : ∀ b, H b = none → b ≠ p := fun b q w => by subst w; rw [h] at q; cases q
  refine ⟨{ cls := .type "list", data := .seq its.toArray n }, ⟨I.ok, I.os, I.bare, ⟨I.base.keep, I.base.slot, fun b o q w x => ?_, I.base.there, fun b xs' q => ?_, fun b o u q => ?_, fun b ps q => ?_⟩, I.loc, I.cell, ?_, fun x c q => ?_, fun q hq => ?_, fun b u q => ?_, I.len⟩⟩
  · have := I.base.free b o q w x
    rw [upd_ne (np b this)]; exact this
  · have e1 := I.base.tups b xs' q
    rw [upd_ne (ne_of e1 h (by intro z; cases z))]; exact e1
  · have e1 := I.base.frzs b o u q
    rw [upd_ne (ne_of e1 h (by intro z; cases z))]; exact e1
  · obtain ⟨more, e1⟩ := I.base.tbls b ps q
    exact ⟨more, by rw [upd_ne (ne_of e1 h (by intro z; cases z))]; exact e1⟩
  · rw [upd_ne (np _ I.free)]; exact I.free
  · have := I.freeC x c q
    rw [upd_ne (np _ this)]; exact this
  · obtain ⟨a1, a2, a3⟩ := I.pin q hq
    exact ⟨a1, by rw [upd_ne (np _ a2)]; exact a2, a3⟩
  · by_cases hb : b = p
    · subst hb
      rw [upd_same] at q; cases q
      exact ⟨e, z, its, n, r, e⟩
    · rw [upd_ne hb] at q
      refine (I.hok b u q).stay (fun _ _ _ q => q) (fun c q => ?_) fun c ys q => ?_
      · rw [upd_ne (ne_of q h (by intro z; cases z))]; exact q
      · rw [upd_ne (ne_of q h (by intro z; cases z))]; exact q
theorem frozen {Q : VK} {u : Value} (h : EP X pins σ (fun v H' => ∃ H1 p xs, v = .ref p ∧ H1 p = none ∧ H' = upd H1 p (.lst xs) ∧ ∀ o, Q (.ref p) (upd H1 p (.frz o (.lst xs)))) u s) : EP X pins σ Q u s := by
  obtain ⟨v, H', I, r, H1, p, xs, rfl, hn, rfl, q⟩ := h
  obtain ⟨o, I'⟩ := freeze I (p := p) (xs := xs) upd_same
  rw [upd_upd] at I'
  exact ⟨.ref p, _, I', r, q o⟩
end
section
variable {X : Cx} {es : List Expr} {t : RTA} {pos : Pos}
def rLsF (t : RTA) : RTE := fun σ M Q => t σ M fun rs M1 => rs.length ≤ sizeLine ∧ Q (.ls rs) M1
theorem rlsf (h : RPA X es t) : RPE X (.List es pos) (rLsF t) := fun pins s σ0 H Q0 I hw => by
  obtain ⟨σ, M, Q, hs, hv, ht, hk⟩ := hw
  refine thn (pe_lst h pins s σ0 H (fun v H' => ∃ H1 p xs, v = .ref p ∧ H1 p = none ∧ H' = upd H1 p (.lst xs) ∧ ∀ o, Q0 (.ref p) (upd H1 p (.frz o (.lst xs)))) I ?_) fun _ _ e => frozen e
  refine ⟨σ, M, _, hs, hv, ht, fun rs M1 vs H1 q e1 v1 r1 => ⟨by rw [← r1.length]; exact q.1, fun p hp => ⟨H1, p, vs, rfl, hp, rfl, fun o => ?_⟩⟩⟩
  exact hk _ M1 _ _ q.2 (e1.trans (Ext.new hp)) (v1.new hp) (rep_ls hp r1)
end
section
variable {X : Cx} {st : Stmt} {rest : List Stmt} {t u : RTS} {e : Expr} {te : RTE} {pos : Pos}
def rNext : RTS := fun D σ M => D.nx σ M
def rSeq (t u : RTS) : RTS := fun D σ M => t { D with nx := u D } σ M
theorem snil : RPSs X [] rNext := PSs.imp pss_nil fun D0 σ0 H h => by
  obtain ⟨σ, M, D, hs, hv, ht, hd⟩ := h
  exact hd.nx σ M σ0 H ht (.refl H) hv hs
theorem scons (h1 : RPS X st t) (h2 : RPSs X rest u) : RPSs X (st :: rest) (rSeq t u) := PSs.imp (pss_cons h1 h2) fun D0 σ0 H h => by
  obtain ⟨σ, M, D, hs, hv, ht, hd⟩ := h
  refine ⟨σ, M, _, hs, hv, ht, ⟨fun σ' M' σ0' H' q e w r => ?_, hd.rt, hd.bk, hd.ct⟩⟩
  exact ⟨σ', M', D, r, w, q, hd.ext e⟩
theorem sone (h1 : RPS X st t) : RPSs X [st] t := pss_one h1
def rBreak : RTS := fun D σ M => D.bk σ M
def rCont : RTS := fun D σ M => D.ct σ M
def rDrop (te : RTE) : RTS := fun D σ M => te σ M fun _ M1 => D.nx σ M1
theorem sexpr (he : RPE X e te) (hs : swapsWith e none pos.line X.env = pure false := by rfl) : RPS X (.Expr e pos) (rDrop te) := PS.imp (ps_expr he hs) fun D0 σ0 H h => by
  obtain ⟨σ, M, D, hs, hv, ht, hd⟩ := h
  exact ⟨σ, M, _, hs, hv, ht, fun rx M1 x H1 q e1 v1 r1 => hd.nx σ M1 σ0 H1 q e1 v1 (hs.ext e1)⟩
def rRet (te : RTE) : RTS := fun D σ M => te σ M D.rt
theorem sret (he : RPE X e te) : RPS X (.Return (some e) pos) (rRet te) := PS.imp (ps_ret he) fun D0 σ0 H h => by
  obtain ⟨σ, M, D, hs, hv, ht, hd⟩ := h
  exact ⟨σ, M, _, hs, hv, ht, hd.rt⟩
def rRetN : RTS := fun D _ M => D.rt .non M
def rIfS (c : RTT) (t u : RTS) : RTS := fun D σ M => c σ M fun b M1 => (b = true → t D σ M1) ∧ (b = false → u D σ M1)
theorem sif {c : Expr} {a b : List Stmt} {tc : RTT} (hc : RPT X c tc) (ha : RPSs X a t) (hb : RPSs X b u) : RPS X (.If c a b pos) (rIfS tc t u) := PS.imp (ps_if hc ha hb) fun D0 σ0 H h => by
  obtain ⟨σ, M, D, hs, hv, ht, hd⟩ := h
  refine ⟨σ, M, _, hs, hv, ht, fun k M1 H1 q e1 v1 => ?_⟩
  cases k with
  | true => exact iteT ⟨σ, M1, D, hs.ext e1, v1, q.1 rfl, hd.ext e1⟩
  | false => exact iteF ⟨σ, M1, D, hs.ext e1, v1, q.2 rfl, hd.ext e1⟩
def rSet (i : Nat) (te : RTE) : RTS := fun D σ M => te σ M fun x M1 => D.nx (σ.set i (some x)) M1
theorem sset (i : Nat) {x : Str} {pos' : Pos} (he : RPE X e te) (hN : X.N.Nodup) (hi : X.N[i]? = some x := by rfl) (hx : Loc X.env.scope x := by first | exact Or.inl rfl | exact Or.inr rfl) (hs : swapsWith e (some (.Name x pos')) pos.line X.env = pure false := by rfl)
    (hf : X.fn x = true ∨ X.env.scope.names.lookup x = some .local := by first | exact .inl rfl | exact .inr rfl) : RPS X (.Assign [.Name x pos'] e pos) (rSet i te) := PS.imp (ps_set hN hi hx he hs hf) fun D0 σ0 H h => by
  obtain ⟨σ, M, D, hs, hv, ht, hd⟩ := h
  exact ⟨σ, M, _, hs, hv, ht, fun rx M1 x H1 q e1 v1 r1 => hd.nx _ M1 _ H1 q e1 v1 ((hs.ext e1).set r1 i)⟩
abbrev RTG := RV → RSt → RM → (RSt → RM → Prop) → Prop
def upG (K : PySem.W.Frag) (g : RTG) : TG := fun v σ0 H Q0 => ∃ rv σ M Q, Rep K H rv v ∧ RepSt K H σ σ0 ∧ View K H M ∧ g rv σ M Q ∧ UpS K H Q Q0
def RPG (X : Cx) (target : Expr) (g : RTG) : Prop := PG X target (upG X.K g)
theorem PG.imp {tg : Expr} {t t' : TG} (h : PG X tg t) (i : ∀ v σ H Q, t' v σ H Q → t v σ H Q) : PG X tg t' := fun pins s σ H v u Q I r w => h pins s σ H v u Q I r (i v σ H Q w)
def rgN (i : Nat) : RTG := fun x σ M Q => Q (σ.set i (some x)) M
theorem gname (i : Nat) {x : Str} {pos : Pos} (hN : X.N.Nodup) (hi : X.N[i]? = some x := by rfl) (hx : Loc X.env.scope x := by first | exact Or.inl rfl | exact Or.inr rfl)
    (hf : X.fn x = true ∨ X.env.scope.names.lookup x = some .local := by first | exact .inl rfl | exact .inr rfl) : RPG X (.Name x pos) (rgN i) := PG.imp (pg_name hN hi hx hf) fun v σ0 H Q0 h => by
  obtain ⟨rv, σ, M, Q, hr, hs, hv, hg, hk⟩ := h
  exact hk _ M _ H hg (.refl H) hv (hs.set hr i)
def setAll : RSt → List Nat → List RV → RSt
  | σ, i :: is, x :: xs => setAll (σ.set i (some x)) is xs
  | σ, _, _ => σ
def rgU (is : List Nat) : RTG := fun x σ M Q => match x with | .tup xs => xs.length = is.length ∧ Q (setAll σ is xs) M | _ => False
def rAsg (te : RTE) (g : RTG) : RTS := fun D σ M => te σ M fun x M1 => g x σ M1 D.nx
theorem sasg {tg e : Expr} {te : RTE} {g : RTG} {pos : Pos} (he : RPE X e te) (hg : RPG X tg g) (hs : swapsWithSole [tg] e pos.line X.env = pure false := by rfl) (hw : swappedStores [tg] e X.env = pure none := by rfl)
    (h1 : (assignEach [tg] X.env).map (·.2) = [assign tg X.env] := by rfl) : RPS X (.Assign [tg] e pos) (rAsg te g) := PS.imp (ps_asg he hg hs hw h1) fun D0 σ0 H h => by
  obtain ⟨σ, M, D, hs, hv, ht, hd⟩ := h
  exact ⟨σ, M, _, hs, hv, ht, fun rx M1 x H1 q e1 v1 r1 => ⟨rx, σ, M1, D.nx, r1, hs.ext e1, v1, q, hd.nx.ext e1⟩⟩
abbrev RTSet := RV → RV → RV → RM → (RM → Prop) → Prop
def upSet (K : PySem.W.Frag) (g : RTSet) : TSet := fun o i v H Q0 => ∃ ro ri rx M Q, Rep K H ro o ∧ Rep K H ri i ∧ Rep K H rx v ∧ View K H M ∧ g ro ri rx M Q ∧ ∀ M' H', Q M' → Ext H H' → View K H' M' → Q0 H'
def rgSub (to ti : RTE) (g : RTSet) : RTG := fun v σ M Q => to σ M fun o M1 => ti σ M1 fun i M2 => g o i v M2 fun M3 => Q σ M3
theorem gsub {o i : Expr} {to ti : RTE} {g : RTSet} {pos : Pos} (ho : RPE X o to) (hi : RPE X i ti) (hs : PSet X (upSet X.K g))
    (ha : ∀ v, assign (.Subscript o i pos) X.env v = (do
      let ov ← holding [v] (eval o X.env)
      let iv ← holding [v, ov] (eval i X.env)
      standAt pos
      holding [v, ov, iv] (setItem ov iv v)
      release [v, ov, iv] []) := by intro _; rfl) : RPG X (.Subscript o i pos) (rgSub to ti g) := PG.imp (pg_sub ho hi hs ha) fun v σ0 H Q0 h => by
  obtain ⟨rv, σ, M, Q, hr, hs, hv, hg, hk⟩ := h
  refine ⟨σ, M, _, hs, hv, hg, fun ro M1 o H1 q e1 v1 r1 => ?_⟩
  refine ⟨σ, M1, _, hs.ext e1, v1, q, fun ri M2 i H2 q2 e2 v2 r2 => ?_⟩
  refine ⟨ro, ri, rv, M2, _, Rep.ext e2 ro o r1, r2, Rep.ext (e1.trans e2) rv v hr, v2, q2, fun M3 H3 q3 e3 v3 => ?_⟩
  have e := (e1.trans e2).trans e3
  exact hk σ M3 σ0 H3 q3 e v3 (hs.ext e)
def rForL (g : RTG) (tb : RTS) (D : RD) : List RV → RSt → RM → Prop
  | [], σ, M => D.nx σ M
  | x :: r, σ, M => g x σ M fun σ2 M2 => tb { D with nx := rForL g tb D r, ct := rForL g tb D r, bk := D.nx } σ2 M2
end
end R
set_option Elab.async false
set_option linter.all false
set_option maxRecDepth 100000
set_option maxHeartbeats 1000000
namespace R
open PySem PySem.Spec PyProof.Rows L2
open PySem.SeqAt (EqAt RcAt RcNeAt)
mutual
def eqR : RV → RV → Bool
  | .non, .non => true
  | .bl a, .bl b => a == b
  | .bl a, .int b => (if a then 1 else 0) == b
  | .int a, .bl b => a == (if b then 1 else 0)
  | .int a, .int b => a == b
  | .str a, .str b => a == b
  | .tup xs, .tup ys => eqRs xs ys
  | .ls xs, .ls ys => eqRs xs ys
  | _, _ => false
def eqRs : List RV → List RV → Bool
  | [], [] => true
  | x :: xs, y :: ys => eqR x y && eqRs xs ys
  | _, _ => false
end
def okR : Nat → RV → Bool
  | _, .non => true
  | _, .bl _ => true
  | _, .int _ => true
  | _, .str _ => true
  | n + 1, .tup xs => xs.all (okR n)
  | n + 1, .ls xs => xs.all (okR n)
  | _, _ => false
mutual
def Den (h : Heap) : RV → Value → Prop
  | .non, u => u = .none
  | .bl b, u => u = .bool b
  | .int i, u => ∃ t, u = .int i t
  | .str x, u => ∃ t, u = .str x t
  | .tup xs, u => ∃ a its, u = .ref a ∧ h.IsTuple a its.toArray ∧ Dens h xs its
  | .ls xs, u => ∃ a its, u = .ref a ∧ h.IsList a its.toArray ∧ Dens h xs its
  | .ref _, _ => False
  | .ty _, _ => False
def Dens (h : Heap) : List RV → List Value → Prop
  | [], us => us = []
  | x :: xs, us => ∃ u r, us = u :: r ∧ Den h x u ∧ Dens h xs r
end
theorem Dens.length {h : Heap} : ∀ {xs : List RV} {us : List Value}, Dens h xs us → xs.length = us.length
  | [], us, d => by simp only [Dens] at d; subst d; rfl
  | x :: xs, us, d => by
    simp only [Dens] at d
    obtain ⟨u, r, rfl, _, t⟩ := d
    simp [Dens.length t]
theorem Dens.get {h : Heap} : ∀ {xs : List RV} {us : List Value} {j : Nat} {u : Value}, Dens h xs us → us[j]? = some u → Den h (xs.getD j .non) u ∧ xs.getD j .non ∈ xs
  | [], us, _, _, d, e => by simp only [Dens] at d; subst d; simp at e
  | x :: xs, us, 0, u, d, e => by
    simp only [Dens] at d
    obtain ⟨v, r, rfl, h1, _⟩ := d
    simp at e; subst e
    exact ⟨by simpa using h1, by simp⟩
  | x :: xs, us, j + 1, u, d, e => by
    simp only [Dens] at d
    obtain ⟨v, r, rfl, _, t⟩ := d
    obtain ⟨a, b⟩ := Dens.get (j := j) t (by simpa using e)
    exact ⟨by simpa using a, by simp only [List.getD_cons_succ]; exact List.mem_cons_of_mem _ b⟩
section
variable {X : Cx} {pins : List (Addr × Obj)} {σ : L2.St} {H : Hp} {s : Shared}
theorem Vals.cons_inv {v : V} {vs : List V} {us : List Value} (r : Vals (v :: vs) us) : ∃ u us', us = u :: us' ∧ RelV v u ∧ Vals vs us' := by
  cases r with
  | cons a b => exact ⟨_, _, rfl, a, b⟩
theorem den_of (I : Inv X pins σ H s) : ∀ (n : Nat), (∀ (r : RV) (v : V) (u : Value), okR n r = true → Rep X.K H r v → RelV v u → Den s.heap r u) := by
  intro n
  induction n with
  | zero =>
    intro r v u o h w
    cases r with
    | non => simp only [Rep] at h; subst h; simp only [Den]; exact w
    | bl b => simp only [Rep] at h; subst h; simp only [Den]; exact w
    | int i => simp only [Rep] at h; subst h; simp only [Den]; exact w
    | str x => simp only [Rep] at h; subst h; simp only [Den]; exact w
    | _ => simp [okR] at o
  | succ n ih =>
    have all : ∀ (rs : List RV) (vs : List V) (us : List Value), rs.all (okR n) = true → Reps X.K H rs vs → Vals vs us → Dens s.heap rs us := by
      intro rs
      induction rs with
      | nil =>
        intro vs us _ h w
        simp only [Reps] at h; subst h; cases w; simp only [Dens]
      | cons x xs ihx =>
        intro vs us o h w
        simp only [Reps] at h
        obtain ⟨v, r, rfl, h1, h2⟩ := h
        obtain ⟨u, us', rfl, w1, w2⟩ := Vals.cons_inv w
        rw [List.all_cons, Bool.and_eq_true] at o
        simp only [Dens]
        exact ⟨u, us', rfl, ih x v u o.1 h1 w1, ihx r us' o.2 h2 w2⟩
    intro r v u o h w
    cases r with
    | non => simp only [Rep] at h; subst h; simp only [Den]; exact w
    | bl b => simp only [Rep] at h; subst h; simp only [Den]; exact w
    | int i => simp only [Rep] at h; subst h; simp only [Den]; exact w
    | str x => simp only [Rep] at h; subst h; simp only [Den]; exact w
    | tup xs =>
      simp only [Rep] at h
      obtain ⟨a, vs, rfl, h1, h2⟩ := h
      obtain ⟨its, rv, ht, _⟩ := I.tuple h1
      simp only [Den]
      exact ⟨a, its, w, ht, all xs vs its o h2 rv⟩
    | ls xs =>
      simp only [Rep] at h
      obtain ⟨a, vs, rfl, h1, h2⟩ := h
      obtain ⟨its, rv, ht, _⟩ := I.list h1.sq
      simp only [Den]
      exact ⟨a, its, w, ht.isList, all xs vs its o h2 rv⟩
    | _ => simp [okR] at o
end
theorem seq_inj {h : Heap} {a : Addr} {xs ys : List Value} (p : h.IsTuple a xs.toArray) (q : h.IsTuple a ys.toArray) : xs = ys := by
  obtain ⟨o, e, _, n, d⟩ := p
  obtain ⟨o', e', _, n', d'⟩ := q
  rw [e] at e'; cases e'
  rw [d] at d'
  injection d' with d1 _
  simpa using congrArg Array.toList d1
theorem lst_inj {h : Heap} {a : Addr} {xs ys : List Value} (p : h.IsList a xs.toArray) (q : h.IsList a ys.toArray) : xs = ys := by
  obtain ⟨o, e, _, n, d⟩ := p
  obtain ⟨o', e', _, n', d'⟩ := q
  rw [e] at e'; cases e'
  rw [d] at d'
  injection d' with d1 _
  simpa using congrArg Array.toList d1
theorem lt_apart {h : Heap} {a : Addr} {xs ys : Array Value} (p : h.IsList a xs) (q : h.IsTuple a ys) : False := by
  obtain ⟨o, e, c, _⟩ := p
  obtain ⟨o', e', c', _⟩ := q
  rw [e] at e'; cases e'
  rw [c] at c'
  exact absurd c' (by decide +kernel)
def isS : RV → Bool
  | .non => true
  | .bl _ => true
  | .int _ => true
  | .str _ => true
  | _ => false
def absR : Value → Option RV
  | .none => some .non
  | .bool b => some (.bl b)
  | .int i _ => some (.int i)
  | .str x _ => some (.str x)
  | _ => none
theorem den_s {h : Heap} {u : Value} : ∀ {x : RV}, isS x = true → Den h x u → absR u = some x
  | .non, _, d => by simp only [Den] at d; subst d; rfl
  | .bl _, _, d => by simp only [Den] at d; subst d; rfl
  | .int _, _, d => by simp only [Den] at d; obtain ⟨t, rfl⟩ := d; rfl
  | .str _, _, d => by simp only [Den] at d; obtain ⟨t, rfl⟩ := d; rfl
theorem den_n {h : Heap} {u : Value} : ∀ {x : RV}, isS x = false → Den h x u → absR u = none
  | .tup _, _, d => by simp only [Den] at d; obtain ⟨a, its, rfl, _⟩ := d; rfl
  | .ls _, _, d => by simp only [Den] at d; obtain ⟨a, its, rfl, _⟩ := d; rfl
  | .ref _, _, d => by simp only [Den] at d
  | .ty _, _, d => by simp only [Den] at d
theorem den_inj {h : Heap} : ∀ (n : Nat) (x y : RV) (u : Value), okR n x = true → okR n y = true → Den h x u → Den h y u → x = y := by
  intro n
  have sc : ∀ (x y : RV) (u : Value), isS x = true → Den h x u → Den h y u → x = y := by
    intro x y u sx dx dy
    have ex := den_s sx dx
    cases sy : isS y with
    | true =>
      have ey := den_s sy dy
      rw [ex] at ey
      exact Option.some.inj ey
    | false =>
      have ey := den_n sy dy
      rw [ex] at ey
      cases ey
  induction n with
  | zero =>
    intro x y u ox oy dx dy
    have sx : isS x = true := by cases x <;> first | rfl | (simp [okR] at ox)
    exact sc x y u sx dx dy
  | succ n ih =>
    have all : ∀ (xs ys : List RV) (us : List Value), xs.all (okR n) = true → ys.all (okR n) = true → Dens h xs us → Dens h ys us → xs = ys := by
      intro xs
      induction xs with
      | nil =>
        intro ys us _ _ d e
        simp only [Dens] at d; subst d
        cases ys with
        | nil => rfl
        | cons y ys => simp only [Dens] at e; obtain ⟨_, _, z, _⟩ := e; cases z
      | cons x xs ihx =>
        intro ys us ox oy d e
        simp only [Dens] at d
        obtain ⟨u, r, rfl, d1, d2⟩ := d
        cases ys with
        | nil => simp only [Dens] at e; cases e
        | cons y ys =>
          simp only [Dens] at e
          obtain ⟨u', r', z, e1, e2⟩ := e
          cases z
          rw [List.all_cons, Bool.and_eq_true] at ox oy
          rw [ih x y u ox.1 oy.1 d1 e1, ihx ys r ox.2 oy.2 d2 e2]
    intro x y u ox oy dx dy
    cases sx : isS x with
    | true => exact sc x y u sx dx dy
    | false =>
      cases sy : isS y with
      | true => exact (sc y x u sy dy dx).symm
      | false =>
        cases x with
        | tup xs =>
          simp only [Den] at dx
          obtain ⟨a, its, rfl, p, d⟩ := dx
          cases y with
          | tup ys =>
            simp only [Den] at dy
            obtain ⟨a', its', z, p', d'⟩ := dy
            cases z
            obtain rfl := seq_inj p p'
            rw [all xs ys its ox oy d d']
          | ls ys =>
            simp only [Den] at dy
            obtain ⟨a', its', z, p', d'⟩ := dy
            cases z
            exact (lt_apart p' p).elim
          | ref _ => simp only [Den] at dy
          | ty _ => simp only [Den] at dy
          | _ => cases sy
        | ls xs =>
          simp only [Den] at dx
          obtain ⟨a, its, rfl, p, d⟩ := dx
          cases y with
          | ls ys =>
            simp only [Den] at dy
            obtain ⟨a', its', z, p', d'⟩ := dy
            cases z
            obtain rfl := lst_inj p p'
            rw [all xs ys its ox oy d d']
          | tup ys =>
            simp only [Den] at dy
            obtain ⟨a', its', z, p', d'⟩ := dy
            cases z
            exact (lt_apart p p').elim
          | ref _ => simp only [Den] at dy
          | ty _ => simp only [Den] at dy
          | _ => cases sy
        | ref _ => simp only [Den] at dx
        | ty _ => simp only [Den] at dx
        | _ => cases sx
mutual
theorem eqR_refl : ∀ (x : RV), (∃ n, okR n x = true) → eqR x x = true
  | .non, _ => by simp [eqR]
  | .bl _, _ => by simp [eqR]
  | .int _, _ => by simp [eqR]
  | .str _, _ => by simp [eqR]
  | .tup xs, ⟨n, o⟩ => by
    rw [eqR]
    refine eqRs_refl xs ?_
    cases n with
    | zero => simp [okR] at o
    | succ n => exact ⟨n, o⟩
  | .ls xs, ⟨n, o⟩ => by
    rw [eqR]
    refine eqRs_refl xs ?_
    cases n with
    | zero => simp [okR] at o
    | succ n => exact ⟨n, o⟩
  | .ref _, ⟨n, o⟩ => by cases n <;> simp [okR] at o
  | .ty _, ⟨n, o⟩ => by cases n <;> simp [okR] at o
theorem eqRs_refl : ∀ (xs : List RV), (∃ n, xs.all (okR n) = true) → eqRs xs xs = true
  | [], _ => by simp [eqRs]
  | x :: xs, ⟨n, o⟩ => by
    rw [List.all_cons, Bool.and_eq_true] at o
    rw [eqRs, eqR_refl x ⟨n, o.1⟩, eqRs_refl xs ⟨n, o.2⟩]; rfl
end
abbrev pairR (xs ys : List RV) (j : Nat) : Bool := eqR (xs.getD j .non) (ys.getD j .non)
theorem eqRs_eq : ∀ xs ys : List RV, ((List.range (min xs.length ys.length)).all (pairR xs ys) && xs.length == ys.length) = eqRs xs ys
  | [], [] => by simp [eqRs]
  | [], _ :: _ => by simp [eqRs]
  | _ :: _, [] => by simp [eqRs]
  | x :: xs, y :: ys => by
    have ih := eqRs_eq xs ys
    have e1 : min (x :: xs).length (y :: ys).length = min xs.length ys.length + 1 := by simp only [List.length_cons]; omega
    have e2 : ((x :: xs).length == (y :: ys).length) = (xs.length == ys.length) := by simp
    have e3 : (List.range (min xs.length ys.length + 1)).all (pairR (x :: xs) (y :: ys)) = (eqR x y && (List.range (min xs.length ys.length)).all (pairR xs ys)) := by
      rw [List.range_succ_eq_map, List.all_cons, List.all_map]
      rfl
    rw [e1, e2, e3, eqRs, ← ih, Bool.and_assoc]
theorem eqRs_same {xs ys : List RV} (h : xs.length = ys.length) : (List.range xs.length).all (pairR xs ys) = eqRs xs ys := by
  have := eqRs_eq xs ys
  rw [← h, Nat.min_self] at this
  simpa using this
theorem eqRs_other {xs ys : List RV} (h : xs.length ≠ ys.length) : eqRs xs ys = false := by
  have := eqRs_eq xs ys
  rw [← this]
  simp [h]
theorem in1_units (A : Around) : A.in1.units = A.units + 1 := rfl
theorem eqAt_den : ∀ (n : Nat) (x y : RV) (A : Around) (s : Shared) (u w : Value), okR n x = true → okR n y = true → Den s.heap x u → Den s.heap y w → A.units + n < cLine → EqAt A s u w (eqR x y) := by
  intro n
  induction n with
  | zero =>
    intro x y A s u w ox oy dx dy hu
    cases x with
    | non =>
      simp only [Den] at dx
      cases y with
      | non =>
        simp only [Den] at dy
        subst dx
        subst dy
        simp only [eqR, Bool.not_false, Bool.not_true]
        exact EqAt.same _
      | bl y =>
        simp only [Den] at dy
        subst dx
        subst dy
        simp only [eqR, Bool.not_false, Bool.not_true]
        exact EqAt.none_bool _
      | int y =>
        simp only [Den] at dy
        subst dx
        obtain ⟨t2, rfl⟩ := dy
        simp only [eqR, Bool.not_false, Bool.not_true]
        exact EqAt.none_int _ _
      | str y =>
        simp only [Den] at dy
        subst dx
        obtain ⟨t2, rfl⟩ := dy
        simp only [eqR, Bool.not_false, Bool.not_true]
        exact EqAt.none_str _ _
      | ref y => exact (by simpa only [Den] using dy : False).elim
      | ty y => exact (by simpa only [Den] using dy : False).elim
      | tup y => simp [okR] at oy
      | ls y => simp [okR] at oy
    | bl x =>
      simp only [Den] at dx
      cases y with
      | non =>
        simp only [Den] at dy
        subst dx
        subst dy
        simp only [eqR, Bool.not_false, Bool.not_true]
        exact EqAt.bool_none _
      | bl y =>
        simp only [Den] at dy
        subst dx
        subst dy
        simp only [eqR, Bool.not_false, Bool.not_true]
        exact EqAt.bool_bool _ _
      | int y =>
        simp only [Den] at dy
        subst dx
        obtain ⟨t2, rfl⟩ := dy
        simp only [eqR, Bool.not_false, Bool.not_true]
        exact EqAt.bool_int _ _ _
      | str y =>
        simp only [Den] at dy
        subst dx
        obtain ⟨t2, rfl⟩ := dy
        simp only [eqR, Bool.not_false, Bool.not_true]
        exact EqAt.bool_str _ _ _
      | ref y => exact (by simpa only [Den] using dy : False).elim
      | ty y => exact (by simpa only [Den] using dy : False).elim
      | tup y => simp [okR] at oy
      | ls y => simp [okR] at oy
    | int x =>
      simp only [Den] at dx
      cases y with
      | non =>
        simp only [Den] at dy
        obtain ⟨t1, rfl⟩ := dx
        subst dy
        simp only [eqR, Bool.not_false, Bool.not_true]
        exact EqAt.int_none _ _
      | bl y =>
        simp only [Den] at dy
        obtain ⟨t1, rfl⟩ := dx
        subst dy
        simp only [eqR, Bool.not_false, Bool.not_true]
        exact EqAt.int_bool _ _ _
      | int y =>
        simp only [Den] at dy
        obtain ⟨t1, rfl⟩ := dx
        obtain ⟨t2, rfl⟩ := dy
        simp only [eqR, Bool.not_false, Bool.not_true]
        exact EqAt.int_int _ _ _ _
      | str y =>
        simp only [Den] at dy
        obtain ⟨t1, rfl⟩ := dx
        obtain ⟨t2, rfl⟩ := dy
        simp only [eqR, Bool.not_false, Bool.not_true]
        exact EqAt.int_str _ _ _ _
      | ref y => exact (by simpa only [Den] using dy : False).elim
      | ty y => exact (by simpa only [Den] using dy : False).elim
      | tup y => simp [okR] at oy
      | ls y => simp [okR] at oy
    | str x =>
      simp only [Den] at dx
      cases y with
      | non =>
        simp only [Den] at dy
        obtain ⟨t1, rfl⟩ := dx
        subst dy
        simp only [eqR, Bool.not_false, Bool.not_true]
        exact EqAt.str_none _ _
      | bl y =>
        simp only [Den] at dy
        obtain ⟨t1, rfl⟩ := dx
        subst dy
        simp only [eqR, Bool.not_false, Bool.not_true]
        exact EqAt.str_bool _ _ _
      | int y =>
        simp only [Den] at dy
        obtain ⟨t1, rfl⟩ := dx
        obtain ⟨t2, rfl⟩ := dy
        simp only [eqR, Bool.not_false, Bool.not_true]
        exact EqAt.str_int _ _ _ _
      | str y =>
        simp only [Den] at dy
        obtain ⟨t1, rfl⟩ := dx
        obtain ⟨t2, rfl⟩ := dy
        simp only [eqR, Bool.not_false, Bool.not_true]
        exact EqAt.str_str _ _ _ _
      | ref y => exact (by simpa only [Den] using dy : False).elim
      | ty y => exact (by simpa only [Den] using dy : False).elim
      | tup y => simp [okR] at oy
      | ls y => simp [okR] at oy
    | ref x => exact (by simpa only [Den] using dx : False).elim
    | ty x => exact (by simpa only [Den] using dx : False).elim
    | tup x => simp [okR] at ox
    | ls x => simp [okR] at ox
  | succ n ih =>
    intro x y A s u w ox oy dx dy hu
    have hu0 : A.units < cLine := by omega
    have item : ∀ (xs ys : List RV) (us ws : List Value), xs.all (okR n) = true → ys.all (okR n) = true → Dens s.heap xs us → Dens s.heap ys ws →
        ∀ j (j1 : j < us.toArray.size) (j2 : j < ws.toArray.size), EqAt A.in1 s us.toArray[j] ws.toArray[j] (pairR xs ys j) := fun xs ys us ws o1 o2 d1 d2 j j1 j2 => by
      obtain ⟨a1, b1⟩ := d1.get (j := j) (u := us.toArray[j]) (by simp)
      obtain ⟨a2, b2⟩ := d2.get (j := j) (u := ws.toArray[j]) (by simp)
      exact ih _ _ A.in1 s _ _ (List.all_eq_true.mp o1 _ b1) (List.all_eq_true.mp o2 _ b2) a1 a2 (by rw [in1_units]; omega)
    have same_EqAt_tup : ∀ (xs ys : List RV) (a a' : Addr) (its its' : List Value), s.heap.IsTuple a its.toArray → s.heap.IsTuple a' its'.toArray → Dens s.heap xs its → Dens s.heap ys its' → okR (n + 1) (.tup xs) = true → okR (n + 1) (.tup ys) = true → EqAt A s (.ref a) (.ref a') (eqR (RV.tup xs) (RV.tup ys)) := by
      intro xs ys a a' its its' p p' d d' ox oy
      by_cases ha : a = a'
      · subst ha
        obtain rfl := seq_inj p p'
        have e : RV.tup xs = RV.tup ys := den_inj (n + 1) _ _ (.ref a) ox oy (by simp only [Den]; exact ⟨a, its, rfl, p, d⟩) (by simp only [Den]; exact ⟨a, its, rfl, p, d'⟩)
        rw [← e, eqR_refl _ ⟨_, ox⟩]
        exact EqAt.same _
      refine EqAt.of_refs ha ?_
      rw [eqR, ← eqRs_eq, d.length, d'.length]
      have := RcAt.tuples p p' hu0 (item xs ys its its' ox oy d d')
      simpa using this
    have same_EqAt_ls : ∀ (xs ys : List RV) (a a' : Addr) (its its' : List Value), s.heap.IsList a its.toArray → s.heap.IsList a' its'.toArray → Dens s.heap xs its → Dens s.heap ys its' → okR (n + 1) (.ls xs) = true → okR (n + 1) (.ls ys) = true → EqAt A s (.ref a) (.ref a') (eqR (RV.ls xs) (RV.ls ys)) := by
      intro xs ys a a' its its' p p' d d' ox oy
      by_cases ha : a = a'
      · subst ha
        obtain rfl := lst_inj p p'
        have e : RV.ls xs = RV.ls ys := den_inj (n + 1) _ _ (.ref a) ox oy (by simp only [Den]; exact ⟨a, its, rfl, p, d⟩) (by simp only [Den]; exact ⟨a, its, rfl, p, d'⟩)
        rw [← e, eqR_refl _ ⟨_, ox⟩]
        exact EqAt.same _
      refine EqAt.of_refs ha ?_
      rw [eqR]
      by_cases hz : xs.length = ys.length
      · rw [← eqRs_same hz, d.length]
        have := RcAt.lists p p' (by simp [← d.length, ← d'.length, hz]) hu0 (item xs ys its its' ox oy d d')
        simpa using this
      · rw [eqRs_other hz]
        exact RcAt.lists_lengths p p' (by simp [← d.length, ← d'.length, hz]) hu0
    cases x with
    | non =>
      simp only [Den] at dx
      cases y with
      | non =>
        simp only [Den] at dy
        subst dx
        subst dy
        simp only [eqR, Bool.not_false, Bool.not_true]
        exact EqAt.same _
      | bl y =>
        simp only [Den] at dy
        subst dx
        subst dy
        simp only [eqR, Bool.not_false, Bool.not_true]
        exact EqAt.none_bool _
      | int y =>
        simp only [Den] at dy
        subst dx
        obtain ⟨t2, rfl⟩ := dy
        simp only [eqR, Bool.not_false, Bool.not_true]
        exact EqAt.none_int _ _
      | str y =>
        simp only [Den] at dy
        subst dx
        obtain ⟨t2, rfl⟩ := dy
        simp only [eqR, Bool.not_false, Bool.not_true]
        exact EqAt.none_str _ _
      | tup y =>
        simp only [Den] at dy
        subst dx
        obtain ⟨a2, its2, rfl, p2, d2⟩ := dy
        simp only [eqR, Bool.not_false, Bool.not_true]
        exact EqAt.none_tuple p2 hu0
      | ls y =>
        simp only [Den] at dy
        subst dx
        obtain ⟨a2, its2, rfl, p2, d2⟩ := dy
        simp only [eqR, Bool.not_false, Bool.not_true]
        exact EqAt.none_list p2 hu0
      | ref y => exact (by simpa only [Den] using dy : False).elim
      | ty y => exact (by simpa only [Den] using dy : False).elim
    | bl x =>
      simp only [Den] at dx
      cases y with
      | non =>
        simp only [Den] at dy
        subst dx
        subst dy
        simp only [eqR, Bool.not_false, Bool.not_true]
        exact EqAt.bool_none _
      | bl y =>
        simp only [Den] at dy
        subst dx
        subst dy
        simp only [eqR, Bool.not_false, Bool.not_true]
        exact EqAt.bool_bool _ _
      | int y =>
        simp only [Den] at dy
        subst dx
        obtain ⟨t2, rfl⟩ := dy
        simp only [eqR, Bool.not_false, Bool.not_true]
        exact EqAt.bool_int _ _ _
      | str y =>
        simp only [Den] at dy
        subst dx
        obtain ⟨t2, rfl⟩ := dy
        simp only [eqR, Bool.not_false, Bool.not_true]
        exact EqAt.bool_str _ _ _
      | tup y =>
        simp only [Den] at dy
        subst dx
        obtain ⟨a2, its2, rfl, p2, d2⟩ := dy
        simp only [eqR, Bool.not_false, Bool.not_true]
        exact EqAt.bool_tuple _ p2 hu0
      | ls y =>
        simp only [Den] at dy
        subst dx
        obtain ⟨a2, its2, rfl, p2, d2⟩ := dy
        simp only [eqR, Bool.not_false, Bool.not_true]
        exact EqAt.bool_list _ p2 hu0
      | ref y => exact (by simpa only [Den] using dy : False).elim
      | ty y => exact (by simpa only [Den] using dy : False).elim
    | int x =>
      simp only [Den] at dx
      cases y with
      | non =>
        simp only [Den] at dy
        obtain ⟨t1, rfl⟩ := dx
        subst dy
        simp only [eqR, Bool.not_false, Bool.not_true]
        exact EqAt.int_none _ _
      | bl y =>
        simp only [Den] at dy
        obtain ⟨t1, rfl⟩ := dx
        subst dy
        simp only [eqR, Bool.not_false, Bool.not_true]
        exact EqAt.int_bool _ _ _
      | int y =>
        simp only [Den] at dy
        obtain ⟨t1, rfl⟩ := dx
        obtain ⟨t2, rfl⟩ := dy
        simp only [eqR, Bool.not_false, Bool.not_true]
        exact EqAt.int_int _ _ _ _
      | str y =>
        simp only [Den] at dy
        obtain ⟨t1, rfl⟩ := dx
        obtain ⟨t2, rfl⟩ := dy
        simp only [eqR, Bool.not_false, Bool.not_true]
        exact EqAt.int_str _ _ _ _
      | tup y =>
        simp only [Den] at dy
        obtain ⟨t1, rfl⟩ := dx
        obtain ⟨a2, its2, rfl, p2, d2⟩ := dy
        simp only [eqR, Bool.not_false, Bool.not_true]
        exact EqAt.int_tuple _ _ p2 hu0
      | ls y =>
        simp only [Den] at dy
        obtain ⟨t1, rfl⟩ := dx
        obtain ⟨a2, its2, rfl, p2, d2⟩ := dy
        simp only [eqR, Bool.not_false, Bool.not_true]
        exact EqAt.int_list _ _ p2 hu0
      | ref y => exact (by simpa only [Den] using dy : False).elim
      | ty y => exact (by simpa only [Den] using dy : False).elim
    | str x =>
      simp only [Den] at dx
      cases y with
      | non =>
        simp only [Den] at dy
        obtain ⟨t1, rfl⟩ := dx
        subst dy
        simp only [eqR, Bool.not_false, Bool.not_true]
        exact EqAt.str_none _ _
      | bl y =>
        simp only [Den] at dy
        obtain ⟨t1, rfl⟩ := dx
        subst dy
        simp only [eqR, Bool.not_false, Bool.not_true]
        exact EqAt.str_bool _ _ _
      | int y =>
        simp only [Den] at dy
        obtain ⟨t1, rfl⟩ := dx
        obtain ⟨t2, rfl⟩ := dy
        simp only [eqR, Bool.not_false, Bool.not_true]
        exact EqAt.str_int _ _ _ _
      | str y =>
        simp only [Den] at dy
        obtain ⟨t1, rfl⟩ := dx
        obtain ⟨t2, rfl⟩ := dy
        simp only [eqR, Bool.not_false, Bool.not_true]
        exact EqAt.str_str _ _ _ _
      | tup y =>
        simp only [Den] at dy
        obtain ⟨t1, rfl⟩ := dx
        obtain ⟨a2, its2, rfl, p2, d2⟩ := dy
        simp only [eqR, Bool.not_false, Bool.not_true]
        exact EqAt.str_tuple _ _ p2 hu0
      | ls y =>
        simp only [Den] at dy
        obtain ⟨t1, rfl⟩ := dx
        obtain ⟨a2, its2, rfl, p2, d2⟩ := dy
        simp only [eqR, Bool.not_false, Bool.not_true]
        exact EqAt.str_list _ _ p2 hu0
      | ref y => exact (by simpa only [Den] using dy : False).elim
      | ty y => exact (by simpa only [Den] using dy : False).elim
    | tup x =>
      simp only [Den] at dx
      cases y with
      | non =>
        simp only [Den] at dy
        obtain ⟨a1, its1, rfl, p1, d1⟩ := dx
        subst dy
        simp only [eqR, Bool.not_false, Bool.not_true]
        exact EqAt.tuple_none p1 hu0
      | bl y =>
        simp only [Den] at dy
        obtain ⟨a1, its1, rfl, p1, d1⟩ := dx
        subst dy
        simp only [eqR, Bool.not_false, Bool.not_true]
        exact EqAt.tuple_bool _ p1 hu0
      | int y =>
        simp only [Den] at dy
        obtain ⟨a1, its1, rfl, p1, d1⟩ := dx
        obtain ⟨t2, rfl⟩ := dy
        simp only [eqR, Bool.not_false, Bool.not_true]
        exact EqAt.tuple_int _ _ p1 hu0
      | str y =>
        simp only [Den] at dy
        obtain ⟨a1, its1, rfl, p1, d1⟩ := dx
        obtain ⟨t2, rfl⟩ := dy
        simp only [eqR, Bool.not_false, Bool.not_true]
        exact EqAt.tuple_str _ _ p1 hu0
      | tup y =>
        simp only [Den] at dy
        obtain ⟨a1, its1, rfl, p1, d1⟩ := dx
        obtain ⟨a2, its2, rfl, p2, d2⟩ := dy
        exact same_EqAt_tup x y _ _ _ _ p1 p2 d1 d2 ox oy
      | ls y =>
        simp only [Den] at dy
        obtain ⟨a1, its1, rfl, p1, d1⟩ := dx
        obtain ⟨a2, its2, rfl, p2, d2⟩ := dy
        simp only [eqR, Bool.not_false, Bool.not_true]
        exact EqAt.tuple_list p1 p2 hu0
      | ref y => exact (by simpa only [Den] using dy : False).elim
      | ty y => exact (by simpa only [Den] using dy : False).elim
    | ls x =>
      simp only [Den] at dx
      cases y with
      | non =>
        simp only [Den] at dy
        obtain ⟨a1, its1, rfl, p1, d1⟩ := dx
        subst dy
        simp only [eqR, Bool.not_false, Bool.not_true]
        exact EqAt.list_none p1 hu0
      | bl y =>
        simp only [Den] at dy
        obtain ⟨a1, its1, rfl, p1, d1⟩ := dx
        subst dy
        simp only [eqR, Bool.not_false, Bool.not_true]
        exact EqAt.list_bool _ p1 hu0
      | int y =>
        simp only [Den] at dy
        obtain ⟨a1, its1, rfl, p1, d1⟩ := dx
        obtain ⟨t2, rfl⟩ := dy
        simp only [eqR, Bool.not_false, Bool.not_true]
        exact EqAt.list_int _ _ p1 hu0
      | str y =>
        simp only [Den] at dy
        obtain ⟨a1, its1, rfl, p1, d1⟩ := dx
        obtain ⟨t2, rfl⟩ := dy
        simp only [eqR, Bool.not_false, Bool.not_true]
        exact EqAt.list_str _ _ p1 hu0
      | tup y =>
        simp only [Den] at dy
        obtain ⟨a1, its1, rfl, p1, d1⟩ := dx
        obtain ⟨a2, its2, rfl, p2, d2⟩ := dy
        simp only [eqR, Bool.not_false, Bool.not_true]
        exact EqAt.list_tuple p1 p2 hu0
      | ls y =>
        simp only [Den] at dy
        obtain ⟨a1, its1, rfl, p1, d1⟩ := dx
        obtain ⟨a2, its2, rfl, p2, d2⟩ := dy
        exact same_EqAt_ls x y _ _ _ _ p1 p2 d1 d2 ox oy
      | ref y => exact (by simpa only [Den] using dy : False).elim
      | ty y => exact (by simpa only [Den] using dy : False).elim
    | ref x => exact (by simpa only [Den] using dx : False).elim
    | ty x => exact (by simpa only [Den] using dx : False).elim
theorem rcNeAt_den (n : Nat) (x y : RV) (A : Around) (s : Shared) (u w : Value) (ox : okR (n + 1) x = true) (oy : okR (n + 1) y = true) (dx : Den s.heap x u) (dy : Den s.heap y w) (hu : A.units + (n + 1) < cLine) : RcNeAt A s u w (!eqR x y) := by
    have hu0 : A.units < cLine := by omega
    have item : ∀ (xs ys : List RV) (us ws : List Value), xs.all (okR n) = true → ys.all (okR n) = true → Dens s.heap xs us → Dens s.heap ys ws →
        ∀ j (j1 : j < us.toArray.size) (j2 : j < ws.toArray.size), EqAt A.in1 s us.toArray[j] ws.toArray[j] (pairR xs ys j) := fun xs ys us ws o1 o2 d1 d2 j j1 j2 => by
      obtain ⟨a1, b1⟩ := d1.get (j := j) (u := us.toArray[j]) (by simp)
      obtain ⟨a2, b2⟩ := d2.get (j := j) (u := ws.toArray[j]) (by simp)
      exact eqAt_den n _ _ A.in1 s _ _ (List.all_eq_true.mp o1 _ b1) (List.all_eq_true.mp o2 _ b2) a1 a2 (by rw [in1_units]; omega)
    have same_RcNeAt_tup : ∀ (xs ys : List RV) (a a' : Addr) (its its' : List Value), s.heap.IsTuple a its.toArray → s.heap.IsTuple a' its'.toArray → Dens s.heap xs its → Dens s.heap ys its' → okR (n + 1) (.tup xs) = true → okR (n + 1) (.tup ys) = true → RcNeAt A s (.ref a) (.ref a') (!eqR (RV.tup xs) (RV.tup ys)) := by
      intro xs ys a a' its its' p p' d d' ox oy
      rw [eqR, ← eqRs_eq, d.length, d'.length]
      have := RcNeAt.tuples p p' hu0 (item xs ys its its' ox oy d d')
      simpa using this
    have same_RcNeAt_ls : ∀ (xs ys : List RV) (a a' : Addr) (its its' : List Value), s.heap.IsList a its.toArray → s.heap.IsList a' its'.toArray → Dens s.heap xs its → Dens s.heap ys its' → okR (n + 1) (.ls xs) = true → okR (n + 1) (.ls ys) = true → RcNeAt A s (.ref a) (.ref a') (!eqR (RV.ls xs) (RV.ls ys)) := by
      intro xs ys a a' its its' p p' d d' ox oy
      rw [eqR]
      by_cases hz : xs.length = ys.length
      · rw [← eqRs_same hz, d.length]
        have := RcNeAt.lists p p' (by simp [← d.length, ← d'.length, hz]) hu0 (item xs ys its its' ox oy d d')
        simpa using this
      · rw [eqRs_other hz]
        exact RcNeAt.lists_lengths p p' (by simp [← d.length, ← d'.length, hz]) hu0
    cases x with
    | non =>
      simp only [Den] at dx
      cases y with
      | non =>
        simp only [Den] at dy
        subst dx
        subst dy
        simp only [eqR, Bool.not_false, Bool.not_true]
        exact RcNeAt.none_none
      | bl y =>
        simp only [Den] at dy
        subst dx
        subst dy
        simp only [eqR, Bool.not_false, Bool.not_true]
        exact RcNeAt.none_bool _
      | int y =>
        simp only [Den] at dy
        subst dx
        obtain ⟨t2, rfl⟩ := dy
        simp only [eqR, Bool.not_false, Bool.not_true]
        exact RcNeAt.none_int _ _
      | str y =>
        simp only [Den] at dy
        subst dx
        obtain ⟨t2, rfl⟩ := dy
        simp only [eqR, Bool.not_false, Bool.not_true]
        exact RcNeAt.none_str _ _
      | tup y =>
        simp only [Den] at dy
        subst dx
        obtain ⟨a2, its2, rfl, p2, d2⟩ := dy
        simp only [eqR, Bool.not_false, Bool.not_true]
        exact RcNeAt.none_tuple p2 hu0
      | ls y =>
        simp only [Den] at dy
        subst dx
        obtain ⟨a2, its2, rfl, p2, d2⟩ := dy
        simp only [eqR, Bool.not_false, Bool.not_true]
        exact RcNeAt.none_list p2 hu0
      | ref y => exact (by simpa only [Den] using dy : False).elim
      | ty y => exact (by simpa only [Den] using dy : False).elim
    | bl x =>
      simp only [Den] at dx
      cases y with
      | non =>
        simp only [Den] at dy
        subst dx
        subst dy
        simp only [eqR, Bool.not_false, Bool.not_true]
        exact RcNeAt.bool_none _
      | bl y =>
        simp only [Den] at dy
        subst dx
        subst dy
        simp only [eqR, Bool.not_false, Bool.not_true]
        exact RcNeAt.bool_bool _ _
      | int y =>
        simp only [Den] at dy
        subst dx
        obtain ⟨t2, rfl⟩ := dy
        simp only [eqR, Bool.not_false, Bool.not_true]
        exact RcNeAt.bool_int _ _ _
      | str y =>
        simp only [Den] at dy
        subst dx
        obtain ⟨t2, rfl⟩ := dy
        simp only [eqR, Bool.not_false, Bool.not_true]
        exact RcNeAt.bool_str _ _ _
      | tup y =>
        simp only [Den] at dy
        subst dx
        obtain ⟨a2, its2, rfl, p2, d2⟩ := dy
        simp only [eqR, Bool.not_false, Bool.not_true]
        exact RcNeAt.bool_tuple _ p2 hu0
      | ls y =>
        simp only [Den] at dy
        subst dx
        obtain ⟨a2, its2, rfl, p2, d2⟩ := dy
        simp only [eqR, Bool.not_false, Bool.not_true]
        exact RcNeAt.bool_list _ p2 hu0
      | ref y => exact (by simpa only [Den] using dy : False).elim
      | ty y => exact (by simpa only [Den] using dy : False).elim
    | int x =>
      simp only [Den] at dx
      cases y with
      | non =>
        simp only [Den] at dy
        obtain ⟨t1, rfl⟩ := dx
        subst dy
        simp only [eqR, Bool.not_false, Bool.not_true]
        exact RcNeAt.int_none _ _
      | bl y =>
        simp only [Den] at dy
        obtain ⟨t1, rfl⟩ := dx
        subst dy
        simp only [eqR, Bool.not_false, Bool.not_true]
        exact RcNeAt.int_bool _ _ _
      | int y =>
        simp only [Den] at dy
        obtain ⟨t1, rfl⟩ := dx
        obtain ⟨t2, rfl⟩ := dy
        simp only [eqR, Bool.not_false, Bool.not_true]
        exact RcNeAt.int_int _ _ _ _
      | str y =>
        simp only [Den] at dy
        obtain ⟨t1, rfl⟩ := dx
        obtain ⟨t2, rfl⟩ := dy
        simp only [eqR, Bool.not_false, Bool.not_true]
        exact RcNeAt.int_str _ _ _ _
      | tup y =>
        simp only [Den] at dy
        obtain ⟨t1, rfl⟩ := dx
        obtain ⟨a2, its2, rfl, p2, d2⟩ := dy
        simp only [eqR, Bool.not_false, Bool.not_true]
        exact RcNeAt.int_tuple _ _ p2 hu0
      | ls y =>
        simp only [Den] at dy
        obtain ⟨t1, rfl⟩ := dx
        obtain ⟨a2, its2, rfl, p2, d2⟩ := dy
        simp only [eqR, Bool.not_false, Bool.not_true]
        exact RcNeAt.int_list _ _ p2 hu0
      | ref y => exact (by simpa only [Den] using dy : False).elim
      | ty y => exact (by simpa only [Den] using dy : False).elim
    | str x =>
      simp only [Den] at dx
      cases y with
      | non =>
        simp only [Den] at dy
        obtain ⟨t1, rfl⟩ := dx
        subst dy
        simp only [eqR, Bool.not_false, Bool.not_true]
        exact RcNeAt.str_none _ _
      | bl y =>
        simp only [Den] at dy
        obtain ⟨t1, rfl⟩ := dx
        subst dy
        simp only [eqR, Bool.not_false, Bool.not_true]
        exact RcNeAt.str_bool _ _ _
      | int y =>
        simp only [Den] at dy
        obtain ⟨t1, rfl⟩ := dx
        obtain ⟨t2, rfl⟩ := dy
        simp only [eqR, Bool.not_false, Bool.not_true]
        exact RcNeAt.str_int _ _ _ _
      | str y =>
        simp only [Den] at dy
        obtain ⟨t1, rfl⟩ := dx
        obtain ⟨t2, rfl⟩ := dy
        simp only [eqR, Bool.not_false, Bool.not_true]
        exact RcNeAt.str_str _ _ _ _
      | tup y =>
        simp only [Den] at dy
        obtain ⟨t1, rfl⟩ := dx
        obtain ⟨a2, its2, rfl, p2, d2⟩ := dy
        simp only [eqR, Bool.not_false, Bool.not_true]
        exact RcNeAt.str_tuple _ _ p2 hu0
      | ls y =>
        simp only [Den] at dy
        obtain ⟨t1, rfl⟩ := dx
        obtain ⟨a2, its2, rfl, p2, d2⟩ := dy
        simp only [eqR, Bool.not_false, Bool.not_true]
        exact RcNeAt.str_list _ _ p2 hu0
      | ref y => exact (by simpa only [Den] using dy : False).elim
      | ty y => exact (by simpa only [Den] using dy : False).elim
    | tup x =>
      simp only [Den] at dx
      cases y with
      | non =>
        simp only [Den] at dy
        obtain ⟨a1, its1, rfl, p1, d1⟩ := dx
        subst dy
        simp only [eqR, Bool.not_false, Bool.not_true]
        exact RcNeAt.tuple_none p1 hu0
      | bl y =>
        simp only [Den] at dy
        obtain ⟨a1, its1, rfl, p1, d1⟩ := dx
        subst dy
        simp only [eqR, Bool.not_false, Bool.not_true]
        exact RcNeAt.tuple_bool _ p1 hu0
      | int y =>
        simp only [Den] at dy
        obtain ⟨a1, its1, rfl, p1, d1⟩ := dx
        obtain ⟨t2, rfl⟩ := dy
        simp only [eqR, Bool.not_false, Bool.not_true]
        exact RcNeAt.tuple_int _ _ p1 hu0
      | str y =>
        simp only [Den] at dy
        obtain ⟨a1, its1, rfl, p1, d1⟩ := dx
        obtain ⟨t2, rfl⟩ := dy
        simp only [eqR, Bool.not_false, Bool.not_true]
        exact RcNeAt.tuple_str _ _ p1 hu0
      | tup y =>
        simp only [Den] at dy
        obtain ⟨a1, its1, rfl, p1, d1⟩ := dx
        obtain ⟨a2, its2, rfl, p2, d2⟩ := dy
        exact same_RcNeAt_tup x y _ _ _ _ p1 p2 d1 d2 ox oy
      | ls y =>
        simp only [Den] at dy
        obtain ⟨a1, its1, rfl, p1, d1⟩ := dx
        obtain ⟨a2, its2, rfl, p2, d2⟩ := dy
        simp only [eqR, Bool.not_false, Bool.not_true]
        exact RcNeAt.tuple_list p1 p2 hu0
      | ref y => exact (by simpa only [Den] using dy : False).elim
      | ty y => exact (by simpa only [Den] using dy : False).elim
    | ls x =>
      simp only [Den] at dx
      cases y with
      | non =>
        simp only [Den] at dy
        obtain ⟨a1, its1, rfl, p1, d1⟩ := dx
        subst dy
        simp only [eqR, Bool.not_false, Bool.not_true]
        exact RcNeAt.list_none p1 hu0
      | bl y =>
        simp only [Den] at dy
        obtain ⟨a1, its1, rfl, p1, d1⟩ := dx
        subst dy
        simp only [eqR, Bool.not_false, Bool.not_true]
        exact RcNeAt.list_bool _ p1 hu0
      | int y =>
        simp only [Den] at dy
        obtain ⟨a1, its1, rfl, p1, d1⟩ := dx
        obtain ⟨t2, rfl⟩ := dy
        simp only [eqR, Bool.not_false, Bool.not_true]
        exact RcNeAt.list_int _ _ p1 hu0
      | str y =>
        simp only [Den] at dy
        obtain ⟨a1, its1, rfl, p1, d1⟩ := dx
        obtain ⟨t2, rfl⟩ := dy
        simp only [eqR, Bool.not_false, Bool.not_true]
        exact RcNeAt.list_str _ _ p1 hu0
      | tup y =>
        simp only [Den] at dy
        obtain ⟨a1, its1, rfl, p1, d1⟩ := dx
        obtain ⟨a2, its2, rfl, p2, d2⟩ := dy
        simp only [eqR, Bool.not_false, Bool.not_true]
        exact RcNeAt.list_tuple p1 p2 hu0
      | ls y =>
        simp only [Den] at dy
        obtain ⟨a1, its1, rfl, p1, d1⟩ := dx
        obtain ⟨a2, its2, rfl, p2, d2⟩ := dy
        exact same_RcNeAt_ls x y _ _ _ _ p1 p2 d1 d2 ox oy
      | ref y => exact (by simpa only [Den] using dy : False).elim
      | ty y => exact (by simpa only [Den] using dy : False).elim
    | ref x => exact (by simpa only [Den] using dx : False).elim
    | ty x => exact (by simpa only [Den] using dx : False).elim
theorem rcAt_den (n : Nat) (x y : RV) (A : Around) (s : Shared) (u w : Value) (ox : okR (n + 1) x = true) (oy : okR (n + 1) y = true) (dx : Den s.heap x u) (dy : Den s.heap y w) (hu : A.units + (n + 1) < cLine) : RcAt A s u w (eqR x y) := by
    have hu0 : A.units < cLine := by omega
    have item : ∀ (xs ys : List RV) (us ws : List Value), xs.all (okR n) = true → ys.all (okR n) = true → Dens s.heap xs us → Dens s.heap ys ws →
        ∀ j (j1 : j < us.toArray.size) (j2 : j < ws.toArray.size), EqAt A.in1 s us.toArray[j] ws.toArray[j] (pairR xs ys j) := fun xs ys us ws o1 o2 d1 d2 j j1 j2 => by
      obtain ⟨a1, b1⟩ := d1.get (j := j) (u := us.toArray[j]) (by simp)
      obtain ⟨a2, b2⟩ := d2.get (j := j) (u := ws.toArray[j]) (by simp)
      exact eqAt_den n _ _ A.in1 s _ _ (List.all_eq_true.mp o1 _ b1) (List.all_eq_true.mp o2 _ b2) a1 a2 (by rw [in1_units]; omega)
    have same_RcAt_tup : ∀ (xs ys : List RV) (a a' : Addr) (its its' : List Value), s.heap.IsTuple a its.toArray → s.heap.IsTuple a' its'.toArray → Dens s.heap xs its → Dens s.heap ys its' → okR (n + 1) (.tup xs) = true → okR (n + 1) (.tup ys) = true → RcAt A s (.ref a) (.ref a') (eqR (RV.tup xs) (RV.tup ys)) := by
      intro xs ys a a' its its' p p' d d' ox oy
      rw [eqR, ← eqRs_eq, d.length, d'.length]
      have := RcAt.tuples p p' hu0 (item xs ys its its' ox oy d d')
      simpa using this
    have same_RcAt_ls : ∀ (xs ys : List RV) (a a' : Addr) (its its' : List Value), s.heap.IsList a its.toArray → s.heap.IsList a' its'.toArray → Dens s.heap xs its → Dens s.heap ys its' → okR (n + 1) (.ls xs) = true → okR (n + 1) (.ls ys) = true → RcAt A s (.ref a) (.ref a') (eqR (RV.ls xs) (RV.ls ys)) := by
      intro xs ys a a' its its' p p' d d' ox oy
      rw [eqR]
      by_cases hz : xs.length = ys.length
      · rw [← eqRs_same hz, d.length]
        have := RcAt.lists p p' (by simp [← d.length, ← d'.length, hz]) hu0 (item xs ys its its' ox oy d d')
        simpa using this
      · rw [eqRs_other hz]
        exact RcAt.lists_lengths p p' (by simp [← d.length, ← d'.length, hz]) hu0
    cases x with
    | non =>
      simp only [Den] at dx
      cases y with
      | non =>
        simp only [Den] at dy
        subst dx
        subst dy
        simp only [eqR, Bool.not_false, Bool.not_true]
        exact RcAt.none_none
      | bl y =>
        simp only [Den] at dy
        subst dx
        subst dy
        simp only [eqR, Bool.not_false, Bool.not_true]
        exact RcAt.none_bool _
      | int y =>
        simp only [Den] at dy
        subst dx
        obtain ⟨t2, rfl⟩ := dy
        simp only [eqR, Bool.not_false, Bool.not_true]
        exact RcAt.none_int _ _
      | str y =>
        simp only [Den] at dy
        subst dx
        obtain ⟨t2, rfl⟩ := dy
        simp only [eqR, Bool.not_false, Bool.not_true]
        exact RcAt.none_str _ _
      | tup y =>
        simp only [Den] at dy
        subst dx
        obtain ⟨a2, its2, rfl, p2, d2⟩ := dy
        simp only [eqR, Bool.not_false, Bool.not_true]
        exact RcAt.none_tuple p2 hu0
      | ls y =>
        simp only [Den] at dy
        subst dx
        obtain ⟨a2, its2, rfl, p2, d2⟩ := dy
        simp only [eqR, Bool.not_false, Bool.not_true]
        exact RcAt.none_list p2 hu0
      | ref y => exact (by simpa only [Den] using dy : False).elim
      | ty y => exact (by simpa only [Den] using dy : False).elim
    | bl x =>
      simp only [Den] at dx
      cases y with
      | non =>
        simp only [Den] at dy
        subst dx
        subst dy
        simp only [eqR, Bool.not_false, Bool.not_true]
        exact RcAt.bool_none _
      | bl y =>
        simp only [Den] at dy
        subst dx
        subst dy
        simp only [eqR, Bool.not_false, Bool.not_true]
        exact RcAt.bool_bool _ _
      | int y =>
        simp only [Den] at dy
        subst dx
        obtain ⟨t2, rfl⟩ := dy
        simp only [eqR, Bool.not_false, Bool.not_true]
        exact RcAt.bool_int _ _ _
      | str y =>
        simp only [Den] at dy
        subst dx
        obtain ⟨t2, rfl⟩ := dy
        simp only [eqR, Bool.not_false, Bool.not_true]
        exact RcAt.bool_str _ _ _
      | tup y =>
        simp only [Den] at dy
        subst dx
        obtain ⟨a2, its2, rfl, p2, d2⟩ := dy
        simp only [eqR, Bool.not_false, Bool.not_true]
        exact RcAt.bool_tuple _ p2 hu0
      | ls y =>
        simp only [Den] at dy
        subst dx
        obtain ⟨a2, its2, rfl, p2, d2⟩ := dy
        simp only [eqR, Bool.not_false, Bool.not_true]
        exact RcAt.bool_list _ p2 hu0
      | ref y => exact (by simpa only [Den] using dy : False).elim
      | ty y => exact (by simpa only [Den] using dy : False).elim
    | int x =>
      simp only [Den] at dx
      cases y with
      | non =>
        simp only [Den] at dy
        obtain ⟨t1, rfl⟩ := dx
        subst dy
        simp only [eqR, Bool.not_false, Bool.not_true]
        exact RcAt.int_none _ _
      | bl y =>
        simp only [Den] at dy
        obtain ⟨t1, rfl⟩ := dx
        subst dy
        simp only [eqR, Bool.not_false, Bool.not_true]
        exact RcAt.int_bool _ _ _
      | int y =>
        simp only [Den] at dy
        obtain ⟨t1, rfl⟩ := dx
        obtain ⟨t2, rfl⟩ := dy
        simp only [eqR, Bool.not_false, Bool.not_true]
        exact RcAt.int_int _ _ _ _
      | str y =>
        simp only [Den] at dy
        obtain ⟨t1, rfl⟩ := dx
        obtain ⟨t2, rfl⟩ := dy
        simp only [eqR, Bool.not_false, Bool.not_true]
        exact RcAt.int_str _ _ _ _
      | tup y =>
        simp only [Den] at dy
        obtain ⟨t1, rfl⟩ := dx
        obtain ⟨a2, its2, rfl, p2, d2⟩ := dy
        simp only [eqR, Bool.not_false, Bool.not_true]
        exact RcAt.int_tuple _ _ p2 hu0
      | ls y =>
        simp only [Den] at dy
        obtain ⟨t1, rfl⟩ := dx
        obtain ⟨a2, its2, rfl, p2, d2⟩ := dy
        simp only [eqR, Bool.not_false, Bool.not_true]
        exact RcAt.int_list _ _ p2 hu0
      | ref y => exact (by simpa only [Den] using dy : False).elim
      | ty y => exact (by simpa only [Den] using dy : False).elim
    | str x =>
      simp only [Den] at dx
      cases y with
      | non =>
        simp only [Den] at dy
        obtain ⟨t1, rfl⟩ := dx
        subst dy
        simp only [eqR, Bool.not_false, Bool.not_true]
        exact RcAt.str_none _ _
      | bl y =>
        simp only [Den] at dy
        obtain ⟨t1, rfl⟩ := dx
        subst dy
        simp only [eqR, Bool.not_false, Bool.not_true]
        exact RcAt.str_bool _ _ _
      | int y =>
        simp only [Den] at dy
        obtain ⟨t1, rfl⟩ := dx
        obtain ⟨t2, rfl⟩ := dy
        simp only [eqR, Bool.not_false, Bool.not_true]
        exact RcAt.str_int _ _ _ _
      | str y =>
        simp only [Den] at dy
        obtain ⟨t1, rfl⟩ := dx
        obtain ⟨t2, rfl⟩ := dy
        simp only [eqR, Bool.not_false, Bool.not_true]
        exact RcAt.str_str _ _ _ _
      | tup y =>
        simp only [Den] at dy
        obtain ⟨t1, rfl⟩ := dx
        obtain ⟨a2, its2, rfl, p2, d2⟩ := dy
        simp only [eqR, Bool.not_false, Bool.not_true]
        exact RcAt.str_tuple _ _ p2 hu0
      | ls y =>
        simp only [Den] at dy
        obtain ⟨t1, rfl⟩ := dx
        obtain ⟨a2, its2, rfl, p2, d2⟩ := dy
        simp only [eqR, Bool.not_false, Bool.not_true]
        exact RcAt.str_list _ _ p2 hu0
      | ref y => exact (by simpa only [Den] using dy : False).elim
      | ty y => exact (by simpa only [Den] using dy : False).elim
    | tup x =>
      simp only [Den] at dx
      cases y with
      | non =>
        simp only [Den] at dy
        obtain ⟨a1, its1, rfl, p1, d1⟩ := dx
        subst dy
        simp only [eqR, Bool.not_false, Bool.not_true]
        exact RcAt.tuple_none p1 hu0
      | bl y =>
        simp only [Den] at dy
        obtain ⟨a1, its1, rfl, p1, d1⟩ := dx
        subst dy
        simp only [eqR, Bool.not_false, Bool.not_true]
        exact RcAt.tuple_bool _ p1 hu0
      | int y =>
        simp only [Den] at dy
        obtain ⟨a1, its1, rfl, p1, d1⟩ := dx
        obtain ⟨t2, rfl⟩ := dy
        simp only [eqR, Bool.not_false, Bool.not_true]
        exact RcAt.tuple_int _ _ p1 hu0
      | str y =>
        simp only [Den] at dy
        obtain ⟨a1, its1, rfl, p1, d1⟩ := dx
        obtain ⟨t2, rfl⟩ := dy
        simp only [eqR, Bool.not_false, Bool.not_true]
        exact RcAt.tuple_str _ _ p1 hu0
      | tup y =>
        simp only [Den] at dy
        obtain ⟨a1, its1, rfl, p1, d1⟩ := dx
        obtain ⟨a2, its2, rfl, p2, d2⟩ := dy
        exact same_RcAt_tup x y _ _ _ _ p1 p2 d1 d2 ox oy
      | ls y =>
        simp only [Den] at dy
        obtain ⟨a1, its1, rfl, p1, d1⟩ := dx
        obtain ⟨a2, its2, rfl, p2, d2⟩ := dy
        simp only [eqR, Bool.not_false, Bool.not_true]
        exact RcAt.tuple_list p1 p2 hu0
      | ref y => exact (by simpa only [Den] using dy : False).elim
      | ty y => exact (by simpa only [Den] using dy : False).elim
    | ls x =>
      simp only [Den] at dx
      cases y with
      | non =>
        simp only [Den] at dy
        obtain ⟨a1, its1, rfl, p1, d1⟩ := dx
        subst dy
        simp only [eqR, Bool.not_false, Bool.not_true]
        exact RcAt.list_none p1 hu0
      | bl y =>
        simp only [Den] at dy
        obtain ⟨a1, its1, rfl, p1, d1⟩ := dx
        subst dy
        simp only [eqR, Bool.not_false, Bool.not_true]
        exact RcAt.list_bool _ p1 hu0
      | int y =>
        simp only [Den] at dy
        obtain ⟨a1, its1, rfl, p1, d1⟩ := dx
        obtain ⟨t2, rfl⟩ := dy
        simp only [eqR, Bool.not_false, Bool.not_true]
        exact RcAt.list_int _ _ p1 hu0
      | str y =>
        simp only [Den] at dy
        obtain ⟨a1, its1, rfl, p1, d1⟩ := dx
        obtain ⟨t2, rfl⟩ := dy
        simp only [eqR, Bool.not_false, Bool.not_true]
        exact RcAt.list_str _ _ p1 hu0
      | tup y =>
        simp only [Den] at dy
        obtain ⟨a1, its1, rfl, p1, d1⟩ := dx
        obtain ⟨a2, its2, rfl, p2, d2⟩ := dy
        simp only [eqR, Bool.not_false, Bool.not_true]
        exact RcAt.list_tuple p1 p2 hu0
      | ls y =>
        simp only [Den] at dy
        obtain ⟨a1, its1, rfl, p1, d1⟩ := dx
        obtain ⟨a2, its2, rfl, p2, d2⟩ := dy
        exact same_RcAt_ls x y _ _ _ _ p1 p2 d1 d2 ox oy
      | ref y => exact (by simpa only [Den] using dy : False).elim
      | ty y => exact (by simpa only [Den] using dy : False).elim
    | ref x => exact (by simpa only [Den] using dx : False).elim
    | ty x => exact (by simpa only [Den] using dx : False).elim
end R
set_option Elab.async false
set_option linter.all false
set_option maxRecDepth 100000
set_option maxHeartbeats 1000000
namespace R
open PySem PySem.Spec PyProof.Rows L2
section
variable {X : Cx}
theorem ropI {f : Value → Value → Sem Value} {r : R2} {rr : RR2} (h : OpR X f r) (ri : ∀ (i j : Int) M Q (H : Hp) (Q0 : VK), rr (.int i) (.int j) M Q → (∀ z : RV, Q z M → ∀ v, Rep X.K H z v → Q0 v H) → r (.int i) (.int j) H Q0)
    (no : ∀ x y M Q, rr x y M Q → ∃ i j, x = .int i ∧ y = .int j) : ROp X f rr := by
  intro pins s σ H x y v u Q0 I rx ry h'
  obtain ⟨a, b, M, Q, ra, rb, hv, hq, hk⟩ := h'
  obtain ⟨i, j, rfl, rfl⟩ := no a b M Q hq
  simp only [Rep] at ra rb
  subst ra; subst rb
  exact h pins s σ H _ _ v u Q0 I rx ry (ri i j M Q H Q0 hq fun z q v' rz => hk z M v' H q (.refl H) hv rz)
def rInt2 (C : Int → Int → Prop) (g : Int → Int → RV) : RR2 := fun x y M Q => match x, y with | .int i, .int j => C i j ∧ Q (g i j) M | _, _ => False
def rInt0 (g : Int → Int → RV) : RR2 := fun x y M Q => match x, y with | .int i, .int j => Q (g i j) M | _, _ => False
theorem rInt2_no {C : Int → Int → Prop} {g : Int → Int → RV} (x y : RV) (M : RM) (Q : RVK) (h : rInt2 C g x y M Q) : ∃ i j, x = .int i ∧ y = .int j := by
  unfold rInt2 at h
  split at h
  · exact ⟨_, _, rfl, rfl⟩
  · exact h.elim
theorem rInt0_no {g : Int → Int → RV} (x y : RV) (M : RM) (Q : RVK) (h : rInt0 g x y M Q) : ∃ i j, x = .int i ∧ y = .int j := by
  unfold rInt0 at h
  split at h
  · exact ⟨_, _, rfl, rfl⟩
  · exact h.elim
abbrev rSub : RR2 := rInt0 fun i j => .int (i - j)
theorem osub : ROp X (binaryOp .Sub) rSub := ropI op_sub (fun i j M Q H Q0 h k => ⟨i, j, rfl, rfl, k _ h _ (by simp only [Rep])⟩) rInt0_no
abbrev rMod : RR2 := rInt2 (fun _ j => 0 < j) fun i j => .int (i % j)
theorem omod : ROp X (binaryOp .Mod) rMod := ropI op_mod (fun i j M Q H Q0 h k => ⟨i, j, rfl, rfl, h.1, k _ h.2 _ (by simp only [Rep])⟩) rInt2_no
abbrev rDiv : RR2 := rInt2 (fun _ j => 0 < j ∧ j < 1073741824) fun i j => .int (i / j)
theorem odiv : ROp X (binaryOp .FloorDiv) rDiv := ropI op_fdiv (fun i j M Q H Q0 h k => ⟨i, j, rfl, rfl, h.1, k _ h.2 _ (by simp only [Rep])⟩) rInt2_no
abbrev rPow : RR2 := rInt2 (fun i j => 0 ≤ j ∧ j ≤ 1000000 ∧ i.natAbs < 2 ^ 64) fun i j => .int (i ^ j.toNat)
theorem opow : ROp X (binaryOp .Pow) rPow := ropI op_pow (fun i j M Q H Q0 h k => ⟨i, j, rfl, rfl, h.1, k _ h.2 _ (by simp only [Rep])⟩) rInt2_no
abbrev rShr : RR2 := rInt2 (fun _ j => 0 ≤ j) fun i j => .int (i / 2 ^ j.toNat)
abbrev rBand : RR2 := rInt0 fun i j => .int (Builtin.bitAnd i j)
abbrev rLt : RR2 := rInt0 fun i j => .bl (decide (i < j))
theorem olt : ROp X (compareOp .Lt) rLt := ropI op_lt (fun i j M Q H Q0 h k => ⟨i, j, rfl, rfl, k _ h _ (by simp only [Rep])⟩) rInt0_no
abbrev rLe : RR2 := rInt0 fun i j => .bl (decide (i ≤ j))
theorem ole : ROp X (compareOp .LtE) rLe := ropI op_le (fun i j M Q H Q0 h k => ⟨i, j, rfl, rfl, k _ h _ (by simp only [Rep])⟩) rInt0_no
abbrev rGt : RR2 := rInt0 fun i j => .bl (decide (j < i))
theorem ogt : ROp X (compareOp .Gt) rGt := ropI op_gt (fun i j M Q H Q0 h k => ⟨i, j, rfl, rfl, k _ h _ (by simp only [Rep])⟩) rInt0_no
abbrev rGe : RR2 := rInt0 fun i j => .bl (decide (j ≤ i))
theorem oge : ROp X (compareOp .GtE) rGe := ropI op_ge (fun i j M Q H Q0 h k => ⟨i, j, rfl, rfl, k _ h _ (by simp only [Rep])⟩) rInt0_no
def rgNeg : RV → RM → RVK → Prop := fun x M Q => match x with | .int i => Q (.int (-i)) M | _ => False
def rMul : RR2 := fun x y M Q => match x, y with
  | .int i, .int j => CMul i j ∧ Q (.int (i * j)) M
  | .ref a, .int k => ∃ xs, M a = some (.lst xs) ∧ -(2 ^ 63) ≤ k ∧ k < 2 ^ 63 ∧ xs.length * k.toNat ≤ sizeLine ∧ Q (.ls (List.replicate k.toNat xs).flatten) M
  | _, _ => False
theorem reps_flat {K : PySem.W.Frag} {H : Hp} {xs : List RV} {vs : List V} (r : Reps K H xs vs) : ∀ n : Nat, Reps K H (List.replicate n xs).flatten (List.replicate n vs).flatten
  | 0 => by simpa using Reps.nil
  | n + 1 => by
    rw [List.replicate_succ, List.flatten_cons, List.replicate_succ, List.flatten_cons]
    exact r.append (reps_flat r n)
theorem omul : ROp X (binaryOp .Mult) rMul := by
  intro pins s σ H x y v u Q0 I rx ry h
  obtain ⟨a, b, M, Q, ra, rb, hv, hq, hk⟩ := h
  cases a with
  | int i =>
    cases b with
    | int j => simp only [Rep] at ra rb; exact op_mul pins s σ H x y v u Q0 I rx ry ⟨i, j, ra, rb, hq.1, hk _ M _ H hq.2 (.refl H) hv (by simp only [Rep])⟩
    | _ => exact (show False from hq).elim
  | ref p =>
    cases b with
    | int k =>
      simp only [Rep] at ra rb
      obtain ⟨xs, hm, h1, h2, h3, h4⟩ := hq
      obtain ⟨ho, e, r⟩ := hv p _ hm
      obtain ⟨vs, rfl, rr⟩ := r
      refine thn (op_rep pins s σ H x y v u (fun v H' => ∃ H1 p xs, v = .ref p ∧ H1 p = none ∧ H' = upd H1 p (.lst xs) ∧ ∀ o, Q0 (.ref p) (upd H1 p (.frz o (.lst xs)))) I rx ry ⟨p, k, vs, ra, rb, e, h1, h2, by rw [← rr.length]; exact h3, fun q hq => ⟨H, q, _, rfl, hq, rfl, fun o => ?_⟩⟩) fun _ _ e => frozen e
      exact hk _ M _ _ h4 (Ext.new hq) (hv.new hq) (rep_ls hq (reps_flat rr _))
    | _ => exact (show False from hq).elim
  | _ => cases b <;> exact (show False from hq).elim
def rAdd : RR2 := fun x y M Q => match x, y with
  | .int i, .int j => Q (.int (i + j)) M
  | .str i, .str j => i.length + j.length ≤ sizeLine ∧ Q (.str (i ++ j)) M
  | .tup xs, .tup ys => xs.length + ys.length ≤ sizeLine ∧ Q (.tup (xs ++ ys)) M
  | .ls xs, .ls ys => xs.length + ys.length ≤ sizeLine ∧ Q (.ls (xs ++ ys)) M
  | _, _ => False
theorem cat_tup0 {prog : Program} {w : World} {A : Around} {E : Value → Shared → Prop} {s : Shared} {t b : Addr} {ws : List Value} {Q : Value → Shared → Prop} (ht : IsTup s.heap t ([] : List Value).toArray) (hb : IsTup s.heap b ws.toArray) (h : Q (.ref b) s) :
    wpAny (model prog w) A (binaryOp .Add (.ref t) (.ref b)) Q E s := by
  obtain ⟨⟨cls, dd, data, sl⟩, ho, hc, n, hd⟩ := id ht
  obtain ⟨⟨cls2, dd2, data2, sl2⟩, ho2, hc2, n2, hd2⟩ := id hb
  simp only at hc hd hc2 hd2
  subst hc hd hc2 hd2
  exact concat_meets ⟨_, ho, rfl⟩ ⟨_, ho2, rfl⟩ noFill_tuple_add seq_tuple_add PySem.F.slot_tuple_add PySem.F.entry_tuple_add (PySem.F.args_tuple_add_2 _ _)
      (tuple_addW0 t b [].toArray ws.toArray n n2 dd dd2 sl sl2 (by simp)) ⟨ho, ho2, h⟩
theorem cat_lst {prog : Program} {w : World} {A : Around} {E : Value → Shared → Prop} {s : Shared} {l b : Addr} {vs ws : List Value} {Q : Value → Shared → Prop} (hl : s.heap.IsList l vs.toArray) (hb : s.heap.IsList b ws.toArray)
    (h : Q (.ref s.heap.objs.size) { s with heap := s.heap.push { cls := .type "list", data := .seq (vs ++ ws).toArray } }) (hsz : vs.length + ws.length ≤ sizeLine) :
    wpAny (model prog w) A (binaryOp .Add (.ref l) (.ref b)) Q E s := by
  obtain ⟨⟨cls, dd, data, sl⟩, ho, hc, n, hd⟩ := id hl
  obtain ⟨⟨cls2, dd2, data2, sl2⟩, ho2, hc2, n2, hd2⟩ := id hb
  simp only at hc hd hc2 hd2
  subst hc hd hc2 hd2
  have e : vs.toArray ++ ws.toArray = (vs ++ ws).toArray := by simp
  refine concat_meets ⟨_, ho, rfl⟩ ⟨_, ho2, rfl⟩ noFill_list_add seq_list_add PySem.F.slot_list_add PySem.F.entry_list_add (PySem.F.args_list_add_2 _ _) (list_addW l b vs.toArray ws.toArray n n2 dd dd2 sl sl2 (by simpa using hsz)) ⟨ho, ho2, ?_⟩
  rw [e]
  exact h
theorem oadd : ROp X (binaryOp .Add) rAdd := by
  intro pins s σ H x y v u Q0 I rx ry h
  obtain ⟨a, b, M, Q, ra, rb, hv, hq, hk⟩ := h
  cases a with
  | int i =>
    cases b with
    | int j => simp only [Rep] at ra rb; exact op_add pins s σ H x y v u Q0 I rx ry ⟨i, j, ra, rb, hk _ M _ H hq (.refl H) hv (by simp only [Rep])⟩
    | _ => exact (show False from hq).elim
  | str i =>
    cases b with
    | str j => simp only [Rep] at ra rb; exact op_add_str pins s σ H x y v u Q0 I rx ry ⟨i, j, ra, rb, hq.1, hk _ M _ H hq.2 (.refl H) hv (by simp only [Rep])⟩
    | _ => exact (show False from hq).elim
  | tup xs =>
    cases b with
    | tup ys =>
      obtain ⟨hz, hq⟩ := hq
      simp only [Rep] at ra rb
      obtain ⟨p, vs, rfl, hp, hr⟩ := ra
      obtain ⟨q, ws, rfl, hp2, hr2⟩ := rb
      by_cases hn : vs = []
      · subst hn
        have hx : xs = [] := by have := hr.length; simpa using this
        subst hx
        cases rx; cases ry
        obtain ⟨its, r1, p1, _⟩ := I.tuple hp
        obtain ⟨its2, r2, p2, _⟩ := I.tuple hp2
        cases r1
        exact cat_tup0 p1 p2 ⟨.ref q, H, I, rfl, hk _ M _ H hq (.refl H) hv (by simp only [Rep, List.nil_append]; exact ⟨q, ws, rfl, hp2, hr2⟩)⟩
      · refine op_catT pins s σ H _ _ v u Q0 I rx ry ⟨p, q, vs, ws, rfl, rfl, hp, hp2, hn, by rw [← hr.length, ← hr2.length]; exact hz, fun e => ?_, fun e l hl => ?_⟩
        · subst e
          have hy : ys = [] := by have := hr2.length; simpa using this
          subst hy
          exact hk _ M _ H hq (.refl H) hv (by simp only [Rep, List.append_nil]; exact ⟨p, vs, rfl, hp, hr⟩)
        · exact hk _ M _ _ hq (Ext.new hl) (hv.new hl) (rep_tup hl (hr.append hr2))
    | _ => exact (show False from hq).elim
  | ls xs =>
    cases b with
    | ls ys =>
      obtain ⟨hz, hq⟩ := hq
      simp only [Rep] at ra rb
      obtain ⟨p, vs, rfl, hp, hr⟩ := ra
      obtain ⟨q, ws, rfl, hp2, hr2⟩ := rb
      cases rx; cases ry
      obtain ⟨its, r1, p1, z1⟩ := I.list hp.sq
      obtain ⟨its2, r2, p2, z2⟩ := I.list hp2.sq
      have hz' : vs.length + ws.length ≤ sizeLine := by rw [← hr.length, ← hr2.length]; exact hz
      refine thn (cat_lst (Q := EP X pins σ (fun v H' => ∃ H1 p xs, v = .ref p ∧ H1 p = none ∧ H' = upd H1 p (.lst xs) ∧ ∀ o, Q0 (.ref p) (upd H1 p (.frz o (.lst xs))))) p1.isList p2.isList ?_ (by rw [← r1.length, ← r2.length]; exact hz')) fun _ _ e => frozen e
      have hf := I.hok.fresh (Nat.le_refl s.heap.objs.size)
      refine ⟨.ref s.heap.objs.size, upd H s.heap.objs.size (.lst (vs ++ ws)), I.laid (t' := s.toks) (fun b ob q => Heap.get?_push_of_some _ q) (Nat.le_refl _) ?_, rfl, H, _, _, rfl, hf, rfl, fun o => ?_⟩
      · exact ⟨by rw [List.length_append]; exact hz', _, 0, r1.append r2, Heap.get?_push_size _ rfl⟩
      · exact hk _ M _ _ hq (Ext.new hf) (hv.new hf) (rep_ls hf (hr.append hr2))
    | _ => exact (show False from hq).elim
  | _ => cases b <;> exact (show False from hq).elim
def rEqq : RR2 := fun x y M Q => okR 16 x = true ∧ okR 16 y = true ∧ Q (.bl (eqR x y)) M
def rNeq : RR2 := fun x y M Q => okR 16 x = true ∧ okR 16 y = true ∧ Q (.bl (!eqR x y)) M
theorem oeq (hu : X.A.units + 64 < cLine) : ROp X (compareOp .Eq) rEqq := by
  intro pins s σ H x y v u Q0 I rx ry h
  obtain ⟨a, b, M, Q, ra, rb, hv, ⟨o1, o2, hq⟩, hk⟩ := h
  exact rcAt_den 15 a b X.A s v u o1 o2 (den_of I 16 a x v o1 ra rx) (den_of I 16 b y u o2 rb ry) (by omega) _ _ _ _ ⟨.bl (eqR a b), H, I, rfl, hk _ M _ H hq (.refl H) hv (by simp only [Rep])⟩
theorem one (hu : X.A.units + 64 < cLine) : ROp X (compareOp .NotEq) rNeq := by
  intro pins s σ H x y v u Q0 I rx ry h
  obtain ⟨a, b, M, Q, ra, rb, hv, ⟨o1, o2, hq⟩, hk⟩ := h
  exact rcNeAt_den 15 a b X.A s v u o1 o2 (den_of I 16 a x v o1 ra rx) (den_of I 16 b y u o2 rb ry) (by omega) _ _ _ _ ⟨.bl (!eqR a b), H, I, rfl, hk _ M _ H hq (.refl H) hv (by simp only [Rep])⟩
def isN : RV → Bool
  | .non => true
  | _ => false
theorem isN_rep {K : PySem.W.Frag} {H : Hp} : ∀ {a : RV} {x : V}, Rep K H a x → decide (x = .non) = isN a := by
  intro a x h
  cases a with
  | tup xs => simp only [Rep] at h; obtain ⟨p, vs, rfl, _⟩ := h; simp [isN]
  | ls xs => simp only [Rep] at h; obtain ⟨p, vs, rfl, _⟩ := h; simp [isN]
  | _ => simp only [Rep] at h; subst h; simp [isN]
def rIs : RR2 := fun x y M Q => match y with | .non => Q (.bl (isN x)) M | _ => False
def rIsNot : RR2 := fun x y M Q => match y with | .non => Q (.bl (!isN x)) M | _ => False
theorem ois : ROp X (compareOp .Is) rIs := by
  intro pins s σ H x y v u Q0 I rx ry h
  obtain ⟨a, b, M, Q, ra, rb, hv, hq, hk⟩ := h
  cases b with
  | non => simp only [Rep] at rb; exact op_isN pins s σ H x y v u Q0 I rx ry ⟨rb, by rw [isN_rep ra]; exact hk _ M _ H hq (.refl H) hv (by simp only [Rep])⟩
  | _ => exact (show False from hq).elim
theorem oisnot : ROp X (compareOp .IsNot) rIsNot := by
  intro pins s σ H x y v u Q0 I rx ry h
  obtain ⟨a, b, M, Q, ra, rb, hv, hq, hk⟩ := h
  cases b with
  | non => simp only [Rep] at rb; exact op_notN pins s σ H x y v u Q0 I rx ry ⟨rb, by rw [isN_rep ra]; exact hk _ M _ H hq (.refl H) hv (by simp only [Rep])⟩
  | _ => exact (show False from hq).elim
def rIx : RR2 := fun x y M Q => match x, y with
  | .tup xs, .int i => match atI xs i with | some v => Q v M | none => False
  | .ls xs, .int i => match atI xs i with | some v => Q v M | none => False
  | .ref a, .int i => match M a with
    | some (.lst xs) => match atI xs i with | some v => Q v M | none => False
    | _ => False
  | .str z, .int i => z.length ≤ sizeLine ∧ match atI z.cps.toList i with | some c => Q (.str ⟨#[c]⟩) M | none => False
  | _, _ => False
theorem oix : IxR X (upO X.K rIx) := by
  intro value slice pins s σ H x y v u Q0 I rx ry h hs
  obtain ⟨a, b, M, Q, ra, rb, hv, hq, hk⟩ := h
  cases b with
  | int i =>
    simp only [Rep] at rb
    cases a with
    | tup xs =>
      simp only [Rep] at ra
      obtain ⟨p, vs, rfl, hp, hr⟩ := ra
      simp only [rIx] at hq
      cases e : atI xs i with
      | none => rw [e] at hq; exact hq.elim
      | some z =>
        rw [e] at hq
        obtain ⟨w, e1, r1⟩ := hr.atI e
        exact ix_tup value slice pins s σ H _ y v u Q0 I rx ry ⟨p, vs, i, w, rfl, rb, hp, e1, hk _ M _ H hq (.refl H) hv r1⟩ hs
    | ls xs =>
      simp only [Rep] at ra
      obtain ⟨p, vs, rfl, hp, hr⟩ := ra
      simp only [rIx] at hq
      cases e : atI xs i with
      | none => rw [e] at hq; exact hq.elim
      | some z =>
        rw [e] at hq
        obtain ⟨w, e1, r1⟩ := hr.atI e
        exact ix_list value slice pins s σ H _ y v u Q0 I rx ry ⟨p, vs, i, w, rfl, rb, hp.sq, e1, hk _ M _ H hq (.refl H) hv r1⟩ hs
    | ref p =>
      simp only [Rep] at ra
      simp only [rIx] at hq
      split at hq
      · rename_i xs em
        obtain ⟨ho, e, r⟩ := hv p _ em
        obtain ⟨vs, rfl, hr⟩ := r
        cases e2 : atI xs i with
        | none => rw [e2] at hq; exact hq.elim
        | some z =>
          rw [e2] at hq
          obtain ⟨w, e1, r1⟩ := hr.atI e2
          exact ix_list value slice pins s σ H x y v u Q0 I rx ry ⟨p, vs, i, w, ra, rb, SqL.of e, e1, hk _ M _ H hq (.refl H) hv r1⟩ hs
      · exact hq.elim
    | str z =>
      simp only [Rep] at ra
      simp only [rIx] at hq
      obtain ⟨hz, hq⟩ := hq
      cases e : atI z.cps.toList i with
      | none => rw [e] at hq; exact hq.elim
      | some c =>
        rw [e] at hq
        exact ix_str value slice pins s σ H x y v u Q0 I rx ry ⟨z, i, c, ra, rb, hz, e, hk _ M _ H hq (.refl H) hv (by simp only [Rep])⟩ hs
    | _ => exact (show False from hq).elim
  | _ => cases a <;> exact (show False from hq).elim
theorem rix {a b : Expr} {ta tb : RTE} {pos : Pos} (ha : RPE X a ta) (hb : RPE X b tb) (hs : PlainIx b := by intro _ _; rfl) : RPE X (.Subscript a b pos) (rOp rIx ta tb) := PE.imp (pe_ix oix ha hb hs) fun _ _ _ h => rop_imp h
def rSetL : RTSet := fun o i v M Q => match o, i with
  | .ref p, .int k => match M p with
    | some (.lst xs) => match ixN xs.length k with | some j => Q (put M p (.lst (xs.set j v))) | none => False
    | _ => False
  | _, _ => False
theorem osetl : PSet X (upSet X.K rSetL) := by
  intro pins s σ H o i v ov iv u Q0 I ro ri rv h
  obtain ⟨a, b, c, M, Q, ra, rb, rc, hv, hq, hk⟩ := h
  cases a with
  | ref p =>
    cases b with
    | int k =>
      simp only [Rep] at ra rb
      simp only [rSetL] at hq
      split at hq
      · rename_i xs em
        obtain ⟨ho, e, r⟩ := hv p _ em
        obtain ⟨vs, rfl, hr⟩ := r
        cases e2 : ixN xs.length k with
        | none => rw [e2] at hq; exact hq.elim
        | some j =>
          rw [e2] at hq
          have ex : Ext H (upd H p (.lst (vs.set j v))) := Ext.write e rfl
          exact set_list pins s σ H o i v ov iv u Q0 I ro ri rv ⟨p, vs, k, j, ra, rb, e, by rw [← hr.length]; exact e2, hk _ _ hq ex (hv.write em ⟨_, rfl, Reps.ext ex _ _ (hr.set rc j)⟩)⟩
      · exact hq.elim
    | _ => exact (show False from hq).elim
  | _ => cases b <;> exact (show False from hq).elim
def upC (K : PySem.W.Frag) (r : List RV → RM → RVK → Prop) : List V → Hp → VK → Prop := fun vs H Q0 => ∃ rs M Q, Reps K H rs vs ∧ View K H M ∧ r rs M Q ∧ UpK K H Q Q0
def rCall (r : List RV → RM → RVK → Prop) (t : RTA) : RTE := fun σ M Q => t σ M fun rs M1 => r rs M1 Q
theorem rcall_imp {K : PySem.W.Frag} {r : List RV → RM → RVK → Prop} {t : RTA} {σ0 : L2.St} {H : Hp} {Q0 : VK} (h : up K (rCall r t) σ0 H Q0) : tCB (upC K r) (upA K t) σ0 H Q0 := by
  obtain ⟨σ, M, Q, hs, hv, ht, hk⟩ := h
  exact ⟨σ, M, _, hs, hv, ht, fun rs M1 vs H1 q e1 v1 r1 => ⟨rs, M1, Q, r1, v1, q, hk.ext e1⟩⟩
variable {x : Str} {p pos : Pos} {e : Expr} {es : List Expr} {t : RTA} {id T : String} {r : List RV → RM → RVK → Prop}
theorem rcallB (hc : CallR X (.builtin id) (upC X.K r)) (hm : X.mg x = none) (hv : bootBuiltins x = some (.builtin id)) (ha : RPA X (e :: es) t) (hg : Gl X x := by rfl) (hn : x ≠ "__name__" := by decide) (hdb : (x == ("__debug__" : Str)) = false := by decide)
    (he : starEach (e :: es) X.env = (false, eval e X.env) :: starEach es X.env := by rfl) (hpl : (backTo pos (starEach es X.env)).any (·.1) = false := by rfl) : RPE X (.Call (.Name x p) (e :: es) [] pos) (rCall r t) :=
  PE.imp (pe_callB hc hg hm hv ha hn hdb he hpl) fun _ _ _ h => rcall_imp h
theorem Reps.one {K : PySem.W.Frag} {H : Hp} {x : RV} {vs : List V} (h : Reps K H [x] vs) : ∃ v, vs = [v] ∧ Rep K H x v := by
  simp only [Reps] at h
  obtain ⟨v, r, rfl, h1, rfl⟩ := h
  exact ⟨v, rfl, h1⟩
theorem Reps.two {K : PySem.W.Frag} {H : Hp} {x y : RV} {vs : List V} (h : Reps K H [x, y] vs) : ∃ v w, vs = [v, w] ∧ Rep K H x v ∧ Rep K H y w := by
  simp only [Reps] at h
  obtain ⟨v, r, rfl, h1, w, r', rfl, h2, rfl⟩ := h
  exact ⟨v, w, rfl, h1, h2⟩
def rLen : List RV → RM → RVK → Prop := fun rs M Q => match rs with
  | [.tup xs] => Q (.int xs.length) M
  | [.ls xs] => Q (.int xs.length) M
  | [.str z] => z.length ≤ sizeLine ∧ Q (.int z.length) M
  | [.ref a] => match M a with | some (.lst xs) => Q (.int xs.length) M | _ => False
  | _ => False
theorem clen : CallR X (.builtin "len") (upC X.K rLen) := by
  intro pins s σ H xs us Q0 I rl h
  obtain ⟨rs, M, Q, rr, hv, hq, hk⟩ := h
  unfold rLen at hq
  split at hq
  · rename_i ys
    obtain ⟨v, rfl, r1⟩ := rr.one
    simp only [Rep] at r1
    obtain ⟨q, vs, rfl, hp, hr⟩ := r1
    exact call_len_seq pins s σ H _ us Q0 I rl ⟨q, vs, rfl, .inr hp, by rw [← hr.length]; exact hk _ M _ H hq (.refl H) hv (by simp only [Rep])⟩
  · rename_i ys
    obtain ⟨v, rfl, r1⟩ := rr.one
    simp only [Rep] at r1
    obtain ⟨q, vs, rfl, hp, hr⟩ := r1
    exact call_len_seq pins s σ H _ us Q0 I rl ⟨q, vs, rfl, .inl hp.sq, by rw [← hr.length]; exact hk _ M _ H hq (.refl H) hv (by simp only [Rep])⟩
  · rename_i z
    obtain ⟨v, rfl, r1⟩ := rr.one
    simp only [Rep] at r1
    subst r1
    exact call_len_str pins s σ H _ us Q0 I rl ⟨z, rfl, hq.1, hk _ M _ H hq.2 (.refl H) hv (by simp only [Rep])⟩
  · rename_i a
    obtain ⟨v, rfl, r1⟩ := rr.one
    simp only [Rep] at r1
    subst r1
    split at hq
    · rename_i ys em
      obtain ⟨ho, e, r⟩ := hv a _ em
      obtain ⟨vs, rfl, hr⟩ := r
      exact call_len_seq pins s σ H _ us Q0 I rl ⟨a, vs, rfl, .inl (SqL.of e), by rw [← hr.length]; exact hk _ M _ H hq (.refl H) hv (by simp only [Rep])⟩
    · exact hq.elim
  · exact hq.elim
def rTuple : List RV → RM → RVK → Prop := fun rs M Q => match rs with
  | [.tup xs] => Q (.tup xs) M
  | [.ls xs] => Q (.tup xs) M
  | [.ref a] => match M a with | some (.lst xs) => Q (.tup xs) M | _ => False
  | _ => False
end
end R
set_option Elab.async false
set_option linter.all false
set_option maxRecDepth 100000
set_option maxHeartbeats 1000000
namespace R
open PySem PySem.Spec PyProof.Rows L2 HT
section
variable {prog : Program} {w : World} {A : Around} {E : Value → Shared → Prop} {s : Shared}
theorem getItem_tuple_whole {t sl : Addr} {items : Array Value} {vl vu : Value} {lo hi : Option Int} {Q : Value → Shared → Prop} (ht : IsTup s.heap t items) (hs : s.heap.IsSliceOf sl vl vu .none) (pl : IsPart vl lo) (pu : IsPart vu hi)
    (h0 : sIx items.size 0 lo = 0) (h1 : sIx items.size items.size hi = items.size)
    (h : Q (.ref t) s) : wpAny (model prog w) A (getItem (.ref t) (.ref sl)) Q E s := by
  obtain ⟨os, hos, hcs, hds⟩ := id hs
  have hTs : s.TypeIs (.ref sl) "slice" := ⟨os, hos, hcs⟩
  unfold getItem
  try with_reducible refine wpAny_holding ?_
  first | refine wpAny_bind (wpAny_pure ?_) | skip
  refine wpAny_bind (wpAny_sequenceKey ht.typeIs (by decide) ?_)
  refine wpAny_bind (wpAny_callSpecial?_slot (name := Str.ofString "__getitem__") ht.typeIs PyProof.Rows.slot_tuple_getitem
    (wpAny_call_entry PyProof.Rows.slot_tuple_getitem ht.typeIs entry_tuple_getitem ?_ (args_tuple_getitem _ _)))
  show wpAny _ _ (Builtin.Tuple.tupleItemsOf (.ref t) >>= _) _ _ s
  refine wpAny_bind (tupleItemsOf_ ht ?_)
  refine wpAny_bind (wpAny_typeOf hTs ?_)
  rw [if_pos (by decide)]
  refine wpAny_bind (sliceApplied_gen hs pl pu ?_)
  have hyes : (((sIx items.size 0 lo : Nat) : Int) == 0 && (1 : Int) == 1 && (sIx items.size items.size hi - sIx items.size 0 lo) == items.size) = true := by
    rw [h0, h1]; simp
  show wpAny _ _ (if (((sIx items.size 0 lo : Nat) : Int) == 0 && (1 : Int) == 1 && (sIx items.size items.size hi - sIx items.size 0 lo) == items.size) = true then _ else _) _ _ s
  rw [if_pos hyes]
  show wpAny _ _ (Builtin.Tuple.tupleIsExact (.ref t) >>= _) _ _ s
  unfold Builtin.Tuple.tupleIsExact
  refine wpAny_bind (wpAny_bind (wpAny_typeOf ht.typeIs (wpAny_pure ?_)))
  rw [if_pos (by decide)]
  refine wpAny_bind (wpAny_rule ?_)
  refine wpAny_bind (wpAny_pure ?_)
  exact wpAny_pure ⟨_, rfl, wpAny_pure h⟩
end
section
variable {X : Cx}
abbrev RTO := RSt → RM → (Option Int → RM → Prop) → Prop
def upP (K : PySem.W.Frag) (t : RTO) : TO := fun σ0 H Q0 => ∃ σ M Q, RepSt K H σ σ0 ∧ View K H M ∧ t σ M Q ∧ ∀ o M' H', Q o M' → Ext H H' → View K H' M' → Q0 o H'
def RPO (X : Cx) (e : Option Expr) (t : RTO) : Prop := PO X e (upP X.K t)
def rNoP : RTO := fun _ M Q => Q none M
def rPart (t : RTE) : RTO := fun σ M Q => t σ M fun x M1 => match x with | .int i => Q (some i) M1 | _ => False
theorem PO.imp {e : Option Expr} {t t' : TO} (h : PO X e t) (i : ∀ σ H Q, t' σ H Q → t σ H Q) : PO X e t' := fun pins s σ H Q I w => h pins s σ H Q I (i σ H Q w)
theorem pnone : RPO X none rNoP := PO.imp po_none fun σ0 H Q0 h => by
  obtain ⟨σ, M, Q, hs, hv, ht, hk⟩ := h
  exact hk none M H ht (.refl H) hv
theorem psome {e : Expr} {te : RTE} (h : RPE X e te) : RPO X (some e) (rPart te) := PO.imp (po_some h) fun σ0 H Q0 h => by
  obtain ⟨σ, M, Q, hs, hv, ht, hk⟩ := h
  refine ⟨σ, M, _, hs, hv, ht, fun rx M1 x H1 q e1 v1 r1 => ?_⟩
  cases rx with
  | int i => simp only [Rep] at r1; exact ⟨i, r1, hk _ M1 H1 q e1 v1⟩
  | _ => exact (show False from q).elim
def cutR (xs : List RV) (lo hi : Option Int) : List RV := (xs.drop (sIx xs.length 0 lo)).take (sIx xs.length xs.length hi - sIx xs.length 0 lo)
theorem reps_cut {K : PySem.W.Frag} {H : Hp} {xs : List RV} {vs : List V} (r : Reps K H xs vs) (lo hi : Option Int) : Reps K H (cutR xs lo hi) (cutV vs lo hi) := by
  unfold cutR cutV
  rw [r.length]
  exact (r.drop _).take _
def rSlc : RV → Option Int → Option Int → RM → RVK → Prop := fun x lo hi M Q => match x with
  | .tup xs => Q (.tup (cutR xs lo hi)) M
  | .ls xs => Q (.ls (cutR xs lo hi)) M
  | .ref a => match M a with | some (.lst xs) => Q (.ls (cutR xs lo hi)) M | _ => False
  | _ => False
def upL (K : PySem.W.Frag) (r : RV → Option Int → Option Int → RM → RVK → Prop) : V → Option Int → Option Int → Hp → VK → Prop := fun x lo hi H Q0 => ∃ rx M Q, Rep K H rx x ∧ View K H M ∧ r rx lo hi M Q ∧ UpK K H Q Q0
theorem oslc : SlR X (upL X.K rSlc) := by
  intro pins s σ H x v vl vu lo hi sl Q0 I rx hs pl pu h
  obtain ⟨a, M, Q, ra, hv, hq, hk⟩ := h
  have lstcase : ∀ (p : Addr) (xs : List RV) (vs : List V), x = .ref p → SqL X.K H p vs → Reps X.K H xs vs → Q (.ls (cutR xs lo hi)) M →
      ∃ T id, typeLookup (.type T) "__getitem__" = pure (some (.builtin id)) ∧ s.TypeIs v T ∧ wpAny (model X.prog X.w) X.A (getItem v (.ref sl)) (EP X pins σ Q0) X.xe s := by
    intro p xs vs ex hp hr hq
    obtain ⟨T, id, h1, h2, h3⟩ := sl_list pins s σ H x v vl vu lo hi sl (fun v H' => ∃ H1 p xs, v = .ref p ∧ H1 p = none ∧ H' = upd H1 p (.lst xs) ∧ ∀ o, Q0 (.ref p) (upd H1 p (.frz o (.lst xs)))) I rx hs pl pu
      ⟨p, vs, ex, hp, fun q hq' => ⟨H, q, _, rfl, hq', rfl, fun o => hk _ M _ _ hq (Ext.new hq') (hv.new hq') (rep_ls hq' (reps_cut hr lo hi))⟩⟩
    exact ⟨T, id, h1, h2, thn h3 fun _ _ e => frozen e⟩
  cases a with
  | tup xs =>
    simp only [rSlc] at hq
    simp only [Rep] at ra
    obtain ⟨p, vs, rfl, hp, hr⟩ := ra
    by_cases hw : sIx vs.length 0 lo = 0 ∧ sIx vs.length vs.length hi = vs.length
    · cases rx
      obtain ⟨its, r, ht, hz⟩ := I.tuple hp
      have hlen : its.toArray.size = vs.length := by rw [List.size_toArray]; exact r.length.symm
      refine ⟨"tuple", _, PyProof.Rows.slot_tuple_getitem.lookup, ht.typeIs, ?_⟩
      refine getItem_tuple_whole ht hs pl pu (by rw [hlen]; exact hw.1) (by rw [hlen]; exact hw.2) ⟨.ref p, H, I, rfl, ?_⟩
      have e : cutR xs lo hi = xs := by
        unfold cutR
        rw [hr.length, hw.1, hw.2, List.drop_zero, Nat.sub_zero, ← hr.length, List.take_length]
      rw [e] at hq
      exact hk _ M _ H hq (.refl H) hv (by simp only [Rep]; exact ⟨p, vs, rfl, hp, hr⟩)
    · exact sl_tup pins s σ H _ v vl vu lo hi sl Q0 I rx hs pl pu ⟨p, vs, rfl, hp, hw, fun q hq' => hk _ M _ _ hq (Ext.new hq') (hv.new hq') (rep_tup hq' (reps_cut hr lo hi))⟩
  | ls xs =>
    simp only [rSlc] at hq
    simp only [Rep] at ra
    obtain ⟨p, vs, rfl, hp, hr⟩ := ra
    exact lstcase p xs vs rfl hp.sq hr hq
  | ref p =>
    simp only [rSlc] at hq
    simp only [Rep] at ra
    split at hq
    · rename_i xs em
      obtain ⟨ho, e, r⟩ := hv p _ em
      obtain ⟨vs, rfl, hr⟩ := r
      exact lstcase p xs vs ra (SqL.of e) hr hq
    · exact hq.elim
  | _ => exact (show False from hq).elim
def rSl (te : RTE) (tl th : RTO) : RTE := fun σ M Q => te σ M fun x M1 => tl σ M1 fun l M2 => th σ M2 fun u M3 => rSlc x l u M3 Q
theorem rsl {e : Expr} {te : RTE} {lo hi : Option Expr} {tl th : RTO} {pos p2 : Pos} (he : RPE X e te) (hl : RPO X lo tl) (hu : RPO X hi th) : RPE X (.Subscript e (.Slice lo hi none p2) pos) (rSl te tl th) := PE.imp (pe_slice oslc he hl hu) fun σ0 H Q0 h => by
  obtain ⟨σ, M, Q, hs, hv, ht, hk⟩ := h
  refine ⟨σ, M, _, hs, hv, ht, fun rx M1 x H1 q e1 v1 r1 => ?_⟩
  refine ⟨σ, M1, _, hs.ext e1, v1, q, fun l M2 H2 q2 e2 v2 => ?_⟩
  refine ⟨σ, M2, _, hs.ext (e1.trans e2), v2, q2, fun u M3 H3 q3 e3 v3 => ?_⟩
  exact ⟨rx, M3, Q, Rep.ext (e2.trans e3) rx x r1, v3, q3, hk.ext ((e1.trans e2).trans e3)⟩
theorem kit_non_int (K : PySem.W.Frag) : PySem.W.kitOne K (.type "NoneType") (.type "int") = some false := by kernel_rfl
theorem kit_bl_int (K : PySem.W.Frag) : PySem.W.kitOne K (.type "bool") (.type "int") = some true := by kernel_rfl
theorem kit_int_int (K : PySem.W.Frag) : PySem.W.kitOne K (.type "int") (.type "int") = some true := by kernel_rfl
theorem kit_str_int (K : PySem.W.Frag) : PySem.W.kitOne K (.type "str") (.type "int") = some false := by kernel_rfl
theorem kit_tup_int (K : PySem.W.Frag) : PySem.W.kitOne K (.type "tuple") (.type "int") = some false := by kernel_rfl
theorem kit_ls_int (K : PySem.W.Frag) : PySem.W.kitOne K (.type "list") (.type "int") = some false := by kernel_rfl
def is_int : RV → Option Bool
  | .non => some false
  | .bl _ => some true
  | .int _ => some true
  | .str _ => some false
  | .tup _ => some false
  | .ls _ => some false
  | _ => none
theorem kit_non_bool (K : PySem.W.Frag) : PySem.W.kitOne K (.type "NoneType") (.type "bool") = some false := by kernel_rfl
theorem kit_bl_bool (K : PySem.W.Frag) : PySem.W.kitOne K (.type "bool") (.type "bool") = some true := by kernel_rfl
theorem kit_int_bool (K : PySem.W.Frag) : PySem.W.kitOne K (.type "int") (.type "bool") = some false := by kernel_rfl
theorem kit_str_bool (K : PySem.W.Frag) : PySem.W.kitOne K (.type "str") (.type "bool") = some false := by kernel_rfl
theorem kit_tup_bool (K : PySem.W.Frag) : PySem.W.kitOne K (.type "tuple") (.type "bool") = some false := by kernel_rfl
theorem kit_ls_bool (K : PySem.W.Frag) : PySem.W.kitOne K (.type "list") (.type "bool") = some false := by kernel_rfl
def is_bool : RV → Option Bool
  | .non => some false
  | .bl _ => some true
  | .int _ => some false
  | .str _ => some false
  | .tup _ => some false
  | .ls _ => some false
  | _ => none
def is_str : RV → Option Bool
  | .non => some false
  | .bl _ => some false
  | .int _ => some false
  | .str _ => some true
  | .tup _ => some false
  | .ls _ => some false
  | _ => none
theorem kit_non_tuple (K : PySem.W.Frag) : PySem.W.kitOne K (.type "NoneType") (.type "tuple") = some false := by kernel_rfl
theorem kit_bl_tuple (K : PySem.W.Frag) : PySem.W.kitOne K (.type "bool") (.type "tuple") = some false := by kernel_rfl
theorem kit_int_tuple (K : PySem.W.Frag) : PySem.W.kitOne K (.type "int") (.type "tuple") = some false := by kernel_rfl
theorem kit_str_tuple (K : PySem.W.Frag) : PySem.W.kitOne K (.type "str") (.type "tuple") = some false := by kernel_rfl
theorem kit_tup_tuple (K : PySem.W.Frag) : PySem.W.kitOne K (.type "tuple") (.type "tuple") = some true := by kernel_rfl
theorem kit_ls_tuple (K : PySem.W.Frag) : PySem.W.kitOne K (.type "list") (.type "tuple") = some false := by kernel_rfl
def is_tuple : RV → Option Bool
  | .non => some false
  | .bl _ => some false
  | .int _ => some false
  | .str _ => some false
  | .tup _ => some true
  | .ls _ => some false
  | _ => none
theorem kit_ls_list (K : PySem.W.Frag) : PySem.W.kitOne K (.type "list") (.type "list") = some true := by kernel_rfl
def is_list : RV → Option Bool
  | .non => some false
  | .bl _ => some false
  | .int _ => some false
  | .str _ => some false
  | .tup _ => some false
  | .ls _ => some true
  | _ => none
def tyN : RV → Option String
  | .non => some "NoneType"
  | .bl _ => some "bool"
  | .int _ => some "int"
  | .str _ => some "str"
  | .tup _ => some "tuple"
  | .ls _ => some "list"
  | _ => none
def rIsi (T : String) (test : RV → Option Bool) : List RV → RM → RVK → Prop := fun rs M Q => match rs with
  | [x, .ty T'] => T' = T ∧ (match test x with | some b => Q (.bl b) M | none => False)
  | _ => False
theorem cisi {T : String} {test : RV → Option Bool} (ht : ∀ a b, test a = some b → ∃ n, tyN a = some n ∧ PySem.W.kitOne X.K (.type n) (.type T) = some b) : CallR X (.builtin "isinstance") (upC X.K (rIsi T test)) := by
  intro pins s σ H xs us Q0 I rl h
  obtain ⟨rs, M, Q, rr, hv, hq, hk⟩ := h
  unfold rIsi at hq
  split at hq
  · rename_i a T'
    obtain ⟨rfl, hq⟩ := hq
    obtain ⟨v, w, rfl, r1, r2⟩ := rr.two
    obtain ⟨u, u', rfl, w1, w2⟩ := vals2 rl
    simp only [Rep] at r2
    subst r2
    obtain rfl : u' = Value.type T' := w2
    cases e : test a with
    | none => rw [e] at hq; exact hq.elim
    | some b =>
      rw [e] at hq
      obtain ⟨n, en, ek⟩ := ht a b e
      have fin : ∀ tk, EP X pins σ Q0 (.bool b) { s with toks := tk } := fun tk => ⟨.bl b, H, I.tok tk, rfl, hk _ M _ H hq (.refl H) hv (by simp only [Rep])⟩
      cases a with
      | non => cases en; simp only [Rep] at r1; subst r1; cases (show u = Value.none from w1); exact PySem.W.kia_one PySem.W.kitx_none I.kIn True.intro ek (fun z => nomatch z) fin
      | bl y => cases en; simp only [Rep] at r1; subst r1; cases (show u = Value.bool y from w1); exact PySem.W.kia_one PySem.W.kitx_bool I.kIn True.intro ek (fun z => nomatch z) fin
      | int y => cases en; simp only [Rep] at r1; subst r1; obtain ⟨t, q⟩ := (show ∃ t, u = Value.int y t from w1); cases q; exact PySem.W.kia_one PySem.W.kitx_int I.kIn True.intro ek (fun z => nomatch z) fin
      | str y => cases en; simp only [Rep] at r1; subst r1; obtain ⟨t, q⟩ := (show ∃ t, u = Value.str y t from w1); cases q; exact PySem.W.kia_one PySem.W.kitx_str I.kIn True.intro ek (fun z => nomatch z) fin
      | tup ys =>
        cases en; simp only [Rep] at r1
        obtain ⟨p, vs, rfl, hp, hr⟩ := r1
        cases (show u = Value.ref p from w1)
        obtain ⟨its, _, pt, _⟩ := I.tuple hp
        obtain ⟨o, h1, h2, _⟩ := pt
        exact PySem.W.kia_one PySem.W.kitx_tuple I.kIn ⟨o, h1, h2⟩ ek (fun z => nomatch z) fin
      | ls ys =>
        cases en; simp only [Rep] at r1
        obtain ⟨p, vs, rfl, hp, hr⟩ := r1
        cases (show u = Value.ref p from w1)
        obtain ⟨its, _, pt, _⟩ := I.list hp.sq
        obtain ⟨o, h1, h2, _⟩ := pt.isList
        exact PySem.W.kia_one PySem.W.kitx_list I.kIn ⟨o, h1, h2⟩ ek (fun z => nomatch z) fin
      | _ => cases en
  · exact hq.elim
theorem cisi_int : CallR X (.builtin "isinstance") (upC X.K (rIsi "int" is_int)) := cisi fun a b e => by
  cases a with
  | non => cases e; exact ⟨_, rfl, kit_non_int X.K⟩
  | bl _ => cases e; exact ⟨_, rfl, kit_bl_int X.K⟩
  | int _ => cases e; exact ⟨_, rfl, kit_int_int X.K⟩
  | str _ => cases e; exact ⟨_, rfl, kit_str_int X.K⟩
  | tup _ => cases e; exact ⟨_, rfl, kit_tup_int X.K⟩
  | ls _ => cases e; exact ⟨_, rfl, kit_ls_int X.K⟩
  | _ => cases e
theorem cisi_bool : CallR X (.builtin "isinstance") (upC X.K (rIsi "bool" is_bool)) := cisi fun a b e => by
  cases a with
  | non => cases e; exact ⟨_, rfl, kit_non_bool X.K⟩
  | bl _ => cases e; exact ⟨_, rfl, kit_bl_bool X.K⟩
  | int _ => cases e; exact ⟨_, rfl, kit_int_bool X.K⟩
  | str _ => cases e; exact ⟨_, rfl, kit_str_bool X.K⟩
  | tup _ => cases e; exact ⟨_, rfl, kit_tup_bool X.K⟩
  | ls _ => cases e; exact ⟨_, rfl, kit_ls_bool X.K⟩
  | _ => cases e
theorem cisi_tuple : CallR X (.builtin "isinstance") (upC X.K (rIsi "tuple" is_tuple)) := cisi fun a b e => by
  cases a with
  | non => cases e; exact ⟨_, rfl, kit_non_tuple X.K⟩
  | bl _ => cases e; exact ⟨_, rfl, kit_bl_tuple X.K⟩
  | int _ => cases e; exact ⟨_, rfl, kit_int_tuple X.K⟩
  | str _ => cases e; exact ⟨_, rfl, kit_str_tuple X.K⟩
  | tup _ => cases e; exact ⟨_, rfl, kit_tup_tuple X.K⟩
  | ls _ => cases e; exact ⟨_, rfl, kit_ls_tuple X.K⟩
  | _ => cases e
abbrev RSp := List RV → RM → RVK → Prop
def upSp (K : PySem.W.Frag) (sp : RSp) : Sp := fun vs H Q0 _ => ∃ rs M Q, Reps K H rs vs ∧ View K H M ∧ sp rs M Q ∧ UpK K H Q Q0
end
structure RFn (P : Program) (w : World) (K : PySem.W.Frag) (mg : Str → Option Value) (base : Heap) (k : Nat) (x : Str) (ps : List Str) (sp : RSp) : Prop where
  ex : ∃ (f : Addr) (fd : FuncData), mg x = some (.ref f) ∧ PySem.W.keepIn K (.ref f) = true ∧ Binds K fd ps [] ∧ FnOk P w K mg base CX0 k f fd ps (upSp K sp)
section
variable {X : Cx} {x : Str} {p pos : Pos} {e : Expr} {es : List Expr} {t : RTA} {k : Nat} {ps : List Str} {sp : RSp}
theorem rcallF (F : RFn X.prog X.w X.K X.mg X.base k x ps sp) (hr : Room k X.A) (ha : RPA X (e :: es) t) (hg : Gl X x := by rfl) (hdb : (x == ("__debug__" : Str)) = false := by decide)
    (he : starEach (e :: es) X.env = (false, eval e X.env) :: starEach es X.env := by rfl) (hpl : (backTo pos (starEach es X.env)).any (·.1) = false := by rfl) : RPE X (.Call (.Name x p) (e :: es) [] pos) (rCall sp t) := by
  obtain ⟨f, fd, hm, hk, hb, F⟩ := F.ex
  refine PE.imp (pe_call F hr hg hm hk hb .nil pass0 ha hdb he hpl) fun σ0 H Q0 h => ?_
  obtain ⟨σ, M, Q, hs, hv, ht, hk⟩ := h
  exact ⟨σ, M, _, hs, hv, ht, fun rs M1 vs H1 q e1 v1 r1 => ⟨rs, M1, Q, by rw [List.append_nil]; exact r1, v1, q, hk.ext e1⟩⟩
def rstart (N : List Str) (rs : List RV) : RSt := rs.map some ++ List.replicate (N.length - rs.length) none
theorem start_rep {K : PySem.W.Frag} {H : Hp} {N : List Str} {rs : List RV} {vs : List V} (r : Reps K H rs vs) : RepSt K H (rstart N rs) (L2.start N vs) := by
  unfold rstart L2.start
  refine ⟨by simp [r.length], fun i z e => ?_⟩
  have hi : i < rs.length := by
    by_cases hi : i < rs.length
    · exact hi
    · rw [List.getElem?_append_right (by simpa using hi), List.getElem?_replicate] at e
      split at e <;> cases e
  rw [List.getElem?_append_left (by simpa using hi), List.getElem?_map] at e
  cases q : rs[i]? with
  | none => rw [q] at e; cases e
  | some y =>
    rw [q] at e; cases e
    obtain ⟨v, e1, r1⟩ := r.get q
    exact ⟨v, by rw [List.getElem?_append_left (by rw [List.length_map, ← r.length]; exact hi), List.getElem?_map, e1]; rfl, r1⟩
def nums (n : Nat) : List RV := (List.range n).map fun (i : Nat) => RV.int (i : Int)
theorem nums_len (n : Nat) : (nums n).length = n := by simp [nums]
end
section
variable {X : Cx}
end
end R
set_option Elab.async false
set_option linter.all false
set_option maxRecDepth 100000
set_option maxHeartbeats 1000000
namespace R
open PySem PySem.Spec PyProof.Rows L2
structure ItOf (K : PySem.W.Frag) (J : It) (xs : List RV) (H1 : Hp) : Prop where
  turn : ∀ i H, Ext H1 H → ∀ x, xs[i]? = some x → J.go i H ∧ ∀ v H', J.yld i H v H' → Ext H H' ∧ (∀ M, View K H M → View K H' M) ∧ Rep K H' x v
  stop : ∀ i H, Ext H1 H → xs.length ≤ i → J.stop i H
abbrev RTI := RSt → RM → (List RV → RM → Prop) → Prop
def upI (K : PySem.W.Frag) (ti : RTI) : TI := fun σ0 H R => ∃ σ M Q, RepSt K H σ σ0 ∧ View K H M ∧ ti σ M Q ∧ ∀ xs M' J H', Q xs M' → Ext H H' → View K H' M' → ItOf K J xs H' → R J H'
def RPI (X : Cx) (tg iter : Expr) (ti : RTI) : Prop := PI X tg iter (upI X.K ti)
section
variable {X : Cx} {tg : Expr}
def rItS (te : RTE) : RTI := fun σ M Q => te σ M fun v M1 => match v with
  | .tup xs => Q xs M1
  | .ls xs => Q xs M1
  | _ => False
theorem itl_of {K : PySem.W.Frag} {H1 : Hp} {a : Addr} {rs : List RV} {vs : List V} (h : Fz K H1 a vs) (r : Reps K H1 rs vs) : ItOf K (Itl K a) rs H1 where
  turn := fun i H e x hx => by
    obtain ⟨v, e1, r1⟩ := r.get hx
    refine ⟨⟨vs, v, (h.ext e).sq, e1⟩, fun v' H' y => ?_⟩
    obtain ⟨rfl, y⟩ := y
    have := y vs (h.ext e).sq
    rw [e1] at this; cases this
    exact ⟨.refl _, fun _ w => w, Rep.ext e x v r1⟩
  stop := fun i H e hi => ⟨vs, (h.ext e).sq, by rw [← r.length]; exact hi⟩
theorem itt_of {K : PySem.W.Frag} {H1 : Hp} {a : Addr} {rs : List RV} {vs : List V} (h : SqT K H1 a vs) (r : Reps K H1 rs vs) : ItOf K (Itt K a) rs H1 where
  turn := fun i H e x hx => by
    obtain ⟨v, e1, r1⟩ := r.get hx
    refine ⟨⟨vs, v, SqT.ext e h, e1⟩, fun v' H' y => ?_⟩
    obtain ⟨rfl, y⟩ := y
    have := y vs (SqT.ext e h)
    rw [e1] at this; cases this
    exact ⟨.refl _, fun _ w => w, Rep.ext e x v r1⟩
  stop := fun i H e hi => ⟨vs, SqT.ext e h, by rw [← r.length]; exact hi⟩
theorem itr_of {K : PySem.W.Frag} {H1 : Hp} (n : Nat) : ItOf K (Itr 0 n) (nums n) H1 where
  turn := fun i H e x hx => by
    have hi : i < n := by have := (List.getElem?_eq_some_iff.mp hx).1; rw [nums_len] at this; exact this
    have hx' : x = .int (i : Int) := by simp [nums, hi] at hx; exact hx.symm
    subst hx'
    refine ⟨hi, fun v' H' y => ?_⟩
    obtain ⟨rfl, rfl⟩ := y
    exact ⟨.refl _, fun _ w => w, by simp only [Rep]; simp⟩
  stop := fun i H e hi => by rw [nums_len] at hi; exact hi
theorem iseq {l : Expr} {te : RTE} (hl : RPE X l te) : RPI X tg l (rItS te) := by
  intro pins s σ0 H R I h
  obtain ⟨σ, M, Q, hs, hv, ht, hk⟩ := h
  refine thn (hl pins s σ0 H (fun x H1 => (∃ a vs rs M1, x = .ref a ∧ Fz X.K H1 a vs ∧ Reps X.K H1 rs vs ∧ Q rs M1 ∧ Ext H H1 ∧ View X.K H1 M1) ∨ ∃ a vs rs M1, x = .ref a ∧ SqT X.K H1 a vs ∧ Reps X.K H1 rs vs ∧ Q rs M1 ∧ Ext H H1 ∧ View X.K H1 M1) I ⟨σ, M, _, hs, hv, ht, fun rv M1 v H1 q e1 v1 r1 => ?_⟩) fun v s1 ⟨x, H1, I1, r1, q1⟩ => ?_
  · cases rv with
    | ls xs => simp only [Rep] at r1; obtain ⟨a, vs, rfl, h1, h2⟩ := r1; exact .inl ⟨a, vs, xs, M1, rfl, h1, h2, q, e1, v1⟩
    | tup xs => simp only [Rep] at r1; obtain ⟨a, vs, rfl, h1, h2⟩ := r1; exact .inr ⟨a, vs, xs, M1, rfl, h1, h2, q, e1, v1⟩
    | _ => exact (show False from q).elim
  · rcases q1 with ⟨a, vs, rs, M1, rfl, h1, h2, q, e1, v1⟩ | ⟨a, vs, rs, M1, rfl, h1, h2, q, e1, v1⟩
    · cases r1
      obtain ⟨its, rv, p, hz⟩ := I1.list h1.sq
      refine wpAny_pyIter_list p.isList ?_
      refine ⟨s1.heap.objs.size, [s1.heap.objs.size], _, _, H1, rfl, I1.kept (t' := s1.toks) fun b o e => Heap.get?_push_of_some _ e, turn_list a _, ⟨_, Heap.get?_push_size _ rfl, rfl, rfl⟩, fun b hb => ?_, hk rs M1 _ H1 q e1 v1 (itl_of h1 h2)⟩
      have e : b = s1.heap.objs.size := by simpa using hb
      subst e
      exact I1.fpOk (Nat.le_refl _) (I1.hok.fresh (Nat.le_refl _))
    · cases r1
      obtain ⟨its, rv, p, hz⟩ := I1.tuple h1
      refine wpAny_pyIter_tuple (show s1.heap.IsTuple a its.toArray from p) ?_
      refine ⟨s1.heap.objs.size, [s1.heap.objs.size], _, _, H1, rfl, I1.kept (t' := s1.toks) fun b o e => Heap.get?_push_of_some _ e, turn_tuple a _, ⟨_, Heap.get?_push_size _ rfl, rfl, rfl⟩, fun b hb => ?_, hk rs M1 _ H1 q e1 v1 (itt_of h1 h2)⟩
      have e : b = s1.heap.objs.size := by simpa using hb
      subst e
      exact I1.fpOk (Nat.le_refl _) (I1.hok.fresh (Nat.le_refl _))
def rRngI (Q : List RV → RM → Prop) : List RV → RM → Prop := fun rs M => match rs with
  | [.int n] => -(2 ^ 62) ≤ n ∧ n < 2 ^ 62 ∧ Q (nums n.toNat) M
  | _ => False
def rItR (te : RTE) : RTI := fun σ M Q => te σ M fun v M1 => rRngI Q [v] M1
theorem PI.imp {iter : Expr} {t t' : TI} (h : PI X tg iter t) (i : ∀ σ H R, t' σ H R → t σ H R) : PI X tg iter t' := fun pins s σ H R I w => h pins s σ H R I (i σ H R w)
theorem irange {a : Expr} {te : RTE} {p pos : Pos} (hm : X.mg "range" = none) (ha : RPE X a te) (hgl : Gl X "range" := by rfl) (hst : starEach [a] X.env = [(false, eval a X.env)] := by rfl) (hsc : starEach (a :: []) X.env = (false, eval a X.env) :: starEach [] X.env := by rfl) :
    RPI X tg (.Call (.Name "range" p) [a] [] pos) (rItR te) := PI.imp (pi_range1 hgl hm (acons ha anil hsc) hst) fun σ0 H R h => by
  obtain ⟨σ, M, Q, hs, hv, ht, hk⟩ := h
  refine ⟨σ, M, rRngI Q, hs, hv, ht, fun rs M1 vs H1 q e1 v1 r1 => ?_⟩
  unfold rRngI at q
  split at q
  · rename_i n
    obtain ⟨q1, q2, q⟩ := q
    obtain ⟨v, rfl, r2⟩ := r1.one
    simp only [Rep] at r2
    subst r2
    exact ⟨n, rfl, q1, q2, hk _ M1 _ H1 q e1 v1 (itr_of _)⟩
  · exact q.elim
def rForI (ti : RTI) (g : RTG) (tb : RTS) : RTS := fun D σ M => ti σ M fun xs M1 => rForL g tb D xs σ M1
theorem sfor {iter : Expr} {body : List Stmt} {ti : RTI} {g : RTG} {tb : RTS} {pos : Pos} (hp : PassesOwn (model X.prog X.w) X.A X.env X.xe) (hc : X.calm = true) (hi : RPI X tg iter ti) (hg : RPG X tg g) (hb : RPSs X body tb)
    (hs : ∀ x, foldedSetIterable iter X.env x = pure x := by intro _; rfl) : RPS X (.For tg iter body [] pos) (rForI ti g tb) := PS.imp (ps_for hp hc hi hg hb hs) fun D0 σ0 H h => by
  obtain ⟨σ, M, D, hs, hv, ht, hd⟩ := h
  refine ⟨σ, M, _, hs, hv, ht, fun xs M1 J H1 q e1 v1 hJ => ?_⟩
  refine ⟨fun i m σ0 H => m = xs.length - i ∧ i ≤ xs.length ∧ ∃ σ M, RepSt X.K H σ σ0 ∧ View X.K H M ∧ rForL g tb D (xs.drop i) σ M ∧ Ext H1 H, ⟨_, rfl, Nat.zero_le _, σ, M1, hs.ext e1, v1, by simpa using q, .refl _⟩, ?_⟩
  rintro i m σ0 H ⟨rfl, hi, σ, M, hs, hv, hf, e⟩
  by_cases hlt : i < xs.length
  · have ed : xs.drop i = xs[i] :: xs.drop (i + 1) := by simp
    rw [ed] at hf
    obtain ⟨hgo, hy⟩ := hJ.turn i H e xs[i] (by simp)
    refine .inr ⟨hgo, fun σ0 H => ∃ σ M, RepSt X.K H σ σ0 ∧ View X.K H M ∧ rForL g tb D (xs.drop (i + 1)) σ M ∧ Ext H1 H, fun σ' H' h => ⟨_, by omega, rfl, hlt, h⟩, fun x H' y => ?_⟩
    obtain ⟨e2, w2, r2⟩ := hy x H' y
    refine ⟨xs[i], σ, M, _, r2, hs.ext e2, w2 M hv, hf, fun σ' M' σ0' H'' q e3 v3 r3 => ?_⟩
    have e13 := (e.trans e2).trans e3
    refine ⟨σ', M', _, r3, v3, q, ⟨fun σ4 M4 σ04 H4 q4 e4 v4 r4 => ⟨σ4, M4, r4, v4, q4, e13.trans e4⟩, (hd.ext (e1.trans e13)).rt, (hd.ext (e1.trans e13)).nx, fun σ4 M4 σ04 H4 q4 e4 v4 r4 => ⟨σ4, M4, r4, v4, q4, e13.trans e4⟩⟩⟩
  · have ei : i = xs.length := by omega
    subst ei
    rw [List.drop_length] at hf
    exact .inl ⟨hJ.stop _ H e (Nat.le_refl _), hd.nx σ M σ0 H hf (e1.trans e) hv hs⟩
end
theorem closure_ok {env : Env} : ∀ (scope : Scope), (∀ y ∈ scope.names, y.2 = .free → ∃ c, env.cells.lookup y.1 = some c) → ∃ cl, closureFor scope env = pure cl ∧ (∀ y c, cl.lookup y = some c → env.cells.lookup y = some c) ∧ ∀ y ∈ scope.names, y.2 = .free → ∃ c, cl.lookup y.1 = some c := by
  intro scope h
  have all : ∀ (l : List (Str × NameKind)) (cs : List (Str × Addr)), (∀ y ∈ l, y.2 = .free → ∃ c, env.cells.lookup y.1 = some c) → (∀ y c, cs.lookup y = some c → env.cells.lookup y = some c) →
      ∃ cl, (forIn l cs fun (x : Str × NameKind) (r : List (Str × Addr)) => (match x with | (name, kind) => if (kind == NameKind.free) = true then do let c ← cellOf env name; pure (ForInStep.yield ((name, c) :: r)) else pure (ForInStep.yield r) : Sem (ForInStep (List (Str × Addr))))) = (pure cl : Sem _) ∧
        (∀ y c, cl.lookup y = some c → env.cells.lookup y = some c) ∧ (∀ y c, cs.lookup y = some c → ∃ c', cl.lookup y = some c') ∧ ∀ y ∈ l, y.2 = .free → ∃ c, cl.lookup y.1 = some c := by
    intro l
    induction l with
    | nil => intro cs _ h2; exact ⟨cs, by simp, h2, fun y c e => ⟨c, e⟩, fun y hy => by cases hy⟩
    | cons x l ih =>
      intro cs h1 h2
      obtain ⟨n, k⟩ := x
      by_cases hk : k = .free
      · subst hk
        obtain ⟨c, ec⟩ := h1 (n, .free) List.mem_cons_self rfl
        have e0 : cellOf env n = pure c := by unfold cellOf; rw [ec]
        obtain ⟨cl, e1, e2, e3, e4⟩ := ih ((n, c) :: cs) (fun y hy => h1 y (List.mem_cons_of_mem _ hy)) (fun y d e => by
          rw [List.lookup_cons] at e
          split at e
          · rename_i z; cases e; rw [eq_of_beq z]; exact ec
          · exact h2 y d e)
        refine ⟨cl, ?_, e2, fun y d e => ?_, fun y hy hf => ?_⟩
        · rw [List.forIn_cons]
          simp only [beq_self_eq_true, if_true, e0, pure_bind]
          exact e1
        · by_cases hy : y = n
          · subst hy; exact e3 y c (by simp)
          · exact e3 y d (by rw [List.lookup_cons, beq_eq_false_iff_ne.mpr hy]; exact e)
        · rcases List.mem_cons.mp hy with rfl | hy
          · exact e3 n c (by simp)
          · exact e4 y hy hf
      · obtain ⟨cl, e1, e2, e3, e4⟩ := ih cs (fun y hy => h1 y (List.mem_cons_of_mem _ hy)) h2
        have hb : (k == NameKind.free) = false := by simpa using hk
        refine ⟨cl, ?_, e2, e3, fun y hy hf => ?_⟩
        · rw [List.forIn_cons]
          simp only [hb, Bool.false_eq_true, if_false, pure_bind]
          exact e1
        · rcases List.mem_cons.mp hy with rfl | hy
          · exact absurd hf hk
          · exact e4 y hy hf
  obtain ⟨cl, e1, e2, _, e4⟩ := all scope.names [] h (fun y c e => by simp at e)
  refine ⟨cl, ?_, e2, e4⟩
  unfold closureFor
  have e5 := congrArg (fun m => m >>= fun r => (pure r : Sem (List (Str × Addr)))) e1
  simp only [pure_bind] at e5
  rw [← e5]
def relF (env : Env) (p : Str × NameKind) : Str × NameKind := if (p.2 == NameKind.free && env.scope.kind == .function && env.kindOf p.1 == some .cell) then (p.1, NameKind.cell) else (p.1, p.2)
theorem relF_fst (env : Env) (p : Str × NameKind) : (relF env p).1 = p.1 := by unfold relF; split <;> rfl
theorem relF_snd (env : Env) (p : Str × NameKind) : (relF env p).2 = p.2 ∨ ((relF env p).2 = .cell ∧ p.2 = .free) := by
  unfold relF
  split
  · rename_i h
    rw [Bool.and_eq_true, Bool.and_eq_true] at h
    exact .inr ⟨rfl, eq_of_beq h.1.1⟩
  · exact .inl rfl
theorem lookup_relF {env : Env} {x : Str} : ∀ {names : List (Str × NameKind)}, (names.map (relF env)).lookup x = (names.find? fun p => x == p.1).map fun p => (relF env p).2
  | [] => rfl
  | p :: r => by
    rw [List.map_cons, List.find?_cons]
    obtain ⟨n, k⟩ := p
    have e : relF env (n, k) = (n, (relF env (n, k)).2) := Prod.ext (relF_fst env (n, k)) rfl
    rw [e, List.lookup_cons]
    cases hx : x == n with
    | true => rfl
    | false => exact lookup_relF
theorem lookup_find {x : Str} : ∀ {names : List (Str × NameKind)}, names.lookup x = (names.find? fun p => x == p.1).map fun p => p.2
  | [] => rfl
  | (n, k) :: r => by
    rw [List.lookup_cons, List.find?_cons]
    cases hx : x == n with
    | true => rfl
    | false => exact lookup_find
theorem relabel_back {env : Env} {names : List (Str × NameKind)} {x : Str} {k : NameKind} (hc : ∀ y ∈ names, y.2 ≠ .cell) (hk : k = .cell ∨ k = .free)
    (h : (names.map (relF env)).lookup x = some k) : names.lookup x = some .free := by
  rw [lookup_relF] at h
  rw [lookup_find]
  cases e : names.find? fun p => x == p.1 with
  | none => rw [e] at h; cases h
  | some p =>
    rw [e] at h
    have h' : (relF env p).2 = k := Option.some.inj h
    have hp := List.mem_of_find?_eq_some e
    show some p.2 = some .free
    rcases relF_snd env p with z | z
    · rcases hk with rfl | rfl
      · exact absurd (z.symm.trans h') (hc p hp)
      · rw [← h', z]
    · rw [z.2]
theorem relabel_free {env : Env} {names : List (Str × NameKind)} {x : Str} (h : names.lookup x = some .free) : (names.map (relF env)).lookup x = some .cell ∨ (names.map (relF env)).lookup x = some .free := by
  rw [lookup_find] at h
  rw [lookup_relF]
  cases e : names.find? fun p => x == p.1 with
  | none => rw [e] at h; cases h
  | some p =>
    rw [e] at h
    have h' : p.2 = .free := Option.some.inj h
    show some (relF env p).2 = some .cell ∨ some (relF env p).2 = some .free
    rcases relF_snd env p with z | z
    · right; rw [z, h']
    · left; rw [z.1]
def blk (X : Cx) (scope : Scope) (cl : List (Str × Addr)) (C : Addr) (Nc : List Str) (s : Shared) (H : Hp) (fp : List Addr) : Cx :=
  { X with N := Nc, s₀ := s, H₀ := H, env := compEnvC scope cl C X.env, outer := X.stack, ex := fp, fn := fun _ => false, pn := [], xe := fun _ _ => False }
theorem blk_ok {X : Cx} {pins : List (Addr × Obj)} {σ : L2.St} {H : Hp} {s : Shared} {scope : Scope} {cl : List (Str × Addr)} {C : Addr} {Nc : List Str} {fp : List Addr} (I : Inv X pins σ H s) (hf : ∀ b ∈ fp, FpOk X pins H b) (hlt : ∀ b ∈ fp, b < s.heap.objs.size)
    (hkind : scope.kind = .function) (hC : s.heap.objs.size ≤ C) (h1 : ∀ y c, cl.lookup y = some c → X.env.cells.lookup y = some c) (h2 : ∀ y ∈ scope.names, y.2 = .free → ∃ c, cl.lookup y.1 = some c) (hcell : ∀ y ∈ scope.names, y.2 ≠ .cell) :
    (blk X scope cl C Nc s H fp).Ok where
  mod := I.ok.mod
  kind := hkind
  glob := I.ok.glob
  blt := I.ok.blt
  above := hC
  inj := fun x y c e1 e2 => I.ok.inj x y c (h1 x c e1) (h1 y c e2)
  has := fun x hx => by
    have e : scope.names.lookup x = some .free := by
      rcases hx with hx | hx
      · exact relabel_back hcell (.inl rfl) hx
      · exact relabel_back hcell (.inr rfl) hx
    exact h2 (x, .free) (PySem.mem_of_lookup e) rfl
  cab := fun x c z => by cases z
  hd := I.ok.hd
  frames := I.ok.frames
  stk := .inl rfl
  exf := fun b hb => ⟨fun z => absurd (Nat.lt_of_lt_of_le (hlt b hb) hC) (by rw [show b = C from z]; exact Nat.lt_irrefl _), fun x c e => (hf b hb).2.2.2.2.1 x c (h1 x c e)⟩
  bs := fun b o e => I.bs b o e
  bsz := Nat.le_trans I.ok.bsz I.sz
  noex := fun b o e hb => by
    rcases (hf b hb).2.2.2.1 with z | z
    · exact I.ok.noex b o e z
    · exact absurd (Nat.lt_of_lt_of_le (Heap.lt_size e) (Nat.le_trans I.ok.bsz z)) (Nat.lt_irrefl _)
  exfs := fun b hb z => by
    rcases List.mem_cons.mp (I.stkSub b z) with e | e
    · exact (hf b hb).2.1 e
    · exact (hf b hb).2.2.1 e
  funs := I.stack
  frf := I.stkFree
end R
set_option Elab.async false
set_option linter.all false
set_option maxRecDepth 100000
set_option maxHeartbeats 1000000
namespace R
open PySem PySem.Spec PyProof.Rows L2
section
variable {prog : Program} {w : World} {A : Around} {R : Result → Shared → Prop} {s : Shared}
abbrev Nv : Value → Shared → Prop := fun _ _ => False
abbrev testsOf (ifs : List Expr) (env : Env) : Sem Bool := forIn ifs true fun c r => if r = true then do let ok ← isTrue c env (eval c env); pure (ForInStep.yield ok) else pure (ForInStep.yield r)
theorem comp_loop {elt target iter : Expr} {ifs : List Expr} {scope : Scope} {pos : Pos} {it acc : Value} {env : Env} (I : Nat → Shared → Prop)
    (turn : ∀ n s, I n s → wpAny (model prog w) A (pyNext it) (fun r s₁ => (r = none ∧ R (.ok .next) s₁) ∨ ∃ v, r = some v ∧ wpAny (model prog w) A (letOwnedTupleGo target it v) (fun _ s₁' => wpAny (model prog w) A (assign target env v) (fun _ s₂ =>
          wpAny (model prog w) A (testsOf ifs env) (fun ok s₃ =>
            if ok = true then wpAny (model prog w) A (eval elt env) (fun x s₄ =>
              wpAny (model prog w) A (call (.builtin "list.append") [acc, x]) (fun _ s₅ => ∃ m, m < n ∧ I m s₅) Nv s₄) Nv s₃
            else ∃ m, m < n ∧ I m s₃) Nv s₂) Nv s₁') Nv s₁) Nv s)
    (n : Nat) (h : I n s) :
    codeAny (model prog w) A (.compLoop (.ListComp elt [⟨target, iter, ifs, 0⟩] scope pos) 0 it acc env) R s := by
  refine codeAny_loop rfl I (fun n s hI => ?_) n h
  show wpAny _ A ((compTurn (.ListComp elt [⟨target, iter, ifs, 0⟩] scope pos) 0 it acc env).onRaise (fun x => do noteFrame x env; theTreesLotGoes x)) _ _ s
  refine wpAny_noted ?_
  rw [compTurn_list]
  refine wpAny_bind (wpAny_standAt (wpAny_bind (wpAny_mono (turn n s hI) (fun r s₁ h₁ => ?_) fun _ _ h' => h'.elim)))
  rcases h₁ with ⟨rfl, h₁⟩ | ⟨v, rfl, h₁⟩
  · exact wpAny_pure h₁
  · refine wpAny_bind (wpAny_mono h₁ (fun _ s₁' h₁' => ?_) fun _ _ h' => h'.elim)
    refine wpAny_bind (wpAny_mono h₁' (fun _ s₂ h₂ => wpAny_bind (wpAny_mono h₂ (fun ok s₃ h₃ => ?_) fun _ _ h' => h'.elim)) fun _ _ h' => h'.elim)
    cases ok with
    | false => exact wpAny_pure ⟨rfl, h₃⟩
    | true =>
      exact wpAny_bind (wpAny_bind (wpAny_mono h₃ (fun x s₄ h₄ => wpAny_bind (wpAny_mono h₄ (fun _ s₅ h₅ => wpAny_pure (wpAny_pure ⟨rfl, h₅⟩)) fun _ _ h' => h'.elim)) fun _ _ h' => h'.elim))
end
def RPTs (X : Cx) (ifs : List Expr) (t : RTT) : Prop :=
  ∀ (pins : List (Addr × Obj)) (s : Shared) (σ : L2.St) (H : Hp) (Q : Bool → Hp → Prop), Inv X pins σ H s → upT X.K t σ H Q → wpAny (model X.prog X.w) X.A (testsOf ifs X.env) (TP X pins σ Q) X.xe s
def rYes : RTT := fun _ M Q => Q true M
theorem tnil {X : Cx} : RPTs X [] rYes := by
  intro pins s σ0 H Q0 I h
  obtain ⟨σ, M, Q, hs, hv, ht, hk⟩ := h
  exact wpAny_pure ⟨H, I, hk true M H ht (.refl H) hv⟩
theorem tone {X : Cx} {c : Expr} {t : RTT} (h : RPT X c t) : RPTs X [c] t := by
  intro pins s σ0 H Q0 I hw
  have := h pins s σ0 H Q0 I hw
  unfold testsOf
  rw [List.forIn_cons]
  simp only [if_true, bind_assoc, pure_bind]
  refine wpAny_bind (thn this fun b s' q => ?_)
  simp only [List.forIn_nil]
  exact wpAny_pure q
def rCompL (tt : RTT) (te : RTE) (base : List (Option RV)) : List RV → List RV → RM → RVK → Prop
  | [], acc, M, Q => Q (.ls acc) M
  | x :: r, acc, M, Q => tt (some x :: base) M fun ok M1 => (ok = true → te (some x :: base) M1 fun v M2 => rCompL tt te base r (acc ++ [v]) M2 Q) ∧ (ok = false → rCompL tt te base r acc M1 Q)
def rComp (ti : RTI) (cap : List Nat) (tt : RTT) (te : RTE) : RTE := fun σ M Q => ti σ M fun xs M1 => xs.length < sizeLine ∧ rCompL tt te (cap.map fun i => (σ[i]?).join) xs [] M1 Q
section
variable {X : Cx}
theorem rcomp {elt iter : Expr} {x : Str} {px : Pos} {scope : Scope} {pos : Pos} {ti : RTI} {tt : RTT} {te : RTE} {ifs : List Expr} (caps : List (Nat × Str)) {osc : Scope} {oN : List Str}
    (hc : X.calm = true) (hi : RPI X (.Name x px) iter ti)
    (hif : ∀ cl C s H fp, RPTs (blk X scope cl C (x :: caps.map Prod.snd) s H fp) ifs tt)
    (hel : ∀ cl C s H fp, RPE (blk X scope cl C (x :: caps.map Prod.snd) s H fp) elt te)
    (hX : X.env.scope = osc) (hN : X.N = oN)
    (hcaps : ∀ p ∈ caps, oN[p.1]? = some p.2 ∧ scope.names.lookup p.2 = some .free ∧ (osc.names.lookup p.2 = some .cell ∨ osc.names.lookup p.2 = some .free))
    (hfr : ∀ y ∈ scope.names, y.2 = .free → (osc.names.lookup y.1 = some .cell ∨ osc.names.lookup y.1 = some .free))
    (hcell : ∀ y ∈ scope.names, y.2 ≠ .cell) (hkind : scope.kind = .function) (hnames : ∀ y ∈ scope.names, y.2 = .local → scope.names.lookup y.1 = some .local) (hx : scope.names.lookup x = some .local) (hnd : (x :: caps.map Prod.snd).Nodup)
    (hs : ∀ v, foldedSetIterable iter X.env v = pure v := by intro _; rfl) :
    RPE X (.ListComp elt [⟨.Name x px, iter, ifs, 0⟩] scope pos) (rComp ti (caps.map Prod.fst) tt te) := by
  subst hX; subst hN
  intro pins s σ0 H Q0 I hw
  obtain ⟨σ, M, Q, hst, hv, ht, hk⟩ := hw
  obtain ⟨cl, hclos, hcl1, hcl2⟩ := closure_ok scope fun y hy hf => I.ok.has y.1 (hfr y hy hf)
  rw [eval_ListComp]
  refine wpAny_comprehension_free (use := none) (cl := cl) rfl hs hclos hkind hnames ?_
  refine wpAny_mono (hi pins s σ0 H (fun J H1 => ∃ xs M1, Ext H H1 ∧ View X.K H1 M1 ∧ ItOf X.K J xs H1 ∧ xs.length < sizeLine ∧ rCompL tt te ((caps.map Prod.fst).map fun i => (σ[i]?).join) xs [] M1 Q) I ⟨σ, M, _, hst, hv, ht, fun xs M' J H' q e w hJ => ⟨xs, M', e, w, hJ, q.1, q.2⟩⟩)
    (fun v s1 h1 => wpAny_mono h1 (fun itv s2 h2 => ?_) fun _ _ e => e) fun _ _ e => e
  obtain ⟨it, fp, tn, J, H2, rfl, I2, T, st2, f2, xs, M1, e2, w2, hJ, hz, hq⟩ := h2
  have flt : ∀ b ∈ fp, b < s2.heap.objs.size := fun b hb => by obtain ⟨o, e, _⟩ := T.obj _ _ st2 b hb; exact Heap.lt_size e
  -- the list and the frame of the block
  refine wpAny_newObj_type (wpAny_newFunctionEnv hcell (by intro y hy; simp at hy) (fun h₁ hns₁ hsb₁ => ?_) hkind)
  dsimp only at hns₁ hsb₁ ⊢
  generalize hH2 : s2.heap.push { cls := .type "list", dict := none, data := .seq ([] : List Value).toArray } = hp2 at hns₁ hsb₁ ⊢
  have hCs : hp2.objs.size = s2.heap.objs.size + 1 := by rw [← hH2, Heap.size_push]
  have hDC : s2.heap.objs.size ≠ hp2.objs.size := by rw [hCs]; exact Nat.ne_of_lt (Nat.lt_succ_self _)
  have hCle : s2.heap.objs.size ≤ hp2.objs.size := by rw [hCs]; exact Nat.le_succ _
  have old : ∀ b o, s2.heap.get? b = some o → h₁.get? b = some o := fun b o e => hsb₁.extBut b o (Nat.ne_of_lt (by rw [hCs]; exact Nat.lt_succ_of_lt (Heap.lt_size e))) (Heap.get?_push_of_some _ (hH2 ▸ Heap.get?_push_of_some _ e))
  have hacc : h₁.get? s2.heap.objs.size = some { cls := .type "list", data := .seq ([] : List Value).toArray } := hsb₁.extBut _ _ hDC (Heap.get?_push_of_some _ (hH2 ▸ Heap.get?_push_size _ rfl))
  generalize hD : s2.heap.objs.size = D at *
  generalize hCg : hp2.objs.size = C at *
  have hDfp : ∀ b ∈ fp, b ≠ D := fun b hb => Nat.ne_of_lt (flt b hb)
  have okB : (blk X scope cl C (x :: caps.map Prod.snd) s2 H2 fp).Ok := blk_ok I2 f2 (by rw [hD]; exact flt) hkind (by rw [hD]; exact hCle) hcl1 hcl2 hcell
  have fr : ∀ b, D ≤ b → H2 b = none := fun b hb => I2.hok.fresh (by rw [hD]; exact hb)
  -- the captured values
  have capsV : ∃ cv : List (Option V), cv.length = caps.length ∧ (∀ (j : Nat) v, cv[j]? = some (some v) → ∃ p, caps[j]? = some p ∧ σ0[p.1]? = some (some v)) ∧
      ∀ (j : Nat) r, ((caps.map Prod.fst).map fun i => (σ[i]?).join)[j]? = some (some r) → ∃ v, cv[j]? = some (some v) ∧ Rep X.K H2 r v := by
    refine ⟨caps.map fun p => (σ0[p.1]?).join, by simp, fun j v e => ?_, fun j r e => ?_⟩
    · rw [List.getElem?_map] at e
      cases q : caps[j]? with
      | none => rw [q] at e; cases e
      | some p =>
        rw [q] at e
        have e' : (σ0[p.1]?).join = some v := Option.some.inj e
        refine ⟨p, rfl, ?_⟩
        cases z : σ0[p.1]? with
        | none => rw [z] at e'; cases e'
        | some o => rw [z] at e'; have : o = some v := e'; rw [this]
    · rw [List.getElem?_map, List.getElem?_map] at e
      cases q : caps[j]? with
      | none => rw [q] at e; cases e
      | some p =>
        rw [q] at e
        have e' : (σ[p.1]?).join = some r := Option.some.inj e
        have e'' : σ[p.1]? = some (some r) := by
          cases z : σ[p.1]? with
          | none => rw [z] at e'; cases e'
          | some o => rw [z] at e'; have : o = some r := e'; rw [this]
        obtain ⟨v, h1, h2⟩ := hst.2 p.1 r e''
        refine ⟨v, ?_, Rep.ext e2 r v h2⟩
        rw [List.getElem?_map, q]
        show some ((σ0[p.1]?).join) = _
        rw [h1]; rfl
  obtain ⟨cv, cvl, cv1, cv2⟩ := capsV
  -- the block's state at its start
  have I3 : Inv (blk X scope cl C (x :: caps.map Prod.snd) s2 H2 fp) [(D, { cls := .type "list", data := .seq ([] : List Value).toArray })] (none :: cv) H2 { s2 with heap := h₁, toks := s2.toks + ([] : List (Str × Value)).length } := by
    refine ⟨okB, rfl, I2.bare, Un.kept old, ⟨_, hns₁, fun i y v a b c => ?_⟩, fun y c e => ?_, fr C hCle, fun y c e => I2.freeC y c (hcl1 y c e), fun p hp => ?_, I2.hok.kept old, ?_⟩
    · cases i with
      | zero => cases b
      | succ j =>
        obtain ⟨p, q1, q2⟩ := cv1 j v b
        have hy : p.2 = y := by
          have a' : (caps.map Prod.snd)[j]? = some y := a
          rw [List.getElem?_map, q1] at a'
          exact Option.some.inj a'
        subst hy
        obtain ⟨z1, z2, z3⟩ := hcaps p (List.mem_of_getElem? q1)
        obtain ⟨m, hn, hl⟩ := I2.loc
        have vis : Vis X.env.scope p.2 := by rcases z3 with z | z; exact .inr (.inl z); exact .inr (.inr z)
        obtain ⟨u, ru, lk⟩ := hl p.1 p.2 v z1 q2 vis
        refine ⟨u, ru, .inr ⟨relabel_free z2, ?_⟩⟩
        obtain ⟨c, ec⟩ := hcl2 (p.2, .free) (PySem.mem_of_lookup z2) rfl
        have ec' := hcl1 p.2 c ec
        rcases lk with ⟨k, _⟩ | ⟨_, c', e', ic⟩
        · have k' : X.env.scope.names.lookup p.2 = some .local := k
          rcases z3 with z | z <;> (rw [z] at k'; cases k')
        · rw [ec'] at e'; cases e'
          obtain ⟨o, ho, hd⟩ := ic
          exact ⟨c, ec, o, old c o ho, hd⟩
    · obtain ⟨v, o, ho, hd⟩ := I2.cell y c (hcl1 y c e)
      exact ⟨v, o, old c o ho, hd⟩
    · have hp' : p = (D, { cls := .type "list", data := .seq ([] : List Value).toArray }) := by simpa [blk] using hp
      subst hp'
      refine ⟨hacc, fr D (Nat.le_refl _), hDC, fun z => ?_, fun v => by simp⟩
      have := I2.stkFree D z
      rcases List.mem_cons.mp (I2.stkSub D z) with e | e
      · exact absurd I2.lt (by rw [← e, hD]; exact Nat.lt_irrefl _)
      · exact I2.nofs (by rw [hD]; exact Nat.le_refl _) e
    · show (none :: cv).length = (x :: caps.map Prod.snd).length
      simp [cvl]
  -- the loop
  have W : ∀ s3 : Shared, s3 = { s2 with heap := h₁, toks := s2.toks + ([] : List (Str × Value)).length } → codeAny (model X.prog X.w) X.A (.compLoop (.ListComp elt [⟨.Name x px, iter, ifs, 0⟩] scope pos) 0 (.ref it) (.ref D) (compEnvC scope cl C X.env))
      (compPost (model X.prog X.w) X.A X.xe none (EP X pins σ0 Q0) (.ref D) C) s3 := by
    rintro s3 rfl
    refine comp_loop (fun n s' => ∃ (i : Nat) (v0 : Option V) (H' : Hp) (M' : RM) (accR : List RV) (accV : List V) (its : List Value) (k : Nat), n = xs.length - i ∧ i ≤ xs.length ∧ accR.length ≤ i ∧
        Inv (blk X scope cl C (x :: caps.map Prod.snd) s2 H2 fp) [(D, { cls := .type "list", data := .seq its.toArray k })] (v0 :: cv) H' s' ∧ View X.K H' M' ∧ Ext H2 H' ∧ Reps X.K H' accR accV ∧ Vals accV its ∧ tn i s'.heap ∧ (∀ b ∈ fp, H' b = none) ∧
        rCompL tt te ((caps.map Prod.fst).map fun i => (σ[i]?).join) (xs.drop i) accR M' Q) ?_ xs.length ⟨0, none, H2, M1, [], [], [], 0, rfl, Nat.zero_le _, Nat.le_refl _, I3, w2, .refl _, Reps.nil, .nil, T.keep _ _ _ st2 fun b _ o e => old b o e, fun b hb => (f2 b hb).1, by simpa using hq⟩
    rintro n s' ⟨i, v0, H', M', accR, accV, its, k, rfl, hi, hal, I4, w4, e4, ra, rl, st4, f4, hq4⟩
    have fpB : ∀ (pins' : List (Addr × Obj)) (H'' : Hp), (∀ b ∈ fp, H'' b = none) → (∀ p ∈ pins', ∀ b ∈ fp, p.1 ≠ b) → ∀ b ∈ fp, FpOk (blk X scope cl C (x :: caps.map Prod.snd) s2 H2 fp) pins' H'' b := fun pins' H'' h1 h2 b hb =>
      ⟨h1 b hb, (okB.exf b hb).1, okB.exfs b hb, .inl hb, (okB.exf b hb).2, fun p hp => h2 p (by simpa [blk] using hp) b hb⟩
    have pD : ∀ (o : Obj), ∀ p ∈ [(D, o)], ∀ b ∈ fp, p.1 ≠ b := fun o p hp b hb => by
      have : p = (D, o) := by simpa using hp
      subst this
      exact (hDfp b hb).symm
    by_cases hlt : i < xs.length
    · obtain ⟨hgo, hy⟩ := hJ.turn i H' e4 xs[i] (by simp)
      refine thn (T.item (blk X scope cl C (x :: caps.map Prod.snd) s2 H2 fp) rfl rfl rfl hc i _ s' _ H' Nv I4 (fpB _ _ f4 (pD _)) st4 hgo) fun r s5 ⟨u, hr, h5⟩ => .inr ⟨u, hr, ?_⟩
      refine thn h5 fun _ s6 ⟨xv, H6, I6, r6, y6, st6, f6⟩ => ?_
      obtain ⟨e6, w6, rr6⟩ := hy xv H6 y6
      have I6' := I6.pinned (fpB _ _ f6 (pD _)) (T.obj _ _ st6)
      refine thn (pg_name (X := blk X scope cl C (x :: caps.map Prod.snd) s2 H2 fp) (i := 0) hnd rfl (.inl (lookup_relabel_local hx)) (.inr (lookup_relabel_local hx)) _ s6 _ H6 xv u (fun σ' H' => σ' = (some xv :: cv) ∧ H' = H6) I6' r6 ⟨rfl, rfl⟩) fun _ s7 ⟨σ7, H7, I7, q7, q7'⟩ => ?_
      obtain rfl := q7
      subst q7'
      have ed : xs.drop i = xs[i] :: xs.drop (i + 1) := by simp
      rw [ed] at hq4
      have base : ∀ {Hx : Hp}, Ext H7 Hx → RepSt X.K Hx (some xs[i] :: (caps.map Prod.fst).map fun i => (σ[i]?).join) (some xv :: cv) := fun {Hx} ex => by
        refine ⟨by simp [cvl], fun j r e => ?_⟩
        cases j with
        | zero =>
          have e' : xs[i] = r := by simpa using e
          subst e'
          exact ⟨xv, rfl, Rep.ext ex _ _ rr6⟩
        | succ j =>
          obtain ⟨v, a, b⟩ := cv2 j r (by simpa using e)
          exact ⟨v, by simpa using a, Rep.ext (e4.trans (e6.trans ex)) r v b⟩
      have next : ∀ (M8 : RM) (H8 : Hp) (s8 : Shared) (accR' : List RV) (accV' : List V) (its' : List Value) (k' : Nat), accR'.length ≤ i + 1 →
          Inv (blk X scope cl C (x :: caps.map Prod.snd) s2 H2 fp) ([(D, { cls := .type "list", data := .seq its'.toArray k' })] ++ pinsAt fp s6.heap) (some xv :: cv) H8 s8 → View X.K H8 M8 → Ext H7 H8 → Reps X.K H8 accR' accV' → Vals accV' its' →
          rCompL tt te ((caps.map Prod.fst).map fun i => (σ[i]?).join) (xs.drop (i + 1)) accR' M8 Q → ∃ m, m < xs.length - i ∧ ∃ (i : Nat) (v0 : Option V) (H' : Hp) (M' : RM) (accR : List RV) (accV : List V) (its : List Value) (k : Nat), m = xs.length - i ∧ i ≤ xs.length ∧ accR.length ≤ i ∧
        Inv (blk X scope cl C (x :: caps.map Prod.snd) s2 H2 fp) [(D, { cls := .type "list", data := .seq its.toArray k })] (v0 :: cv) H' s8 ∧ View X.K H' M' ∧ Ext H2 H' ∧ Reps X.K H' accR accV ∧ Vals accV its ∧ tn i s8.heap ∧ (∀ b ∈ fp, H' b = none) ∧
        rCompL tt te ((caps.map Prod.fst).map fun i => (σ[i]?).join) (xs.drop i) accR M' Q := by
        intro M8 H8 s8 accR' accV' its' k' hl' I8 w8 e8 ra' rl' hq8
        have keep8 : ∀ b ∈ fp, ∀ o, s6.heap.get? b = some o → s8.heap.get? b = some o ∧ H8 b = none := fun b hb o e => by
          have := I8.pin (b, o) (List.mem_append_right _ (List.mem_append_right _ (mem_pinsAt hb e)))
          exact ⟨this.1, this.2.1⟩
        refine ⟨xs.length - (i + 1), by omega, i + 1, some xv, H8, M8, accR', accV', its', k', rfl, hlt, hl', I8.unpinned, w8, e4.trans (e6.trans e8), ra', rl', T.keep _ _ _ st6 fun b hb o e => (keep8 b hb o e).1, fun b hb => ?_, hq8⟩
        obtain ⟨o, e, _⟩ := T.obj _ _ st6 b hb
        exact (keep8 b hb o e).2
      refine thn (hif cl C s2 H2 fp _ s7 _ H7 (fun ok H8 => ∃ M8, View X.K H8 M8 ∧ Ext H7 H8 ∧ (ok = true → te (some xs[i] :: (caps.map Prod.fst).map fun i => (σ[i]?).join) M8 fun v M2 => rCompL tt te ((caps.map Prod.fst).map fun i => (σ[i]?).join) (xs.drop (i + 1)) (accR ++ [v]) M2 Q) ∧
        (ok = false → rCompL tt te ((caps.map Prod.fst).map fun i => (σ[i]?).join) (xs.drop (i + 1)) accR M8 Q)) I7 ⟨_, M', _, base (.refl _), w6 M' w4, hq4, fun b M8 H8 q e w => ⟨M8, w, e, q.1, q.2⟩⟩) fun ok s8 ⟨H8, I8, M8, w8, e8, qt, qf⟩ => ?_
      cases ok with
      | false =>
        exact next M8 H8 s8 accR accV its k (by omega) I8 w8 e8 (Reps.ext (e6.trans e8) _ _ ra) rl (qf rfl)
      | true =>
        refine thn (hel cl C s2 H2 fp _ s8 _ H8 (fun v H9 => ∃ rv M9, View X.K H9 M9 ∧ Ext H8 H9 ∧ Rep X.K H9 rv v ∧ rCompL tt te ((caps.map Prod.fst).map fun i => (σ[i]?).join) (xs.drop (i + 1)) (accR ++ [rv]) M9 Q) I8 ⟨_, M8, _, base e8, w8, qt rfl, fun rv M9 v H9 q e w r => ⟨rv, M9, w, e, r, q⟩⟩) fun y s9 ⟨yv, H9, I9, r9, rv, M9, w9, e9, rr9, hq9⟩ => ?_
        have pD9 := I9.pin (D, { cls := .type "list", data := .seq its.toArray k }) (List.mem_append_right _ (List.mem_append_left _ List.mem_cons_self))
        have hlen : its.length ≤ i := by rw [← rl.length, ← ra.length]; exact hal
        refine call_meets F.slot_list_append ⟨_, pD9.1, rfl⟩ F.entry_list_append (F.args_list_append_2 _ _) (PySem.list_append D its.toArray k y (by rw [List.size_toArray]; omega)) ⟨pD9.1, ?_⟩
        have q := PySem.IsL.update pD9.1 (fun x_1 => x_1.push y)
        have hpush : its.toArray.push y = (its ++ [y]).toArray := by simp
        rw [hpush] at q
        obtain ⟨k', q⟩ : ∃ k', (s9.heap.update D (Obj.mapSeq fun x_1 => x_1.push y)).get? D = some { cls := .type "list", data := .seq (its ++ [y]).toArray k' } := ⟨_, q⟩
        have I10 : Inv (blk X scope cl C (x :: caps.map Prod.snd) s2 H2 fp) (pinsAt fp s6.heap) (some xv :: cv) H9 { s9 with heap := s9.heap.update D (Obj.mapSeq fun x_1 => x_1.push y), toks := s9.toks } := by
          refine Inv.turned (it := D) (I9.pins_of fun p hp => I9.pin p (List.mem_append_right _ (List.mem_append_right _ hp))) (fun b o hb e => (Heap.get?_update_other _ _ (Ne.symm hb)).trans e) pD9.2.1 pD9.2.2.1 (.inr (by show s2.heap.objs.size ≤ D; rw [hD]; exact Nat.le_refl _)) (fun z c e => ?_) fun p hp => ?_
          · obtain ⟨v, o, ho, hd⟩ := I2.cell z c (hcl1 z c e)
            exact Nat.ne_of_lt (by have := Heap.lt_size ho; rw [hD] at this; exact this)
          · have hp' : p ∈ pinsAt fp s6.heap := by simpa [blk] using hp
            exact hDfp p.1 (of_pinsAt hp').1
        have I11 : Inv (blk X scope cl C (x :: caps.map Prod.snd) s2 H2 fp) ([(D, { cls := .type "list", data := .seq (its ++ [y]).toArray k' })] ++ pinsAt fp s6.heap) (some xv :: cv) H9 { s9 with heap := s9.heap.update D (Obj.mapSeq fun x_1 => x_1.push y), toks := s9.toks } := by
          refine I10.pins_of fun p hp => ?_
          rcases List.mem_append.mp hp with hp | hp
          · have : p = (D, { cls := .type "list", data := .seq (its ++ [y]).toArray k' }) := by simpa using hp
            subst this
            exact ⟨q, pD9.2.1, pD9.2.2.1, pD9.2.2.2.1, fun v => by simp⟩
          · exact I10.pin p (List.mem_append_right _ hp)
        exact next M9 H9 _ (accR ++ [rv]) (accV ++ [yv]) (its ++ [y]) k' (by rw [List.length_append, List.length_singleton]; omega) I11 w9 (e8.trans e9) ((Reps.ext (e6.trans (e8.trans e9)) _ _ ra).append (Reps.cons rr9 Reps.nil)) (rl.append (.cons r9 .nil)) hq9
    · have ei : i = xs.length := by omega
      subst ei
      refine thn (T.done (blk X scope cl C (x :: caps.map Prod.snd) s2 H2 fp) rfl rfl rfl hc _ _ s' _ H' Nv I4 (fpB _ _ f4 (pD _)) st4 (hJ.stop _ H' e4 (Nat.le_refl _))) fun r s5 ⟨hr, I5⟩ => .inl ⟨hr, ?_⟩
      rw [List.drop_length] at hq4
      obtain ⟨m5, hn5, _⟩ := I5.loc
      refine ⟨m5, hn5, fun h' sb => ?_⟩
      have pD5 := I5.pin (D, { cls := .type "list", data := .seq its.toArray k }) (List.mem_append_right _ List.mem_cons_self)
      have hDh : h'.get? D = some { cls := .type "list", data := .seq its.toArray k } := sb.extBut _ _ hDC pD5.1
      have hC5 : H' C = none := I5.free
      have hz' : accV.length ≤ sizeLine := by rw [← ra.length]; omega
      have hok5 : HOk X.prog X.w (upd H' D (.frz { cls := .type "list", data := .seq its.toArray k } (.lst accV))) h' := fun b u q => by
        by_cases hb : b = D
        · subst hb; rw [upd_same] at q; cases q
          exact ⟨hDh, hz', its, k, rl, hDh⟩
        · rw [upd_ne hb] at q
          refine (I5.hok b u q).stay (fun c v hcb e => sb.extBut c v ?_ e) (fun c e => ?_) fun c ys e => ?_
          · rcases hcb with rfl | e'
            · exact ne_of_none q hC5
            · exact ne_of_none e' hC5
          · rw [upd_ne (ne_of_none e pD5.2.1)]; exact e
          · rw [upd_ne (ne_of_none e pD5.2.1)]; exact e
      have un5 : Un (frs X.stack) fp H2 (upd H' D (.frz { cls := .type "list", data := .seq its.toArray k } (.lst accV))) s2.heap h' := by
        have B : Un (frs X.stack) fp H2 H' s2.heap s5.heap := I5.base
        have nC : ∀ b o, s2.heap.get? b = some o → b ≠ C := fun b o e => Nat.ne_of_lt (Nat.lt_of_lt_of_le (Heap.lt_size e) (by rw [hD]; exact hCle))
        have nD : ∀ b o, s2.heap.get? b = some o → b ≠ D := fun b o e => Nat.ne_of_lt (by have := Heap.lt_size e; rw [hD] at this; exact this)
        refine ⟨fun b o a1 a2 a3 a4 => sb.extBut b o (nC b o a1) (B.keep b o a1 a2 a3 a4), fun b o a1 a2 a3 a4 => ?_, fun b o a1 a2 a4 => ?_, fun b o a1 a4 => ?_, fun b ys a => ?_, fun b o u a => ?_, fun b ps a => ?_⟩
        · obtain ⟨sl, e⟩ := B.slot b o a1 a2 a3 a4
          exact ⟨sl, sb.extBut b _ (nC b o a1) e⟩
        · rw [upd_ne (nD b o a1)]; exact B.free b o a1 a2 a4
        · obtain ⟨o', e⟩ := B.there b o a1 a4
          exact ⟨o', sb.extBut b o' (nC b o a1) e⟩
        · have e := B.tups b ys a; rw [upd_ne (ne_of_none e pD5.2.1)]; exact e
        · have e := B.frzs b o u a; rw [upd_ne (ne_of_none e pD5.2.1)]; exact e
        · obtain ⟨more, e⟩ := B.tbls b ps a; exact ⟨more, by rw [upd_ne (ne_of_none e pD5.2.1)]; exact e⟩
      have I6 : Inv X pins σ0 (upd H' D (.frz { cls := .type "list", data := .seq its.toArray k } (.lst accV))) { s5 with heap := h' } := I2.call' (ch := fp) I5.os un5 hok5 I5.bare fun b hb => ⟨(f2 b hb).2.2.2.1, (f2 b hb).2.1, (f2 b hb).2.2.2.2.1, (f2 b hb).2.2.2.2.2⟩
      refine ⟨.ref D, _, I6, rfl, hk _ M' _ _ hq4 ((e2.trans e4).trans (Ext.new pD5.2.1)) (w4.new pD5.2.1) (rep_ls pD5.2.1 ra)⟩
  exact codeAny_compStart_list (W _ rfl) (T.self X.A 0 _ _ _ (T.keep _ _ _ st2 fun b _ o e => old b o e) (W _ rfl))
end
end R
set_option Elab.async false
set_option linter.all false
set_option maxRecDepth 100000
set_option maxHeartbeats 1000000
namespace R
open PySem PySem.Spec PyProof.Rows L2
def keyR : RV → Option Key
  | .int i => some (.inl i)
  | .str x => some (.inr x)
  | _ => none
def lookK {α : Type} (kvs : List (Key × α)) (k : Key) : Option α := (kvs.find? fun p => decide (p.1 = k)).map (·.2)
theorem keyR_kV {K : PySem.W.Frag} {H : Hp} {a : RV} {x : V} {k : Key} (e : keyR a = some k) (r : Rep K H a x) : x = kV k := by
  cases a with
  | int i => cases e; simp only [Rep] at r; exact r
  | str y => cases e; simp only [Rep] at r; exact r
  | _ => cases e
theorem repP_look {K : PySem.W.Frag} {H : Hp} {k : Key} : ∀ {kvs : List (Key × RV)} {ws : List (Key × V)}, RepP K H kvs ws → (∀ r, lookK kvs k = some r → ∃ v, valV ws k = some v ∧ Rep K H r v) ∧ (lookK kvs k = none → valV ws k = none)
  | [], ws, h => by
    have h : ws = [] := h
    subst h
    exact ⟨fun r e => (by cases e), fun _ => rfl⟩
  | (j, x) :: t, ws, h => by
    obtain ⟨v, u, rfl, h1, h2⟩ := h
    have ih := repP_look (k := k) h2
    unfold lookK
    rw [List.find?_cons]
    by_cases hj : j = k
    · rw [decide_eq_true (show (j, x).1 = k from hj)]
      refine ⟨fun r e => ⟨v, valV_pos (p := (j, v)) hj, ?_⟩, fun e => (by cases e)⟩
      cases e; exact h1
    · rw [decide_eq_false (show ¬ (j, x).1 = k from hj)]
      refine ⟨fun r e => ?_, fun e => ?_⟩
      · rw [valV_neg (p := (j, v)) hj]; exact ih.1 r e
      · rw [valV_neg (p := (j, v)) hj]; exact ih.2 e
theorem mergeK_nodup : ∀ (ws acc : List (Key × V)), ((acc ++ ws).map Prod.fst).Nodup → mergeK acc ws = acc ++ ws
  | [], acc, _ => by simp [mergeK]
  | p :: r, acc, h => by
    have e : valV acc p.1 = none := by
      cases q : valV acc p.1 with
      | none => rfl
      | some v =>
        have m := valV_in q
        rw [List.map_append, List.map_cons, List.nodup_append] at h
        exact absurd rfl (h.2.2 p.1 m p.1 List.mem_cons_self)
    show mergeK (putK acc p.1 p.2) r = _
    rw [putK_new _ e, mergeK_nodup r (acc ++ [(p.1, p.2)]) (by simpa using h)]
    simp
structure KTab (P : Program) (w : World) (K : PySem.W.Frag) (mg : Str → Option Value) (x : Str) (kvs : List (Key × RV)) : Prop where
  ex : ∃ (a : Addr) (vs : List (Key × Value)) (ws : List (Key × V)), mg x = some (.ref a) ∧ (a == sysModules) = false ∧ (∀ h : Heap, K.In h → h.DictOf (mixKind P w) a vs) ∧ KV ws vs ∧ ∀ H, RepP K H kvs ws
theorem nodup_inr : ∀ {l : List Str}, l.Nodup → (l.map (Sum.inr : Str → Key)).Nodup
  | [], _ => List.nodup_nil
  | a :: r, h => by
    obtain ⟨h1, h2⟩ := List.nodup_cons.mp h
    rw [List.map_cons]
    refine List.nodup_cons.mpr ⟨fun m => ?_, nodup_inr h2⟩
    obtain ⟨b, hb, e⟩ := List.mem_map.mp m
    cases e
    exact h1 hb
section
variable {X : Cx}
def rTab (kvs : List (Key × RV)) (te : RTE) : RTE := fun σ M Q => te σ M fun k M1 => match keyR k with
  | some key => (match lookK kvs key with | some v => Q v M1 | none => False)
  | none => False
def rTabIn (neg : Bool) (kvs : List (Key × RV)) (te : RTE) : RTE := fun σ M Q => te σ M fun k M1 => match keyR k with
  | some key => Q (.bl (if neg then !(lookK kvs key).isSome else (lookK kvs key).isSome)) M1
  | none => False
def drop (M : RM) (p : Addr) : RM := fun b => if b = p then none else M b
theorem View.drop {K : PySem.W.Frag} {H : Hp} {M : RM} (w : View K H M) (p : Addr) : View K H (drop M p) := fun a o e => by
  unfold R.drop at e
  split at e
  · cases e
  · exact w a o e
def rDispGet (kvs : List (Key × RV)) (te : RTE) : RTE := fun σ M Q => ∀ p, M p = none → te σ (put M p (.dk kvs)) fun k M1 => M1 p = some (.dk kvs) ∧ (match keyR k with
  | some key => (match lookK kvs key with | some v => Q v (drop M1 p) | none => False)
  | none => False)
end
end R
set_option Elab.async false
set_option linter.all false
set_option maxRecDepth 100000
set_option maxHeartbeats 1000000
namespace R
open PySem PySem.Spec PyProof.Rows L2
theorem rfnok {P : Program} {w : World} {K : PySem.W.Frag} {mg : Str → Option Value} {base : Heap} {x qual : Str} {st : Stmt} {f : Addr} {fd : FuncData} {N ps : List Str} {k : Nat} {sp : RSp} {t : RTS} (F : Fun K x qual st f fd) (S : FnScope N ps (defScope st))
    (len : ∀ rs M Q, sp rs M Q → rs.length = ps.length)
    (term : ∀ (cdv : Value) (A : Around) (outer : List Env) (s : Shared) (H : Hp) (E : XK), Room k (A.deeper (envOfC qual (defScope st) s.heap.objs.size f cdv)) → RPSs (cxOf CX0 P w K mg base N qual (defScope st) f cdv A outer s H E).nox (defBody st) t)
    (body : ∀ rs M Q, sp rs M Q → t { nx := fun _ M' => Q .non M', rt := Q } (rstart N rs) M) : FnOk P w K mg base CX0 (k + 1) f fd ps (upSp K sp) := by
  refine F.ok S (fun vs H Q0 E h => ?_) fun cdv A outer s H vs Q0 E hr h => ?_
  · obtain ⟨rs, M, Q, rr, hv, hq, hk⟩ := h
    rw [← rr.length]; exact len rs M Q hq
  · obtain ⟨rs, M, Q, rr, hv, hq, hk⟩ := h
    refine ⟨_, term cdv A outer s H E hr, rstart N rs, M, { nx := fun _ M' => Q .non M', rt := Q }, start_rep rr, hv, body rs M Q hq, ⟨fun σ M' σ0 H' q e w r => hk .non M' .non H' q e w (by simp only [Rep]), hk, fun _ _ _ _ z => z.elim, fun _ _ _ _ z => z.elim⟩⟩
theorem bt_len : bootBuiltins "len" = some (.builtin "len") := by decide +kernel
theorem bt_isinstance : bootBuiltins "isinstance" = some (.builtin "isinstance") := by decide +kernel
theorem bt_all : bootBuiltins "all" = some (.builtin "all") := by decide +kernel
theorem bt_tuple : bootBuiltins "tuple" = some (.type "tuple") := by decide +kernel
theorem bt_list : bootBuiltins "list" = some (.type "list") := by decide +kernel
theorem bt_int : bootBuiltins "int" = some (.type "int") := by decide +kernel
theorem bt_bool : bootBuiltins "bool" = some (.type "bool") := by decide +kernel
section
variable {X : Cx} {pos : Pos}
theorem rty_int (hm : X.mg "int" = none) (hg : Gl X "int" := by rfl) : RPE X (.Name "int" pos) (rC (.ty "int")) := rbltn hm bt_int (v := .ty "int") rfl (fun H => by simp only [Rep]) hg
theorem rty_bool (hm : X.mg "bool" = none) (hg : Gl X "bool" := by rfl) : RPE X (.Name "bool" pos) (rC (.ty "bool")) := rbltn hm bt_bool (v := .ty "bool") rfl (fun H => by simp only [Rep]) hg
theorem rty_tuple (hm : X.mg "tuple" = none) (hg : Gl X "tuple" := by rfl) : RPE X (.Name "tuple" pos) (rC (.ty "tuple")) := rbltn hm bt_tuple (v := .ty "tuple") rfl (fun H => by simp only [Rep]) hg
theorem rty_list (hm : X.mg "list" = none) (hg : Gl X "list" := by rfl) : RPE X (.Name "list" pos) (rC (.ty "list")) := rbltn hm bt_list (v := .ty "list") rfl (fun H => by simp only [Rep]) hg
end
theorem law_in {K : PySem.W.Frag} {sp : RSp} {H : Hp} {a : Addr} {ns : List Int} (hO : Only H) (hS : SqL K H a (ns.map V.int)) (h : sp [.ls (ns.map RV.int)] (fun _ => none) (fun v _ => v = .bl true)) : upSp K sp [.ref a] H (fun v _ => v = .bl true) (fun _ _ _ => False) := by
  have hr : ∀ l : List Int, Reps K H (l.map RV.int) (l.map V.int) := fun l => by
    induction l with
    | nil => exact Reps.nil
    | cons s r ih => exact Reps.cons (by simp only [Rep]) ih
  have hf : Fz K H a (ns.map V.int) := by
    rcases hS with (e | ⟨o, e⟩) | e
    · rcases hO a with z | ⟨o, xs, z⟩
      · rw [e] at z; cases z
      · rw [e] at z; cases z
    · exact .inl ⟨o, e⟩
    · exact .inr e
  refine ⟨[.ls (ns.map RV.int)], fun _ => none, fun v _ => v = .bl true, Reps.cons (by simp only [Rep]; exact ⟨a, _, rfl, hf, hr ns⟩) Reps.nil, fun _ _ z => (by cases z), h, fun rv M' v H' q _ _ r => ?_⟩
  have q' : rv = .bl true := q
  subst q'
  simpa only [Rep] using r
end R
set_option Elab.async false
set_option linter.all false
set_option maxRecDepth 100000
set_option maxHeartbeats 1000000
namespace R
open PySem PySem.Spec PyProof.Rows L2
structure NameOk (N : List Str) (sc : Scope) : Prop where
  nd : N.Nodup
  loc : ∀ x ∈ N, sc.names.lookup x = some .local ∨ sc.names.lookup x = some .cell
  dbg : ∀ x ∈ N, (x == ("__debug__" : Str)) = false ∧ (x == ("__classdict__" : Str)) = false
section
variable {X : Cx} {x : Str} {pos pos' : Pos}
theorem rvN (i : Nat) (S : NameOk X.N X.env.scope) (hN : X.N[i]? = some x := by rfl) : RPE X (.Name x pos) (rVar i) :=
  have m := List.mem_of_getElem? hN
  rv i hN ((S.loc x m).elim .inl fun z => .inr (.inl z)) (S.dbg x m).1 (S.dbg x m).2
theorem ssetN {e : Expr} {te : RTE} (i : Nat) (S : NameOk X.N X.env.scope) (he : RPE X e te) (hN : X.N[i]? = some x := by rfl) (hs : swapsWith e (some (.Name x pos')) pos.line X.env = pure false := by rfl) (hf : X.fn x = true := by rfl) :
    RPS X (.Assign [.Name x pos'] e pos) (rSet i te) := sset i he S.nd hN (S.loc x (List.mem_of_getElem? hN)) hs (.inl hf)
theorem gnameN (i : Nat) (S : NameOk X.N X.env.scope) (hN : X.N[i]? = some x := by rfl) (hf : X.fn x = true := by rfl) : RPG X (.Name x pos) (rgN i) := gname i S.nd hN (S.loc x (List.mem_of_getElem? hN)) (.inl hf)
structure VisB (X : Cx) : Prop where
  vis : ∀ x ∈ X.N, Vis X.env.scope x
  dbg : ∀ x ∈ X.N, (x == ("__debug__" : Str)) = false ∧ (x == ("__classdict__" : Str)) = false
theorem rvB (i : Nat) (S : VisB X) (hN : X.N[i]? = some x := by rfl) : RPE X (.Name x pos) (rVar i) :=
  have m := List.mem_of_getElem? hN
  rv i hN (S.vis x m) (S.dbg x m).1 (S.dbg x m).2
theorem glB {scope : Scope} {cl : List (Str × Addr)} {C : Addr} {Nc : List Str} {s : Shared} {H : Hp} {fp : List Addr} (h : scope.names.lookup x = some .globalImplicit) : Gl (blk X scope cl C Nc s H fp) x := by
  show (scope.names.map (relF X.env)).lookup x = _
  rw [lookup_relF]
  rw [lookup_find] at h
  cases e : scope.names.find? fun p => x == p.1 with
  | none => rw [e] at h; cases h
  | some p =>
    rw [e] at h
    have h' : p.2 = .globalImplicit := Option.some.inj h
    show some (relF X.env p).2 = _
    rcases relF_snd X.env p with z | z
    · rw [z, h']
    · rw [h'] at z; cases z.2
theorem rcompN {elt iter : Expr} {px : Pos} {scope : Scope} {ti : RTI} {tt : RTT} {te : RTE} {ifs : List Expr} (caps : List (Nat × Str)) {osc : Scope} {oN : List Str}
    (hc : X.calm = true) (hi : RPI X (.Name x px) iter ti)
    (hif : ∀ cl C s H fp, VisB (blk X scope cl C (x :: caps.map Prod.snd) s H fp) → RPTs (blk X scope cl C (x :: caps.map Prod.snd) s H fp) ifs tt)
    (hel : ∀ cl C s H fp, VisB (blk X scope cl C (x :: caps.map Prod.snd) s H fp) → RPE (blk X scope cl C (x :: caps.map Prod.snd) s H fp) elt te)
    (hX : X.env.scope = osc) (hN : X.N = oN)
    (hcaps : ∀ p ∈ caps, oN[p.1]? = some p.2 ∧ scope.names.lookup p.2 = some .free ∧ (osc.names.lookup p.2 = some .cell ∨ osc.names.lookup p.2 = some .free))
    (hfr : ∀ y ∈ scope.names, y.2 = .free → (osc.names.lookup y.1 = some .cell ∨ osc.names.lookup y.1 = some .free))
    (hcell : ∀ y ∈ scope.names, y.2 ≠ .cell) (hkind : scope.kind = .function) (hnames : ∀ y ∈ scope.names, y.2 = .local → scope.names.lookup y.1 = some .local) (hx : scope.names.lookup x = some .local) (hnd : (x :: caps.map Prod.snd).Nodup)
    (hdb : ∀ y ∈ x :: caps.map Prod.snd, (y == ("__debug__" : Str)) = false ∧ (y == ("__classdict__" : Str)) = false)
    (hs : ∀ v, foldedSetIterable iter X.env v = pure v := by intro _; rfl) :
    RPE X (.ListComp elt [⟨.Name x px, iter, ifs, 0⟩] scope pos) (rComp ti (caps.map Prod.fst) tt te) := by
  have vb : ∀ cl C s H fp, VisB (blk X scope cl C (x :: caps.map Prod.snd) s H fp) := fun cl C s H fp => ⟨fun y hy => by
    rcases List.mem_cons.mp hy with rfl | hy
    · exact .inl (lookup_relabel_local hx)
    · obtain ⟨p, hp, rfl⟩ := List.mem_map.mp hy
      exact .inr (relabel_free (hcaps p hp).2.1), hdb⟩
  exact rcomp caps hc hi (fun cl C s H fp => hif cl C s H fp (vb cl C s H fp)) (fun cl C s H fp => hel cl C s H fp (vb cl C s H fp)) hX hN hcaps hfr hcell hkind hnames hx hnd hs
end
end R
set_option Elab.async false
set_option linter.all false
set_option maxRecDepth 100000
set_option maxHeartbeats 1000000
namespace R
open PySem PySem.Spec PyProof.Rows L2
section
variable {σ : RSt} {M : RM} {Q : RVK} {QT : Bool → RM → Prop} {QA : List RV → RM → Prop} {QO : Option Int → RM → Prop} {n b c : RSt → RM → Prop} {r : RVK} {ta tb tc : RTE} {tA tB : RTT} {t u : RTS} {tr : RTA} {rr rr' : RR2} {N : RSt → RM → Prop}
def kTest (Q : Bool → RM → Prop) : RVK := fun v M' => match v with | .bl k => Q k M' | _ => False
def kIf (A B : RM → Prop) : Bool → RM → Prop := fun c M1 => (c = true → A M1) ∧ (c = false → B M1)
def kPart (Q : Option Int → RM → Prop) : RVK := fun x M1 => match x with | .int i => Q (some i) M1 | _ => False
def kAt (Q : RVK) (M : RM) : Option RV → Prop := fun o => match o with | some v => Q v M | none => False
def kItS (Q : List RV → RM → Prop) : RVK := fun v M1 => match v with | .tup xs => Q xs M1 | .ls xs => Q xs M1 | _ => False
def kCh (rr' : RR2) (tc : RTE) (σ : RSt) (y : RV) (Q : RVK) : RVK := fun z M3 => match z with
  | .bl k => (k = true → tc σ M3 fun w M4 => rr' y w M4 Q) ∧ (k = false → Q (.bl false) M3)
  | _ => False
theorem do_var {i : Nat} {v : RV} (e : σ[i]? = some (some v)) (h : Q v M) : rVar i σ M Q := by unfold rVar; rw [e]; exact h
theorem do_c {v : RV} (h : Q v M) : rC v σ M Q := h
theorem do_op (h : ta σ M fun x M1 => tb σ M1 fun y M2 => rr x y M2 Q) : rOp rr ta tb σ M Q := h
theorem do_un {g : RV → RM → RVK → Prop} (h : ta σ M fun x M1 => g x M1 Q) : rUn g ta σ M Q := h
theorem do_chain (h : ta σ M fun x M1 => tb σ M1 fun y M2 => rr x y M2 (kCh rr' tc σ y Q)) : rChain rr rr' ta tb tc σ M Q := h
theorem do_kchT {y : RV} (h : tc σ M fun w M4 => rr' y w M4 Q) : kCh rr' tc σ y Q (.bl true) M := ⟨fun _ => h, fun z => (by cases z)⟩
theorem do_kchF {y : RV} (h : Q (.bl false) M) : kCh rr' tc σ y Q (.bl false) M := ⟨fun z => (by cases z), fun _ => h⟩
theorem do_test (h : ta σ M (kTest QT)) : rTest ta σ M QT := h
theorem do_ktest {k : Bool} (h : QT k M) : kTest QT (.bl k) M := h
theorem do_and (h : tA σ M (kIf (fun M1 => tB σ M1 QT) (fun M1 => QT false M1))) : rAnd tA tB σ M QT := h
theorem do_or (h : tA σ M (kIf (fun M1 => QT true M1) (fun M1 => tB σ M1 QT))) : rOr tA tB σ M QT := h
theorem do_not (h : tA σ M fun c M1 => QT (!c) M1) : rNot tA σ M QT := h
theorem do_if (h : tA σ M (kIf (fun M1 => ta σ M1 Q) (fun M1 => tb σ M1 Q))) : rIf tA ta tb σ M Q := h
theorem do_ifs {D : RD} (h : tA σ M (kIf (fun M1 => t D σ M1) (fun M1 => u D σ M1))) : rIfS tA t u D σ M := h
theorem do_kT {A B : RM → Prop} (h : A M) : kIf A B true M := ⟨fun _ => h, fun z => (by cases z)⟩
theorem do_kF {A B : RM → Prop} (h : B M) : kIf A B false M := ⟨fun z => (by cases z), fun _ => h⟩
theorem do_kT' {A B : RM → Prop} {x : Bool} (e : x = true) (h : A M) : kIf A B x M := by subst e; exact do_kT h
theorem do_kF' {A B : RM → Prop} {x : Bool} (e : x = false) (h : B M) : kIf A B x M := by subst e; exact do_kF h
theorem do_kB {A B : RM → Prop} {x : Bool} (h1 : x = true → A M) (h2 : x = false → B M) : kIf A B x M := ⟨h1, h2⟩
theorem do_norm {P : RSt → RM → Prop} {l : RSt} {i : Nat} {v : Option RV} {σ' : RSt} (e : l.set i v = σ') (h : P σ' M) : P (l.set i v) M := by subst e; exact h
theorem do_normU {P : RSt → RM → Prop} {l : RSt} {is : List Nat} {vs : List RV} {σ' : RSt} (e : setAll l is vs = σ') (h : P σ' M) : P (setAll l is vs) M := by subst e; exact h
theorem do_knT {A B : RM → Prop} (h : B M) : kIf A B (!true) M := do_kF h
theorem do_knF {A B : RM → Prop} (h : A M) : kIf A B (!false) M := do_kT h
theorem do_mulL {a : Addr} {k : Int} {xs : List RV} (e : M a = some (.lst xs)) (h0 : -(2 ^ 63) ≤ k) (h1 : k < 2 ^ 63) (h2 : Nat.ble (xs.length * k.toNat) 1000 = true) (h : Q (.ls (List.replicate k.toNat xs).flatten) M) : R.rMul (.ref a) (.int k) M Q :=
  ⟨xs, e, h0, h1, Nat.le_trans (Nat.le_of_ble_eq_true h2) (by decide), h⟩
theorem do_nil (h : QA [] M) : rNil σ M QA := h
theorem do_cons (h : ta σ M fun x M1 => tr σ M1 fun xs M2 => QA (x :: xs) M2) : rCons ta tr σ M QA := h
theorem do_tup (h : tr σ M fun rs M1 => rs.length ≤ sizeLine ∧ Q (.tup rs) M1) : rTup tr σ M Q := h
theorem do_lsf (h : tr σ M fun rs M1 => rs.length ≤ sizeLine ∧ Q (.ls rs) M1) : rLsF tr σ M Q := h
theorem do_lst (h : tr σ M fun rs M1 => rs.length ≤ sizeLine ∧ ∀ p, M1 p = none → Q (.ref p) (put M1 p (.lst rs))) : rLst tr σ M Q := h
theorem do_size {rs : List RV} {P : Prop} (e : Nat.ble rs.length 1000 = true) (h : P) : rs.length ≤ sizeLine ∧ P := ⟨Nat.le_trans (Nat.le_of_ble_eq_true e) (by decide), h⟩
theorem do_call {f : List RV → RM → RVK → Prop} (h : tr σ M fun rs M1 => f rs M1 Q) : rCall f tr σ M Q := h
theorem do_next : n σ M → rNext ⟨n, r, b, c⟩ σ M := fun h => h
theorem do_break : b σ M → rBreak ⟨n, r, b, c⟩ σ M := fun h => h
theorem do_cont : c σ M → rCont ⟨n, r, b, c⟩ σ M := fun h => h
theorem do_seq (h : t ⟨u ⟨n, r, b, c⟩, r, b, c⟩ σ M) : rSeq t u ⟨n, r, b, c⟩ σ M := h
theorem do_set {i : Nat} (h : ta σ M fun x M1 => n (σ.set i (some x)) M1) : rSet i ta ⟨n, r, b, c⟩ σ M := h
theorem do_ret (h : ta σ M r) : rRet ta ⟨n, r, b, c⟩ σ M := h
theorem do_retN (h : r .non M) : rRetN ⟨n, r, b, c⟩ σ M := h
theorem do_drop (h : ta σ M fun _ M1 => n σ M1) : rDrop ta ⟨n, r, b, c⟩ σ M := h
theorem do_asg {g : RTG} (h : ta σ M fun x M1 => g x σ M1 n) : rAsg ta g ⟨n, r, b, c⟩ σ M := h
theorem do_gN {i : Nat} {x : RV} (h : N (σ.set i (some x)) M) : rgN i x σ M N := h
theorem do_gU {is : List Nat} {xs : List RV} (e : xs.length = is.length) (h : N (setAll σ is xs) M) : rgU is (.tup xs) σ M N := ⟨e, h⟩
theorem do_gSub {to ti : RTE} {g : RTSet} {v : RV} (h : to σ M fun o M1 => ti σ M1 fun i M2 => g o i v M2 fun M3 => N σ M3) : rgSub to ti g v σ M N := h
theorem do_forI {ti : RTI} {g : RTG} (h : ti σ M fun xs M1 => rForL g t ⟨n, r, b, c⟩ xs σ M1) : rForI ti g t ⟨n, r, b, c⟩ σ M := h
theorem do_itS (h : ta σ M (kItS QA)) : rItS ta σ M QA := h
theorem do_kits_t {xs : List RV} (h : QA xs M) : kItS QA (.tup xs) M := h
theorem do_kits_l {xs : List RV} (h : QA xs M) : kItS QA (.ls xs) M := h
theorem do_itR (h : ta σ M fun v M1 => rRngI QA [v] M1) : rItR ta σ M QA := h
theorem do_rng {k : Int} (h0 : -(2 ^ 62) ≤ k) (h1 : k < 2 ^ 62) (h : QA (nums k.toNat) M) : rRngI QA [.int k] M := ⟨h0, h1, h⟩
theorem do_forNil {g : RTG} (h : n σ M) : rForL g t ⟨n, r, b, c⟩ [] σ M := h
theorem do_forCons {g : RTG} {x : RV} {xs : List RV} (h : g x σ M fun σ2 M2 => t ⟨rForL g t ⟨n, r, b, c⟩ xs, r, n, rForL g t ⟨n, r, b, c⟩ xs⟩ σ2 M2) : rForL g t ⟨n, r, b, c⟩ (x :: xs) σ M := h
theorem do_comp {ti : RTI} {cap : List Nat} (h : ti σ M fun xs M1 => xs.length < sizeLine ∧ rCompL tA ta (cap.map fun i => (σ[i]?).join) xs [] M1 Q) : rComp ti cap tA ta σ M Q := h
theorem do_compNil {base : List (Option RV)} {acc : List RV} (h : Q (.ls acc) M) : rCompL tA ta base [] acc M Q := h
theorem do_compYes {base : List (Option RV)} {acc : List RV} {x : RV} {xs : List RV} (h : ta (some x :: base) M fun v M2 => rCompL rYes ta base xs (acc ++ [v]) M2 Q) : rCompL rYes ta base (x :: xs) acc M Q := ⟨fun _ => h, fun z => (by cases z)⟩
theorem do_compT {base : List (Option RV)} {acc : List RV} {x : RV} {xs : List RV} (h : tA (some x :: base) M (kIf (fun M1 => ta (some x :: base) M1 fun v M2 => rCompL tA ta base xs (acc ++ [v]) M2 Q) (fun M1 => rCompL tA ta base xs acc M1 Q))) : rCompL tA ta base (x :: xs) acc M Q := h
theorem do_sl {tl th : RTO} (h : ta σ M fun x M1 => tl σ M1 fun l M2 => th σ M2 fun u M3 => rSlc x l u M3 Q) : rSl ta tl th σ M Q := h
theorem do_noP (h : QO none M) : rNoP σ M QO := h
theorem do_part (h : ta σ M (kPart QO)) : rPart ta σ M QO := h
theorem do_kpart {i : Int} (h : QO (some i) M) : kPart QO (.int i) M := h
theorem do_slT {xs : List RV} {lo hi : Option Int} (h : Q (.tup (cutR xs lo hi)) M) : rSlc (.tup xs) lo hi M Q := h
theorem do_slL {xs : List RV} {lo hi : Option Int} (h : Q (.ls (cutR xs lo hi)) M) : rSlc (.ls xs) lo hi M Q := h
theorem do_int0 {g : Int → Int → RV} {i j : Int} (h : Q (g i j) M) : rInt0 g (.int i) (.int j) M Q := h
theorem do_int2 {C : Int → Int → Prop} {g : Int → Int → RV} {i j : Int} (e : C i j) (h : Q (g i j) M) : rInt2 C g (.int i) (.int j) M Q := ⟨e, h⟩
theorem do_addI {i j : Int} (h : Q (.int (i + j)) M) : R.rAdd (.int i) (.int j) M Q := h
theorem do_addT {xs ys : List RV} (e : Nat.ble (xs.length + ys.length) 1000 = true) (h : Q (.tup (xs ++ ys)) M) : R.rAdd (.tup xs) (.tup ys) M Q := ⟨Nat.le_trans (Nat.le_of_ble_eq_true e) (by decide), h⟩
theorem do_addL {xs ys : List RV} (e : Nat.ble (xs.length + ys.length) 1000 = true) (h : Q (.ls (xs ++ ys)) M) : R.rAdd (.ls xs) (.ls ys) M Q := ⟨Nat.le_trans (Nat.le_of_ble_eq_true e) (by decide), h⟩
theorem do_eq {x y : RV} (e1 : okR 16 x = true) (e2 : okR 16 y = true) (h : Q (.bl (eqR x y)) M) : rEqq x y M Q := ⟨e1, e2, h⟩
theorem do_ne {x y : RV} (e1 : okR 16 x = true) (e2 : okR 16 y = true) (h : Q (.bl (!eqR x y)) M) : rNeq x y M Q := ⟨e1, e2, h⟩
theorem do_is {x : RV} (h : Q (.bl (isN x)) M) : rIs x .non M Q := h
theorem do_isnot {x : RV} (h : Q (.bl (!isN x)) M) : rIsNot x .non M Q := h
theorem do_ixT {xs : List RV} {i : Int} (h : kAt Q M (atI xs i)) : R.rIx (.tup xs) (.int i) M Q := h
theorem do_ixL {xs : List RV} {i : Int} (h : kAt Q M (atI xs i)) : R.rIx (.ls xs) (.int i) M Q := h
theorem do_len_t {xs : List RV} (h : Q (.int xs.length) M) : rLen [.tup xs] M Q := h
theorem do_len_l {xs : List RV} (h : Q (.int xs.length) M) : rLen [.ls xs] M Q := h
theorem do_tuple_l {xs : List RV} (h : Q (.tup xs) M) : rTuple [.ls xs] M Q := h
theorem do_tuple_t {xs : List RV} (h : Q (.tup xs) M) : rTuple [.tup xs] M Q := h
theorem do_isi {T : String} {test : RV → Option Bool} {x : RV} {b : Bool} (e : test x = some b) (h : Q (.bl b) M) : rIsi T test [x, .ty T] M Q := by
  refine ⟨rfl, ?_⟩; rw [e]; exact h
def kTab (kvs : List (Key × RV)) (Q : RVK) : RVK := fun k M1 => match keyR k with
  | some key => (match lookK kvs key with | some v => Q v M1 | none => False)
  | none => False
theorem do_tab {kvs : List (Key × RV)} (h : ta σ M (kTab kvs Q)) : rTab kvs ta σ M Q := h
end
end R
set_option Elab.async false
set_option linter.all false
set_option maxRecDepth 100000
set_option maxHeartbeats 1000000
namespace R
open PySem PySem.Spec PyProof.Rows L2
open Classical in
section
variable {X : Cx}
def rLtS : RR2 := fun x y M Q => match x, y with | .str i, .str j => Q (.bl (decide (i.cps.toList < j.cps.toList))) M | _, _ => False
def rGtS : RR2 := fun x y M Q => match x, y with | .str i, .str j => Q (.bl (decide (j.cps.toList < i.cps.toList))) M | _, _ => False
def rOrd : List RV → RM → RVK → Prop := fun rs M Q => match rs with
  | [.str x] => x.length = 1 ∧ Q (.int (x.cps.getD 0 0 : Nat)) M
  | _ => False
end
end R
set_option Elab.async false
set_option linter.all false
set_option maxRecDepth 100000
set_option maxHeartbeats 1000000
namespace R
open PySem PySem.Spec PyProof.Rows L2
section
variable {X : Cx}
def rAll : List RV → RM → RVK → Prop := fun rs M Q => ∃ bs : List Bool, rs = [.ls (bs.map RV.bl)] ∧ Q (.bl (bs.all id)) M
theorem reps_bl {K : PySem.W.Frag} {H : Hp} : ∀ {bs : List Bool} {vs : List V}, Reps K H (bs.map RV.bl) vs → vs = bs.map V.bl
  | [], vs, h => by simpa only [List.map_nil, Reps] using h
  | b :: bs, vs, h => by
    simp only [List.map_cons, Reps, Rep] at h
    obtain ⟨v, r, rfl, rfl, h2⟩ := h
    rw [reps_bl h2]; rfl
theorem vals_bl : ∀ {bs : List Bool} {us : List Value}, Vals (bs.map V.bl) us → us = bs.map Value.bool
  | [], us, h => by cases h; rfl
  | b :: bs, us, h => by
    obtain ⟨u, r, rfl, h1, h2⟩ := Vals.cons_inv h
    cases h1
    rw [vals_bl h2]; rfl
theorem range_all (bs : List Bool) : (List.range bs.length).all (fun i => bs.getD i true) = bs.all id := by
  induction bs with
  | nil => rfl
  | cons b bs ih =>
    rw [List.length_cons, List.range_succ_eq_map, List.all_cons, List.all_map, List.all_cons]
    have : ((fun i => (b :: bs).getD i true) ∘ Nat.succ) = fun i => bs.getD i true := by funext i; rfl
    rw [this, ih]; rfl
theorem call_all (hc : X.calm = true) : CallR X (.builtin "all") (upC X.K rAll) := by
  intro pins s σ H xs us Q0 I rl h
  obtain ⟨rs, M, Q, rr, hv, ⟨bs, rfl, hq⟩, hk⟩ := h
  obtain ⟨v, rfl, r1⟩ := rr.one
  simp only [Rep] at r1
  obtain ⟨a, vs, rfl, h1, h2⟩ := r1
  have := reps_bl h2
  subst this
  obtain ⟨u, rfl, ru⟩ := rl.one
  cases ru
  obtain ⟨its, rv, p, hz⟩ := I.list h1.sq
  have := vals_bl rv
  subst this
  have hlt : a < s.heap.objs.size := by obtain ⟨o, n, e, _⟩ := p; exact Heap.lt_size e
  refine call_all_walk (wpAny_pyIter_list p.isList ?_)
  have hd : X.A.in1.handled = none := I.ok.hd hc
  refine ⟨s.heap.objs.size, _, _, _, _, _, fun i => bs.getD i true, rfl, Walks.list hd s.heap.objs.size a (Nat.ne_of_lt hlt) (bs.map Value.bool).toArray, ⟨⟨_, Heap.get?_push_size _ rfl, rfl, rfl⟩, p.isList.push _⟩, ?_, ?_⟩
  · intro i v s' Q' E' hP hQ'
    have hP' : (bs.map Value.bool)[i]? = some v := by simpa using hP
    rw [List.getElem?_map] at hP'
    cases e : bs[i]? with
    | none => rw [e] at hP'; cases hP'
    | some b =>
      rw [e] at hP'
      have hb : bs.getD i true = b := by rw [List.getD_eq_getElem?_getD, e]; rfl
      cases hP'
      have hQ2 : Q' (bs.getD i true) s' := hQ'
      rw [hb] at hQ2
      exact wpAny_truthy_bool hQ2
  · intro h' tk hk'
    have I1 : Inv X pins σ H { s with heap := s.heap.push { cls := .type "list_iterator", data := .fields #[.ref a, .int 0 0] } } := I.kept (t' := s.toks) fun b o e => Heap.get?_push_of_some _ e
    obtain ⟨f0, f1, f2, f3, f4, f5⟩ := I.fpOk (Nat.le_refl _) (I.hok.fresh (Nat.le_refl _))
    have I2 : Inv X pins σ H { s with heap := h', toks := tk } := by
      have z := I1.turned (h' := h') (t' := tk) (it := s.heap.objs.size) (fun b o hb e => hk' b o (by simpa using hb) e) f0 f1 f3 f4 f5
      exact z
    refine ⟨.bl (bs.all id), H, I2, ?_, hk _ M _ H hq (.refl H) hv (by simp only [Rep])⟩
    show _ = _
    rw [← range_all]
    simp
def signsR (x : Str) : List RV := x.cps.toList.map fun c => .str ⟨#[c]⟩
def rItX (te : RTE) : RTI := fun σ M Q => te σ M fun v M1 => match v with | .str x => Q (signsR x) M1 | _ => False
end
end R
set_option Elab.async false
set_option linter.all false
set_option maxRecDepth 100000
set_option maxHeartbeats 1000000
namespace R
open PySem PySem.Spec PyProof.Rows L2
section
variable {X : Cx}
def rJoin (to : RTE) (t : RTA) : RTE := fun σ M Q => to σ M fun x M1 => match x with
  | .str z => t σ M1 fun rs M2 => ∃ ys : List Str, rs = [.ls (ys.map RV.str)] ∧ (ys.map (·.length)).sum + ys.length * z.length ≤ 16777216 ∧ Q (.str (Txt.join z ys)) M2
  | _ => False
def rApp (to : RTE) (t : RTA) : RTE := fun σ M Q => to σ M fun x M1 => match x with
  | .ref p => (∃ ys, M1 p = some (.lst ys)) ∧ t σ M1 fun rs M2 => ∃ ys y, rs = [y] ∧ M2 p = some (.lst ys) ∧ ys.length < sizeLine ∧ Q .non (put M2 p (.lst (ys ++ [y])))
  | _ => False
theorem rappend {o e : Expr} {to : RTE} {t : RTA} {apos cpos : Pos} (ho : RPE X o to) (ha : RPA X [e] t)
    (hbase : attributeBase o "append" X.env (eval o X.env) = eval o X.env := by rfl)
    (hfew : ((backTo cpos (starEach [e] X.env)).all (fun x => !x.1) && (backToKw cpos (keywordEach [] X.env)).all (fun x => x.1.isSome) && decide ([e].length + ([] : List Keyword).length + (if ([] : List Keyword).isEmpty then 0 else 1) < 30)) = true := by rfl)
    (hline : (apos.endLine == cpos.line) = true := by rfl) (hs : starEach [e] X.env = (false, eval e X.env) :: starEach [] X.env := by rfl) (hplain : (backTo cpos (starEach [] X.env)).any (·.1) = false := by rfl) :
    RPE X (.Call (.Attribute o "append" apos) [e] [] cpos) (rApp to t) := PE.imp (pe_bm PySem.F.plainAttrs_list PySem.F.slot_list_append PySem.F.type_list_append mt_append ho ha hbase hfew hline hs hplain) fun σ0 H Q0 h => by
  obtain ⟨σ, M, Q, hs, hv, ht, hk⟩ := h
  refine ⟨σ, M, _, hs, hv, ht, fun rx M1 x H1 q e1 v1 r1 => ?_⟩
  cases rx with
  | ref p =>
    obtain ⟨⟨ys, hm⟩, q⟩ := q
    simp only [Rep] at r1
    subst r1
    obtain ⟨ho', e0, r0⟩ := v1 p _ hm
    obtain ⟨vs0, rfl, rr0⟩ := r0
    refine ⟨.inl ⟨rfl, _, SqL.of e0⟩, σ, M1, _, hs.ext e1, v1, q, fun rs M2 vs H2 q2 e2 v2 r2 => ?_⟩
    obtain ⟨ys2, y, rfl, hm2, hz, q2⟩ := q2
    obtain ⟨v, rfl, r3⟩ := r2.one
    obtain ⟨ho2, e3, r4⟩ := v2 p _ hm2
    obtain ⟨vs2, rfl, rr2⟩ := r4
    have ex : Ext H2 (upd H2 p (.lst (vs2 ++ [v]))) := Ext.write e3 rfl
    refine ⟨p, vs2, v, rfl, rfl, e3, by rw [← rr2.length]; exact hz, hk _ _ _ _ q2 ((e1.trans e2).trans ex) (v2.write hm2 ⟨_, rfl, ?_⟩) (by simp only [Rep])⟩
    exact (Reps.ext ex _ _ rr2).append (Reps.cons (Rep.ext ex _ _ r3) Reps.nil)
  | _ => exact (show False from q).elim
def rList : List RV → RM → RVK → Prop := fun rs M Q => match rs with
  | [.tup xs] => Q (.ls xs) M
  | [.ls xs] => Q (.ls xs) M
  | _ => False
def rCallV (fs : List (Addr × RSp)) (tx : RTE) (t : RTA) : RTE := fun σ M Q => tx σ M fun v M1 => match v with
  | .ref f => ∃ sp, (f, sp) ∈ fs ∧ t σ M1 fun rs M2 => sp rs M2 Q
  | _ => False
end
theorem RFn.at {P : Program} {w : World} {K : PySem.W.Frag} {mg : Str → Option Value} {base : Heap} {k : Nat} {x : Str} {ps : List Str} {sp : RSp} {f : Addr} (F : RFn P w K mg base k x ps sp) (hm : mg x = some (.ref f)) :
    ∃ fd, PySem.W.keepIn K (.ref f) = true ∧ Binds K fd ps [] ∧ FnOk P w K mg base CX0 k f fd ps (upSp K sp) := by
  obtain ⟨g, fd, hg, h1, h2, h3⟩ := F.ex
  have e := hm.symm.trans hg
  cases e
  exact ⟨fd, h1, h2, h3⟩
end R
set_option Elab.async false
set_option linter.all false
set_option maxRecDepth 100000
set_option maxHeartbeats 1000000
namespace R
open PySem PySem.Spec PyProof.Rows L2
section
variable {σ : RSt} {M : RM} {Q : RVK} {QA : List RV → RM → Prop} {ta tb : RTE} {tr : RTA}
def kAndV (tb : RTE) (σ : RSt) (Q : RVK) : RVK := fun x M1 => match x with | .bl c => (c = true → tb σ M1 Q) ∧ (c = false → Q (.bl false) M1) | _ => False
def kOrV (tb : RTE) (σ : RSt) (Q : RVK) : RVK := fun x M1 => match x with | .bl c => (c = true → Q (.bl true) M1) ∧ (c = false → tb σ M1 Q) | _ => False
def kNotV (Q : RVK) : RVK := fun x M1 => match x with | .bl c => Q (.bl (!c)) M1 | _ => False
theorem do_andv (h : ta σ M (kAndV tb σ Q)) : rAndV ta tb σ M Q := h
theorem do_orv (h : ta σ M (kOrV tb σ Q)) : rOrV ta tb σ M Q := h
theorem do_notv (h : ta σ M (kNotV Q)) : rNotV ta σ M Q := h
theorem do_knotv {c : Bool} (h : Q (.bl (!c)) M) : kNotV Q (.bl c) M := h
theorem do_kandT (h : tb σ M Q) : kAndV tb σ Q (.bl true) M := ⟨fun _ => h, fun z => (by cases z)⟩
theorem do_kandF (h : Q (.bl false) M) : kAndV tb σ Q (.bl false) M := ⟨fun z => (by cases z), fun _ => h⟩
theorem do_korT (h : Q (.bl true) M) : kOrV tb σ Q (.bl true) M := ⟨fun _ => h, fun z => (by cases z)⟩
theorem do_korF (h : tb σ M Q) : kOrV tb σ Q (.bl false) M := ⟨fun z => (by cases z), fun _ => h⟩
theorem do_kch {rr' : RR2} {tc : RTE} {y : RV} {k : Bool} (h1 : k = true → tc σ M fun w M4 => rr' y w M4 Q) (h2 : k = false → Q (.bl false) M) : kCh rr' tc σ y Q (.bl k) M := ⟨h1, h2⟩
theorem do_ord {c : Nat} (h : Q (.int (c : Int)) M) : rOrd [.str ⟨#[c]⟩] M Q := ⟨rfl, h⟩
theorem do_all (bs : List Bool) (h : Q (.bl (bs.all id)) M) : rAll [.ls (bs.map RV.bl)] M Q := ⟨bs, rfl, h⟩
def kItX (Q : List RV → RM → Prop) : RVK := fun v M1 => match v with | .str x => Q (signsR x) M1 | _ => False
theorem do_itX (h : ta σ M (kItX QA)) : rItX ta σ M QA := h
theorem do_kitx {x : Str} (h : QA (signsR x) M) : kItX QA (.str x) M := h
theorem do_list_t {xs : List RV} (h : Q (.ls xs) M) : rList [.tup xs] M Q := h
theorem do_ltS {i j : Str} (h : Q (.bl (decide (i.cps.toList < j.cps.toList))) M) : rLtS (.str i) (.str j) M Q := h
theorem do_gtS {i j : Str} (h : Q (.bl (decide (j.cps.toList < i.cps.toList))) M) : rGtS (.str i) (.str j) M Q := h
def kCallV (fs : List (Addr × RSp)) (t : RTA) (σ : RSt) (Q : RVK) : RVK := fun v M1 => match v with
  | .ref f => ∃ sp, (f, sp) ∈ fs ∧ t σ M1 fun rs M2 => sp rs M2 Q
  | _ => False
theorem do_callV {fs : List (Addr × RSp)} (h : ta σ M (kCallV fs tr σ Q)) : rCallV fs ta tr σ M Q := h
def kTabIn (neg : Bool) (kvs : List (Key × RV)) (Q : RVK) : RVK := fun k M1 => match keyR k with
  | some key => Q (.bl (if neg then !(lookK kvs key).isSome else (lookK kvs key).isSome)) M1
  | none => False
theorem do_tabin {neg : Bool} {kvs : List (Key × RV)} (h : ta σ M (kTabIn neg kvs Q)) : rTabIn neg kvs ta σ M Q := h
theorem do_ktabnot {kvs : List (Key × RV)} {n : Str} (h : Q (.bl (!(lookK kvs (Sum.inr n)).isSome)) M) : kTabIn true kvs Q (.str n) M := h
theorem do_neg {i : Int} (h : Q (.int (-i)) M) : rgNeg (.int i) M Q := h
theorem do_start {P : RSt → RM → Prop} {τ τ' : RSt} (e : τ = τ') (h : P τ' M) : P τ M := by subst e; exact h
def kJoin (t : RTA) (σ : RSt) (Q : RVK) : RVK := fun x M1 => match x with
  | .str z => t σ M1 fun rs M2 => ∃ ys : List Str, rs = [.ls (ys.map RV.str)] ∧ (ys.map (·.length)).sum + ys.length * z.length ≤ 16777216 ∧ Q (.str (Txt.join z ys)) M2
  | _ => False
theorem do_join (h : ta σ M (kJoin tr σ Q)) : rJoin ta tr σ M Q := h
theorem do_kjoin {z : Str} (h : tr σ M fun rs M2 => ∃ ys : List Str, rs = [.ls (ys.map RV.str)] ∧ (ys.map (·.length)).sum + ys.length * z.length ≤ 16777216 ∧ Q (.str (Txt.join z ys)) M2) : kJoin tr σ Q (.str z) M := h
def kApp (t : RTA) (σ : RSt) (Q : RVK) : RVK := fun x M1 => match x with
  | .ref p => (∃ ys, M1 p = some (.lst ys)) ∧ t σ M1 fun rs M2 => ∃ ys y, rs = [y] ∧ M2 p = some (.lst ys) ∧ ys.length < sizeLine ∧ Q .non (put M2 p (.lst (ys ++ [y])))
  | _ => False
theorem do_append (h : ta σ M (kApp tr σ Q)) : rApp ta tr σ M Q := h
theorem do_kapp {p : Addr} {ys : List RV} (e : M p = some (.lst ys)) (h : tr σ M fun rs M2 => ∃ ys y, rs = [y] ∧ M2 p = some (.lst ys) ∧ ys.length < sizeLine ∧ Q .non (put M2 p (.lst (ys ++ [y])))) : kApp tr σ Q (.ref p) M := ⟨⟨ys, e⟩, h⟩
theorem forL_ix {g : RTG} {tb : RTS} {n b c : RSt → RM → Prop} {r : RVK} (J : Nat → RSt → RM → Prop) (p : RV → Prop) (L : Nat) (hs : ∀ i x σ M (N : RSt → RM → Prop), i < L → p x → J i σ M → (∀ σ' M', J (i + 1) σ' M' → N σ' M') → g x σ M fun σ2 M2 => tb ⟨N, r, n, N⟩ σ2 M2)
    (hd : ∀ σ M, J L σ M → n σ M) : ∀ (xs : List RV) (i : Nat), (∀ x ∈ xs, p x) → i + xs.length = L → ∀ σ M, J i σ M → rForL g tb ⟨n, r, b, c⟩ xs σ M
  | [], i, _, hl, σ, M, j => hd σ M (by have : i = L := by simpa using hl
                                        subst this; exact j)
  | x :: xs, i, hp, hl, σ, M, j => by
    have hl' : i + 1 + xs.length = L := by rw [List.length_cons] at hl; omega
    exact do_forCons (hs i x σ M _ (by omega) (hp x List.mem_cons_self) j fun σ' M' j' => forL_ix J p L hs hd xs (i + 1) (fun y hy => hp y (List.mem_cons_of_mem _ hy)) hl' σ' M' j')
theorem comp_filter {tt : RTT} {te : RTE} {base : List (Option RV)} {p : RV → Bool} {f : RV → RV} : ∀ (xs acc : List RV), (∀ x ∈ xs, ∀ Q' : Bool → RM → Prop, Q' (p x) M → tt (some x :: base) M Q') → (∀ x ∈ xs, ∀ Q' : RVK, Q' (f x) M → te (some x :: base) M Q') →
    Q (.ls (acc ++ (xs.filter p).map f)) M → rCompL tt te base xs acc M Q
  | [], acc, _, _, h => do_compNil (by simpa using h)
  | x :: xs, acc, ht, hs, h => by
    refine do_compT (ht x List.mem_cons_self _ ?_)
    have ih := fun acc' h' => comp_filter xs acc' (fun y hy => ht y (List.mem_cons_of_mem _ hy)) (fun y hy => hs y (List.mem_cons_of_mem _ hy)) h'
    refine do_kB (fun e => hs x List.mem_cons_self _ (ih _ ?_)) fun e => ih _ ?_
    · simpa [List.filter_cons, e] using h
    · simpa [List.filter_cons, e] using h
end
end R
set_option Elab.async false
set_option linter.all false
set_option maxRecDepth 100000
set_option maxHeartbeats 1000000
namespace R
open PySem PySem.Spec PyProof.Rows L2
theorem repP_lookup {K : PySem.W.Frag} {H : Hp} {f : Str} : ∀ {fs : List (Str × RV)} {gs : List (Str × V)} {v : RV}, RepP K H fs gs → fs.lookup f = some v → ∃ u, gs.lookup f = some u ∧ Rep K H v u
  | [], gs, v, h, e => by cases e
  | (g, x) :: r, gs, v, h, e => by
    obtain ⟨u, t, rfl, h1, h2⟩ := h
    rw [List.lookup_cons] at e
    cases hb : f == g with
    | true => rw [hb] at e; cases e; exact ⟨u, by rw [List.lookup_cons, hb], h1⟩
    | false =>
      rw [hb] at e
      obtain ⟨w, e1, r1⟩ := repP_lookup h2 e
      exact ⟨w, by rw [List.lookup_cons, hb]; exact e1, r1⟩
theorem repP_none {K : PySem.W.Frag} {H : Hp} {f : Str} : ∀ {fs : List (Str × RV)} {gs : List (Str × V)}, RepP K H fs gs → fs.lookup f = none → gs.lookup f = none
  | [], gs, h, e => by have h' : gs = [] := h; subst h'; rfl
  | (g, x) :: r, gs, h, e => by
    obtain ⟨u, t, rfl, h1, h2⟩ := h
    rw [List.lookup_cons] at e ⊢
    cases hb : f == g with
    | true => rw [hb] at e; cases e
    | false => rw [hb] at e; exact repP_none h2 e
def putFR (f : Str) (v : RV) : List (Str × RV) → List (Str × RV)
  | [] => [(f, v)]
  | (g, x) :: r => if g = f then (g, v) :: r else (g, x) :: putFR f v r
theorem repP_putF {K : PySem.W.Frag} {H : Hp} {f : Str} {v : RV} {u : V} (hv : Rep K H v u) : ∀ {fs : List (Str × RV)} {gs : List (Str × V)}, RepP K H fs gs → RepP K H (putFR f v fs) (putF f u gs)
  | [], gs, h => by have h' : gs = [] := h; subst h'; exact ⟨u, [], rfl, hv, rfl⟩
  | (g, x) :: r, gs, h => by
    obtain ⟨w, t, rfl, h1, h2⟩ := h
    unfold putFR putF
    by_cases e : g = f
    · rw [if_pos e, if_pos e]; exact ⟨u, t, rfl, hv, h2⟩
    · rw [if_neg e, if_neg e]; exact ⟨w, _, rfl, h1, repP_putF hv h2⟩
theorem repP_len {κ : Type} {K : PySem.W.Frag} {H : Hp} : ∀ {fs : List (κ × RV)} {gs : List (κ × V)}, RepP K H fs gs → fs.length = gs.length
  | [], gs, h => by have h' : gs = [] := h; subst h'; rfl
  | (g, x) :: r, gs, h => by
    obtain ⟨w, t, rfl, h1, h2⟩ := h
    rw [List.length_cons, List.length_cons, repP_len h2]
section
variable {X : Cx} {o e value : Expr} {f : Str} {pos pos' : Pos} {ta tv : RTE} {C : Addr}
def rFld (C : Addr) (f : Str) (ta : RTE) : RTE := fun σ M Q => ta σ M fun x M1 => match x with
  | .ref a => ∃ fs v, M1 a = some (.ins C fs) ∧ fs.lookup f = some v ∧ Q v M1
  | _ => False
theorem rfld (hc : Cls X.K C) (hn : NoAttr X.K C f) (he : RPE X e ta) (hb : attributeBase e f X.env (eval e X.env) = eval e X.env := by rfl) : RPE X (.Attribute e f pos) (rFld C f ta) := PE.imp (pe_fld he hb) fun σ0 H Q0 h => by
  obtain ⟨σ, M, Q, hs, hv, ht, hk⟩ := h
  refine ⟨σ, M, _, hs, hv, ht, fun rx M1 x H1 q e1 v1 r1 => ?_⟩
  cases rx with
  | ref a =>
    obtain ⟨fs, v, hm, hl, q⟩ := q
    simp only [Rep] at r1
    subst r1
    obtain ⟨ho, eo, dx, gs, rfl, hg⟩ := v1 a _ hm
    obtain ⟨u, hu, ru⟩ := repP_lookup hg hl
    exact ⟨a, C, dx, gs, u, rfl, eo, hc, hn, hu, hk _ M1 _ H1 q e1 v1 ru⟩
  | _ => exact (show False from q).elim
def rSFld (C : Addr) (f : Str) (ta tv : RTE) : RTS := fun D σ M => tv σ M fun y M1 => ta σ M1 fun x M2 => match x with
  | .ref a => ∃ fs, M2 a = some (.ins C fs) ∧ fs.length < 1000 ∧ D.nx σ (put M2 a (.ins C (putFR f y fs)))
  | _ => False
theorem sfld (hc : Cls X.K C) (hn : NoAttr X.K C f) (ha : RPE X o ta) (hv : RPE X value tv) (hs : swapsWith value (some (.Attribute o f pos')) pos.line X.env = pure false := by rfl) : RPS X (.Assign [.Attribute o f pos'] value pos) (rSFld C f ta tv) := PS.imp (ps_fld ha hv hs) fun D0 σ0 H h => by
  obtain ⟨σ, M, D, hs, hv, ht, hd⟩ := h
  refine ⟨σ, M, _, hs, hv, ht, fun ry M1 y H1 q e1 v1 r1 => ⟨σ, M1, _, hs.ext e1, v1, q, fun rx M2 x H2 q2 e2 v2 r2 => ?_⟩⟩
  cases rx with
  | ref a =>
    obtain ⟨fs, hm, hl, q2⟩ := q2
    simp only [Rep] at r2
    subst r2
    obtain ⟨ho, eo, dx, gs, rfl, hg⟩ := v2 a _ hm
    have ex : Ext H2 (upd H2 a (.ins C dx (putF f y gs))) := Ext.write eo rfl
    refine ⟨a, C, dx, gs, rfl, eo, hc, hn, by rw [← repP_len hg]; exact hl, hd.nx σ _ _ _ q2 ((e1.trans e2).trans ex) (v2.write hm ⟨dx, _, rfl, ?_⟩) (hs.ext ((e1.trans e2).trans ex))⟩
    exact repP_putF (Rep.ext (e2.trans ex) _ _ r1) (hg.ext ex)
  | _ => exact (show False from q2).elim
end
def putR (kvs : List (Key × RV)) (k : Key) (v : RV) : List (Key × RV) :=
  if (kvs.any fun kv => decide (kv.1 = k)) = true then kvs.map (fun kv => if kv.1 = k then (kv.1, v) else kv) else kvs ++ [(k, v)]
def dropR (kvs : List (Key × RV)) (k : Key) : List (Key × RV) := kvs.filter fun kv => decide (kv.1 ≠ k)
section
variable {K : PySem.W.Frag} {H : Hp} {k : Key} {v : RV} {u : V}
theorem repP_any : ∀ {kvs : List (Key × RV)} {ws : List (Key × V)}, RepP K H kvs ws → (kvs.any fun kv => decide (kv.1 = k)) = ws.any fun kv => decide (kv.1 = k)
  | [], ws, h => by have h' : ws = [] := h; subst h'; rfl
  | (j, x) :: r, ws, h => by
    obtain ⟨w, t, rfl, h1, h2⟩ := h
    rw [List.any_cons, List.any_cons, repP_any h2]
theorem repP_map (hv : Rep K H v u) : ∀ {kvs : List (Key × RV)} {ws : List (Key × V)}, RepP K H kvs ws → RepP K H (kvs.map fun kv => if kv.1 = k then (kv.1, v) else kv) (ws.map fun kv => if kv.1 = k then (kv.1, u) else kv)
  | [], ws, h => by have h' : ws = [] := h; subst h'; rfl
  | (j, x) :: r, ws, h => by
    obtain ⟨w, t, rfl, h1, h2⟩ := h
    rw [List.map_cons, List.map_cons]
    by_cases e : j = k
    · rw [if_pos (show (j, x).1 = k from e), if_pos (show (j, w).1 = k from e)]; exact ⟨u, _, rfl, hv, repP_map hv h2⟩
    · rw [if_neg (show ¬ (j, x).1 = k from e), if_neg (show ¬ (j, w).1 = k from e)]; exact ⟨w, _, rfl, h1, repP_map hv h2⟩
theorem repP_app {κ : Type} : ∀ {xs : List (κ × RV)} {ws : List (κ × V)} {ys : List (κ × RV)} {zs : List (κ × V)}, RepP K H xs ws → RepP K H ys zs → RepP K H (xs ++ ys) (ws ++ zs)
  | [], ws, ys, zs, h, t => by have h' : ws = [] := h; subst h'; exact t
  | (j, x) :: r, ws, ys, zs, h, t => by
    obtain ⟨w, t', rfl, h1, h2⟩ := h
    exact ⟨w, _, rfl, h1, repP_app h2 t⟩
theorem repP_put (hv : Rep K H v u) {kvs : List (Key × RV)} {ws : List (Key × V)} (h : RepP K H kvs ws) : RepP K H (putR kvs k v) (putK ws k u) := by
  unfold putR putK
  rw [repP_any h]
  split
  · exact repP_map hv h
  · exact repP_app h ⟨u, [], rfl, hv, rfl⟩
theorem repP_drop : ∀ {kvs : List (Key × RV)} {ws : List (Key × V)}, RepP K H kvs ws → RepP K H (dropR kvs k) (dropK ws k)
  | [], ws, h => by have h' : ws = [] := h; subst h'; rfl
  | (j, x) :: r, ws, h => by
    obtain ⟨w, t, rfl, h1, h2⟩ := h
    unfold dropR dropK
    rw [List.filter_cons, List.filter_cons]
    by_cases e : j = k
    · rw [if_neg (by simp [e]), if_neg (by simp [e])]; exact repP_drop h2
    · rw [if_pos (by simp [e]), if_pos (by simp [e])]; exact ⟨w, _, rfl, h1, repP_drop h2⟩
end
section
variable {X : Cx} {o i value : Expr} {pos pos' : Pos} {td ty tv : RTE}
def rDNew : RTE := fun _ M Q => ∀ p, M p = none → Q (.ref p) (put M p (.dk []))
theorem rdnew : RPE X (.Dict [] [] pos) rDNew := PE.imp pe_dnewK fun σ0 H Q0 h => by
  obtain ⟨σ, M, Q, hs, hv, ht, hk⟩ := h
  intro p hp
  exact hk _ _ _ _ (ht p (hv.free hp)) (Ext.new hp) (hv.newPut hp ⟨[], rfl, rfl⟩) (by simp only [Rep])
def atKey (M : RM) (x y : RV) (P : Addr → List (Key × RV) → Key → Prop) : Prop := match x with
  | .ref a => (match M a with | some (.dk kvs) => (match keyR y with | some k => P a kvs k | none => False) | _ => False)
  | _ => False
theorem atKey_of {M : RM} {x y : RV} {P : Addr → List (Key × RV) → Key → Prop} (h : atKey M x y P) : ∃ a kvs k, x = .ref a ∧ M a = some (.dk kvs) ∧ keyR y = some k ∧ P a kvs k := by
  unfold atKey at h
  split at h
  · split at h
    · split at h
      · exact ⟨_, _, _, rfl, by assumption, by assumption, h⟩
      · exact h.elim
    · exact h.elim
  · exact h.elim
def rDGet (td ty : RTE) : RTE := fun σ M Q => td σ M fun x M1 => ty σ M1 fun y M2 => atKey M2 x y fun _ kvs k => ∃ v, lookK kvs k = some v ∧ Q v M2
theorem rdget (hu : X.A.units + 1 < cLine) (ho : RPE X o td) (hi : RPE X i ty) (hs : NoSl i := by intro _ _; rfl) : RPE X (.Subscript o i pos) (rDGet td ty) := PE.imp (pe_dget hu ho hi hs) fun σ0 H Q0 h => by
  obtain ⟨σ, M, Q, hs, hv, ht, hk⟩ := h
  refine ⟨σ, M, _, hs, hv, ht, fun rx M1 x H1 q e1 v1 r1 => ⟨σ, M1, _, hs.ext e1, v1, q, fun ry M2 y H2 q2 e2 v2 r2 => ?_⟩⟩
  obtain ⟨a, kvs, k, rfl, hm, hy, v, hl, q2⟩ := atKey_of q2
  simp only [Rep] at r1
  subst r1
  obtain ⟨ho, eo, ws, rfl, hg⟩ := v2 a _ hm
  obtain ⟨u, hu, ru⟩ := (repP_look (k := k) hg).1 v hl
  have := keyR_kV hy r2
  subst this
  exact ⟨a, u, rfl, by rw [← hu]; exact DGet.k eo, hk _ M2 _ H2 q2 (e1.trans e2) v2 ru⟩
def rSDPut (td ty tv : RTE) : RTS := fun D σ M => tv σ M fun v M1 => td σ M1 fun x M2 => ty σ M2 fun y M3 => atKey M3 x y fun a kvs k => kvs.length < sizeLine ∧ D.nx σ (put M3 a (.dk (putR kvs k v)))
theorem sdput (hu : X.A.units + 1 < cLine) (ho : RPE X o td) (hi : RPE X i ty) (hv : RPE X value tv) (hs : swapsWith value (some (.Subscript o i pos')) pos.line X.env = pure false := by rfl) : RPS X (.Assign [.Subscript o i pos'] value pos) (rSDPut td ty tv) := PS.imp (ps_dput hu ho hi hv hs) fun D0 σ0 H h => by
  obtain ⟨σ, M, D, hs, hv, ht, hd⟩ := h
  refine ⟨σ, M, _, hs, hv, ht, fun rv M1 v H1 q e1 v1 r1 => ⟨σ, M1, _, hs.ext e1, v1, q, fun rx M2 x H2 q2 e2 v2 r2 => ⟨σ, M2, _, hs.ext (e1.trans e2), v2, q2, fun ry M3 y H3 q3 e3 v3 r3 => ?_⟩⟩⟩
  obtain ⟨a, kvs, k, rfl, hm, hy, hl, q3⟩ := atKey_of q3
  simp only [Rep] at r2
  subst r2
  obtain ⟨ho, eo, ws, rfl, hg⟩ := v3 a _ hm
  have := keyR_kV hy r3
  subst this
  have ex : Ext H3 (upd H3 a (.dK (putK ws k v))) := Ext.write eo rfl
  have e4 := ((e1.trans e2).trans e3).trans ex
  exact ⟨a, _, rfl, DPut.k eo (by rw [← repP_len hg]; exact hl), hd.nx σ _ _ _ q3 e4 (v3.write hm ⟨_, rfl, repP_put (Rep.ext ((e2.trans e3).trans ex) _ _ r1) (hg.ext ex)⟩) (hs.ext e4)⟩
def rSDDel (td ty : RTE) : RTS := fun D σ M => td σ M fun x M1 => ty σ M1 fun y M2 => atKey M2 x y fun a kvs k => (lookK kvs k).isSome = true ∧ D.nx σ (put M2 a (.dk (dropR kvs k)))
theorem sddel {tpos : Pos} (ho : RPE X o td) (hi : RPE X i ty) : RPS X (.Delete [.Subscript o i tpos] pos) (rSDDel td ty) := PS.imp (ps_ddel ho hi) fun D0 σ0 H h => by
  obtain ⟨σ, M, D, hs, hv, ht, hd⟩ := h
  refine ⟨σ, M, _, hs, hv, ht, fun rx M1 x H1 q e1 v1 r1 => ⟨σ, M1, _, hs.ext e1, v1, q, fun ry M2 y H2 q2 e2 v2 r2 => ?_⟩⟩
  obtain ⟨a, kvs, k, rfl, hm, hy, hl, q2⟩ := atKey_of q2
  simp only [Rep] at r1
  subst r1
  obtain ⟨ho, eo, ws, rfl, hg⟩ := v2 a _ hm
  have := keyR_kV hy r2
  subst this
  have ex : Ext H2 (upd H2 a (.dK (dropK ws k))) := Ext.write eo rfl
  have e3 := (e1.trans e2).trans ex
  refine ⟨a, ws, k, rfl, eo, rfl, ?_, hd.nx σ _ _ _ q2 e3 (v2.write hm ⟨_, rfl, repP_drop (hg.ext ex)⟩) (hs.ext e3)⟩
  obtain ⟨v, hv'⟩ := Option.isSome_iff_exists.mp hl
  obtain ⟨u, hu, _⟩ := (repP_look (k := k) hg).1 v hv'
  rw [hu]; rfl
end
end R
set_option Elab.async false
set_option linter.all false
set_option maxRecDepth 100000
set_option maxHeartbeats 1000000
namespace R
open PySem PySem.Spec PyProof.Rows L2
section
variable {X : Cx} {o i f : Expr} {pos : Pos} {td ty tx : RTE}
def rDIn (neg : Bool) (ty td : RTE) : RTE := fun σ M Q => ty σ M fun y M1 => td σ M1 fun x M2 => atKey M2 x y fun _ kvs k => Q (.bl (if neg then !(lookK kvs k).isSome else (lookK kvs k).isSome)) M2
theorem isSome_rep {K : PySem.W.Frag} {H : Hp} {kvs : List (Key × RV)} {ws : List (Key × V)} {k : Key} (hr : RepP K H kvs ws) : (valV ws k).isSome = (lookK kvs k).isSome := by
  cases el : lookK kvs k with
  | none => rw [(repP_look (k := k) hr).2 el]; rfl
  | some rv => obtain ⟨v, e1, _⟩ := (repP_look (k := k) hr).1 rv el; rw [e1]; rfl
theorem din_core {neg : Bool} {σ0 : L2.St} {H : Hp} {Q0 : VK} (h : up X.K (rDIn neg ty td) σ0 H Q0) : up X.K ty σ0 H fun y H1 => up X.K td σ0 H1 fun x H2 => ∃ a r, x = .ref a ∧ DGet H2 a y r ∧ Q0 (.bl (if neg then !r.isSome else r.isSome)) H2 := by
  obtain ⟨σ, M, Q, hs, hv, ht, hk⟩ := h
  refine ⟨σ, M, _, hs, hv, ht, fun ry M1 y H1 q e1 v1 r1 => ⟨σ, M1, _, hs.ext e1, v1, q, fun rx M2 x H2 q2 e2 v2 r2 => ?_⟩⟩
  obtain ⟨a, kvs, k, rfl, hm, hy, q2⟩ := atKey_of q2
  simp only [Rep] at r2
  subst r2
  obtain ⟨ho, eo, ws, rfl, hg⟩ := v2 a _ hm
  have := keyR_kV hy (Rep.ext e2 _ _ r1)
  subst this
  exact ⟨a, _, rfl, DGet.k eo, by rw [isSome_rep hg]; exact hk _ M2 _ H2 q2 (e1.trans e2) v2 (by simp only [Rep])⟩
theorem rdnotin (hu : X.A.units + 1 < cLine) (hi : RPE X i ty) (ho : RPE X o td) (h1 : behindInMarks .NotIn o = false := by with_unfolding_all rfl) : RPE X (.Compare i [.NotIn] [o] pos) (rDIn true ty td) := PE.imp (pe_cmp (pc_dnotin hu hi ho) h1) fun σ0 H Q0 h => din_core h
theorem rtdin (hu : X.A.units + 1 < cLine) (hi : RPE X i ty) (ho : RPE X o td) (h1 : behindInMarks .In o = false := by with_unfolding_all rfl) : RPT X (.Compare i [.In] [o] pos) (rTest (rDIn false ty td)) := PT.imp (pt_cmp (pc_din hu hi ho) h1) fun σ0 H Q0 h => by
  obtain ⟨σ, M, Q, hs, hv, ht, hk⟩ := h
  exact din_core (neg := false) ⟨σ, M, _, hs, hv, ht, test_up hk⟩
theorem rtdnotin (hu : X.A.units + 1 < cLine) (hi : RPE X i ty) (ho : RPE X o td) (h1 : behindInMarks .NotIn o = false := by with_unfolding_all rfl) : RPT X (.Compare i [.NotIn] [o] pos) (rTest (rDIn true ty td)) := PT.imp (pt_cmp (pc_dnotin hu hi ho) h1) fun σ0 H Q0 h => by
  obtain ⟨σ, M, Q, hs, hv, ht, hk⟩ := h
  exact din_core (neg := true) ⟨σ, M, _, hs, hv, ht, test_up hk⟩
end
section
variable {X : Cx} {x m : Str} {p pos apos : Pos} {o e : Expr} {es : List Expr} {t : RTA} {ta : RTE} {k : Nat} {ps : List Str} {sp : RSp} {C g : Addr} {fd : FuncData}
def rMeth (C : Addr) (m : Str) (sp : RSp) (ta : RTE) (t : RTA) : RTE := fun σ M Q => ta σ M fun x M1 => match x with
  | .ref a => ∃ fs, M1 a = some (.ins C fs) ∧ fs.lookup m = none ∧ t σ M1 fun rs M2 => sp (.ref a :: rs) M2 Q
  | _ => False
theorem meth_core {σ0 : L2.St} {H : Hp} {Q0 : VK} (h : up X.K (rMeth C m sp ta t) σ0 H Q0) : tMeth C m (upSp X.K sp) [] (fun _ _ _ => False) (up X.K ta) (upA X.K t) σ0 H Q0 := by
  obtain ⟨σ, M, Q, hs, hv, ht, hk⟩ := h
  refine ⟨σ, M, _, hs, hv, ht, fun rx M1 x H1 q e1 v1 r1 => ?_⟩
  cases rx with
  | ref a =>
    obtain ⟨fs, hm, hl, q⟩ := q
    simp only [Rep] at r1
    subst r1
    obtain ⟨ho, eo, dx, gs, rfl, hg⟩ := v1 a _ hm
    refine ⟨a, dx, gs, rfl, eo, repP_none hg hl, σ, M1, _, hs.ext e1, v1, q, fun rs M2 vs H2 q2 e2 v2 r2 => ?_⟩
    exact ⟨.ref a :: rs, M2, Q, by rw [List.append_nil]; exact Reps.cons (by simp only [Rep]) r2, v2, q2, hk.ext (e1.trans e2)⟩
  | _ => exact (show False from q).elim
theorem rmeth {pl : Sem Bool} (he : RPE X o ta) (c : Cls X.K C) (hm : Meth X.K C m g) (F : FnOk X.prog X.w X.K X.mg X.base CX0 k g fd ps (upSp X.K sp)) (hr : Room k X.A) (hb : Binds X.K fd ps []) (ha : RPA X (e :: es) t)
    (hst : starEach (e :: es) X.env = (false, eval e X.env) :: starEach es X.env := by rfl) (hpl : (backTo pos (starEach es X.env)).any (·.1) = false := by rfl)
    (ht : eval (.Call (.Attribute o m apos) (e :: es) [] pos) X.env = (do
      let ov ← eval o X.env
      standAt apos.atName
      let (f, first) ← holding [ov] (getMethod ov m pl)
      callWith pos f first (backTo pos (starEach (e :: es) X.env)) (backToKw pos (keywordEach [] X.env))) := by rfl) :
    RPE X (.Call (.Attribute o m apos) (e :: es) [] pos) (rMeth C m sp ta t) := PE.imp (pe_meth he c hm F hr hb .nil pass0 ha hst hpl ht) fun σ0 H Q0 h => meth_core h
def rMake (C : Addr) (sp : RSp) (t : RTA) : RTE := fun σ M Q => t σ M fun rs M1 => ∀ a, M1 a = none → sp (.ref a :: rs) (put M1 a (.ins C [])) (fun v M2 => v = .non ∧ Q (.ref a) M2)
theorem rmake {h0 : Nat} (Mk1 : Mk X.K C g) (F : FnOk X.prog X.w X.K X.mg X.base CX0 k g fd ps (upSp X.K sp)) (hr : Room (k + 1) X.A) (hm : X.mg x = some (.ref C)) (hb : Binds X.K fd ps []) (ha : RPA X (e :: es) t) (hg : Gl X x := by rfl) (hdb : (x == ("__debug__" : Str)) = false := by decide)
    (he : starEach (e :: es) X.env = (false, eval e X.env) :: starEach es X.env := by rfl) (hpl : (backTo pos (starEach es X.env)).any (·.1) = false := by rfl) : RPE X (.Call (.Name x p) (e :: es) [] pos) (rMake C sp t) := PE.imp (pe_make Mk1 F hr hg hm hb .nil pass0 ha hdb he hpl) fun σ0 H Q0 h => by
  obtain ⟨σ, M, Q, hs, hv, ht, hk⟩ := h
  refine ⟨σ, M, _, hs, hv, ht, fun rs M1 vs H1 q e1 v1 r1 a dx na nd ne => ?_⟩
  have ex1 : Ext H1 (upd H1 dx (.own a)) := Ext.new nd
  have na' : (upd H1 dx (.own a)) a = none := by rw [upd_ne (Ne.symm ne)]; exact na
  have ex2 : Ext H1 (upd (upd H1 dx (.own a)) a (.ins C dx [])) := ex1.trans (Ext.new na')
  refine ⟨.ref a :: rs, put M1 a (.ins C []), _, by rw [List.append_nil]; exact Reps.cons (by simp only [Rep]) (Reps.ext ex2 _ _ r1), (v1.new nd).newPut na' ⟨dx, [], rfl, rfl⟩, q a (v1.free na), fun rv M2 v H2 q2 e2 v2 r2 => ?_⟩
  obtain ⟨rfl, q2⟩ := q2
  simp only [Rep] at r2
  exact ⟨r2, hk _ M2 _ H2 q2 ((e1.trans ex2).trans e2) v2 (by simp only [Rep])⟩
end
section
variable {X : Cx} {o e f : Expr} {apos cpos : Pos} {td ty tx : RTE}
def isDk (M : RM) (x : RV) : Prop := match x with | .ref a => ∃ kvs, M a = some (.dk kvs) | _ => False
theorem isDk_of {M : RM} {x : RV} (h : isDk M x) : ∃ a kvs, x = .ref a ∧ M a = some (.dk kvs) := by
  cases x with
  | ref a => obtain ⟨kvs, h⟩ := h; exact ⟨a, kvs, rfl, h⟩
  | _ => exact (show False from h).elim
def rDGet2 (td ty tx : RTE) : RTE := fun σ M Q => td σ M fun x M1 => isDk M1 x ∧ ty σ M1 fun y M2 => tx σ M2 fun z M3 => atKey M3 x y fun _ kvs k => Q ((lookK kvs k).getD z) M3
theorem rdget2 (hu : X.A.units + 1 < cLine) (ho : RPE X o td) (he : RPE X e ty) (hf : RPE X f tx) (m : M2 X o "get" apos e f cpos := by exact ⟨rfl, rfl, rfl, rfl⟩) : RPE X (.Call (.Attribute o "get" apos) [e, f] [] cpos) (rDGet2 td ty tx) := PE.imp (pe_dget2 hu ho he hf m) fun σ0 H Q0 h => by
  obtain ⟨σ, M, Q, hs, hv, ht, hk⟩ := h
  refine ⟨σ, M, _, hs, hv, ht, fun rx M1 x H1 q e1 v1 r1 => ?_⟩
  obtain ⟨hd, q⟩ := q
  obtain ⟨a, kvs, rfl, hm⟩ := isDk_of hd
  simp only [Rep] at r1
  subst r1
  obtain ⟨ho1, eo1, ws1, rfl, _⟩ := v1 a _ hm
  refine ⟨a, rfl, .inl ⟨ws1, .inl eo1⟩, σ, M1, _, hs.ext e1, v1, q, fun ry M2 y H2 q2 e2 v2 r2 => ⟨σ, M2, _, hs.ext (e1.trans e2), v2, q2, fun rz M3 z H3 q3 e3 v3 r3 => ?_⟩⟩
  obtain ⟨a', kvs3, k, ea, hm3, hy, q3⟩ := atKey_of q3
  cases ea
  obtain ⟨ho3, eo3, ws3, rfl, hg⟩ := v3 a _ hm3
  have := keyR_kV hy (Rep.ext e3 _ _ r2)
  subst this
  refine ⟨_, DGet.k eo3, hk _ M3 _ H3 q3 ((e1.trans e2).trans e3) v3 ?_⟩
  cases el : lookK kvs3 k with
  | none => rw [(repP_look (k := k) hg).2 el]; exact r3
  | some rv => obtain ⟨v, e4, r4⟩ := (repP_look (k := k) hg).1 rv el; rw [e4]; exact r4
def rDPop (td ty : RTE) : RTE := fun σ M Q => td σ M fun x M1 => isDk M1 x ∧ ty σ M1 fun y M2 => atKey M2 x y fun a kvs k => ∃ v, lookK kvs k = some v ∧ Q v (put M2 a (.dk (dropR kvs k)))
theorem rdpop (ho : RPE X o td) (he : RPE X e ty) (m : M1 X o "pop" apos e cpos := by exact ⟨rfl, rfl, rfl, rfl⟩) : RPE X (.Call (.Attribute o "pop" apos) [e] [] cpos) (rDPop td ty) := PE.imp (pe_dpop1 ho he m) fun σ0 H Q0 h => by
  obtain ⟨σ, M, Q, hs, hv, ht, hk⟩ := h
  refine ⟨σ, M, _, hs, hv, ht, fun rx M1 x H1 q e1 v1 r1 => ?_⟩
  obtain ⟨hd, q⟩ := q
  obtain ⟨a, kvs, rfl, hm⟩ := isDk_of hd
  simp only [Rep] at r1
  subst r1
  obtain ⟨ho1, eo1, ws1, rfl, _⟩ := v1 a _ hm
  refine ⟨a, rfl, .inl ⟨ws1, .inl eo1⟩, σ, M1, _, hs.ext e1, v1, q, fun ry M2 y H2 q2 e2 v2 r2 => ?_⟩
  obtain ⟨a', kvs2, k, ea, hm2, hy, v, hl, q2⟩ := atKey_of q2
  cases ea
  obtain ⟨ho2, eo2, ws2, rfl, hg⟩ := v2 a _ hm2
  have := keyR_kV hy r2
  subst this
  obtain ⟨u, hu, ru⟩ := (repP_look (k := k) hg).1 v hl
  have ex : Ext H2 (upd H2 a (.dK (dropK ws2 k))) := Ext.write eo2 rfl
  exact ⟨ws2, k, u, eo2, rfl, hu, hk _ _ _ _ q2 ((e1.trans e2).trans ex) (v2.write hm2 ⟨_, rfl, repP_drop (hg.ext ex)⟩) (Rep.ext ex _ _ ru)⟩
def rLenD : List RV → RM → RVK → Prop := fun rs M Q => ∃ a kvs, rs = [.ref a] ∧ M a = some (.dk kvs) ∧ Q (.int kvs.length) M
theorem clenD : CallR X (.builtin "len") (upC X.K rLenD) := by
  intro pins s σ H xs us Q0 I rl h
  obtain ⟨rs, M, Q, rr, hv, ⟨a, kvs, rfl, hm, hq⟩, hk⟩ := h
  obtain ⟨v, rfl, r1⟩ := rr.one
  simp only [Rep] at r1
  subst r1
  obtain ⟨ho, eo, ws, rfl, hg⟩ := hv a _ hm
  exact call_lenD pins s σ H _ us Q0 I rl ⟨a, ws, rfl, eo, hk _ M _ H hq (.refl H) hv (by simp only [Rep]; rw [repP_len hg])⟩
end
section
variable {X : Cx} {m : Str} {p pos apos : Pos} {o a b tg : Expr} {ta t1 t2 : RTE} {k : Nat} {ps : List Str} {sp : RSp} {C g : Addr} {fd : FuncData}
theorem rmeth0 {pl : Sem Bool} (he : RPE X o ta) (c : Cls X.K C) (hm : Meth X.K C m g) (F : FnOk X.prog X.w X.K X.mg X.base CX0 k g fd ps (upSp X.K sp)) (hr : Room k X.A) (hb : Binds X.K fd ps [])
    (ht : eval (.Call (.Attribute o m apos) [] [] pos) X.env = (do
      let ov ← eval o X.env
      standAt apos.atName
      let (f, first) ← holding [ov] (getMethod ov m pl)
      callWith pos f first (backTo pos (starEach [] X.env)) (backToKw pos (keywordEach [] X.env))) := by rfl) :
    RPE X (.Call (.Attribute o m apos) [] [] pos) (rMeth C m sp ta rNil) := PE.imp (pe_meth0 he c hm F hr hb .nil pass0 ht) fun σ0 H Q0 h => by
  obtain ⟨σ, M, Q, hs, hv, ht, hk⟩ := h
  refine ⟨σ, M, _, hs, hv, ht, fun rx M1 x H1 q e1 v1 r1 => ?_⟩
  cases rx with
  | ref a =>
    obtain ⟨fs, hm, hl, q⟩ := q
    simp only [Rep] at r1
    subst r1
    obtain ⟨ho, eo, dx, gs, rfl, hg⟩ := v1 a _ hm
    exact ⟨a, dx, gs, rfl, eo, repP_none hg hl, [.ref a], M1, Q, Reps.cons (by simp only [Rep]) Reps.nil, v1, q, hk.ext e1⟩
  | _ => exact (show False from q).elim
def numsFrom (lo : Int) (n : Nat) : List RV := (List.range n).map fun (i : Nat) => RV.int (lo + (i : Int))
theorem numsFrom_len (lo : Int) (n : Nat) : (numsFrom lo n).length = n := by simp [numsFrom]
theorem itr2_of {K : PySem.W.Frag} {H1 : Hp} (lo : Int) (n : Nat) : ItOf K (Itr lo n) (numsFrom lo n) H1 where
  turn := fun i H e x hx => by
    have hi : i < n := by have := (List.getElem?_eq_some_iff.mp hx).1; rw [numsFrom_len] at this; exact this
    have hx' : x = .int (lo + (i : Int)) := by simp [numsFrom, hi] at hx; exact hx.symm
    subst hx'
    refine ⟨hi, fun v' H' y => ?_⟩
    obtain ⟨rfl, rfl⟩ := y
    exact ⟨.refl _, fun _ w => w, by simp only [Rep]⟩
  stop := fun i H e hi => by rw [numsFrom_len] at hi; exact hi
def rRngI2 (Q : List RV → RM → Prop) : List RV → RM → Prop := fun rs M => match rs with
  | [.int i, .int j] => (-(2 ^ 62) ≤ i ∧ i < 2 ^ 62 ∧ -(2 ^ 62) ≤ j ∧ j < 2 ^ 62) ∧ Q (numsFrom i (j - i).toNat) M
  | _ => False
def rItR2 (t1 t2 : RTE) : RTI := fun σ M Q => rCons t1 (rCons t2 rNil) σ M (rRngI2 Q)
theorem irange2 (hm : X.mg "range" = none) (ha : RPE X a t1) (hb : RPE X b t2) (hgl : Gl X "range" := by rfl) (hst : starEach [a, b] X.env = [(false, eval a X.env), (false, eval b X.env)] := by rfl) (hs2 : starEach [b] X.env = [(false, eval b X.env)] := by rfl)
    (he1 : starEach [a, b] X.env = (false, eval a X.env) :: starEach [b] X.env := by rfl) (he2 : starEach [b] X.env = (false, eval b X.env) :: starEach [] X.env := by rfl) : RPI X tg (.Call (.Name "range" p) [a, b] [] pos) (rItR2 t1 t2) :=
  PI.imp (pi_range2 hgl hm (acons ha (acons hb anil he2) he1) hst hs2) fun σ0 H R h => by
  obtain ⟨σ, M, Q, hs, hv, ht, hk⟩ := h
  refine ⟨σ, M, rRngI2 Q, hs, hv, ht, fun rs M1 vs H1 q e1 v1 r1 => ?_⟩
  unfold rRngI2 at q
  split at q
  · rename_i i j
    obtain ⟨q1, q⟩ := q
    simp only [Reps, Rep] at r1
    obtain ⟨v, r, rfl, rfl, v', r', rfl, rfl, rfl⟩ := r1
    exact ⟨i, j, rfl, q1, hk _ M1 _ H1 q e1 v1 (itr2_of _ _)⟩
  · exact q.elim
end
end R
set_option Elab.async false
set_option linter.all false
set_option maxRecDepth 100000
set_option maxHeartbeats 1000000
namespace R.MU
open PySem PySem.Spec PyProof.Rows L2 R
def rCompL (tt : RTT) (te : RTE) (base : List (Option RV)) : List RV → List RV → RM → RVK → Prop
  | [], acc, M, Q => ∀ p, M p = none → Q (.ref p) (put M p (.lst acc))
  | x :: r, acc, M, Q => tt (some x :: base) M fun ok M1 => (ok = true → te (some x :: base) M1 fun v M2 => rCompL tt te base r (acc ++ [v]) M2 Q) ∧ (ok = false → rCompL tt te base r acc M1 Q)
def rComp (ti : RTI) (cap : List Nat) (tt : RTT) (te : RTE) : RTE := fun σ M Q => ti σ M fun xs M1 => xs.length < sizeLine ∧ rCompL tt te (cap.map fun i => (σ[i]?).join) xs [] M1 Q
section
variable {X : Cx}
theorem rcomp {elt iter : Expr} {x : Str} {px : Pos} {scope : Scope} {pos : Pos} {ti : RTI} {tt : RTT} {te : RTE} {ifs : List Expr} (caps : List (Nat × Str)) {osc : Scope} {oN : List Str}
    (hc : X.calm = true) (hi : RPI X (.Name x px) iter ti)
    (hif : ∀ cl C s H fp, RPTs (blk X scope cl C (x :: caps.map Prod.snd) s H fp) ifs tt)
    (hel : ∀ cl C s H fp, RPE (blk X scope cl C (x :: caps.map Prod.snd) s H fp) elt te)
    (hX : X.env.scope = osc) (hN : X.N = oN)
    (hcaps : ∀ p ∈ caps, oN[p.1]? = some p.2 ∧ scope.names.lookup p.2 = some .free ∧ (osc.names.lookup p.2 = some .cell ∨ osc.names.lookup p.2 = some .free))
    (hfr : ∀ y ∈ scope.names, y.2 = .free → (osc.names.lookup y.1 = some .cell ∨ osc.names.lookup y.1 = some .free))
    (hcell : ∀ y ∈ scope.names, y.2 ≠ .cell) (hkind : scope.kind = .function) (hnames : ∀ y ∈ scope.names, y.2 = .local → scope.names.lookup y.1 = some .local) (hx : scope.names.lookup x = some .local) (hnd : (x :: caps.map Prod.snd).Nodup)
    (hs : ∀ v, foldedSetIterable iter X.env v = pure v := by intro _; rfl) :
    RPE X (.ListComp elt [⟨.Name x px, iter, ifs, 0⟩] scope pos) (rComp ti (caps.map Prod.fst) tt te) := by
  subst hX; subst hN
  intro pins s σ0 H Q0 I hw
  obtain ⟨σ, M, Q, hst, hv, ht, hk⟩ := hw
  obtain ⟨cl, hclos, hcl1, hcl2⟩ := closure_ok scope fun y hy hf => I.ok.has y.1 (hfr y hy hf)
  rw [eval_ListComp]
  refine wpAny_comprehension_free (use := none) (cl := cl) rfl hs hclos hkind hnames ?_
  refine wpAny_mono (hi pins s σ0 H (fun J H1 => ∃ xs M1, Ext H H1 ∧ View X.K H1 M1 ∧ ItOf X.K J xs H1 ∧ xs.length < sizeLine ∧ rCompL tt te ((caps.map Prod.fst).map fun i => (σ[i]?).join) xs [] M1 Q) I ⟨σ, M, _, hst, hv, ht, fun xs M' J H' q e w hJ => ⟨xs, M', e, w, hJ, q.1, q.2⟩⟩)
    (fun v s1 h1 => wpAny_mono h1 (fun itv s2 h2 => ?_) fun _ _ e => e) fun _ _ e => e
  obtain ⟨it, fp, tn, J, H2, rfl, I2, T, st2, f2, xs, M1, e2, w2, hJ, hz, hq⟩ := h2
  have flt : ∀ b ∈ fp, b < s2.heap.objs.size := fun b hb => by obtain ⟨o, e, _⟩ := T.obj _ _ st2 b hb; exact Heap.lt_size e
  -- the list and the frame of the block
  refine wpAny_newObj_type (wpAny_newFunctionEnv hcell (by intro y hy; simp at hy) (fun h₁ hns₁ hsb₁ => ?_) hkind)
  dsimp only at hns₁ hsb₁ ⊢
  generalize hH2 : s2.heap.push { cls := .type "list", dict := none, data := .seq ([] : List Value).toArray } = hp2 at hns₁ hsb₁ ⊢
  have hCs : hp2.objs.size = s2.heap.objs.size + 1 := by rw [← hH2, Heap.size_push]
  have hDC : s2.heap.objs.size ≠ hp2.objs.size := by rw [hCs]; exact Nat.ne_of_lt (Nat.lt_succ_self _)
  have hCle : s2.heap.objs.size ≤ hp2.objs.size := by rw [hCs]; exact Nat.le_succ _
  have old : ∀ b o, s2.heap.get? b = some o → h₁.get? b = some o := fun b o e => hsb₁.extBut b o (Nat.ne_of_lt (by rw [hCs]; exact Nat.lt_succ_of_lt (Heap.lt_size e))) (Heap.get?_push_of_some _ (hH2 ▸ Heap.get?_push_of_some _ e))
  have hacc : h₁.get? s2.heap.objs.size = some { cls := .type "list", data := .seq ([] : List Value).toArray } := hsb₁.extBut _ _ hDC (Heap.get?_push_of_some _ (hH2 ▸ Heap.get?_push_size _ rfl))
  generalize hD : s2.heap.objs.size = D at *
  generalize hCg : hp2.objs.size = C at *
  have hDfp : ∀ b ∈ fp, b ≠ D := fun b hb => Nat.ne_of_lt (flt b hb)
  have okB : (blk X scope cl C (x :: caps.map Prod.snd) s2 H2 fp).Ok := blk_ok I2 f2 (by rw [hD]; exact flt) hkind (by rw [hD]; exact hCle) hcl1 hcl2 hcell
  have fr : ∀ b, D ≤ b → H2 b = none := fun b hb => I2.hok.fresh (by rw [hD]; exact hb)
  -- the captured values
  have capsV : ∃ cv : List (Option V), cv.length = caps.length ∧ (∀ (j : Nat) v, cv[j]? = some (some v) → ∃ p, caps[j]? = some p ∧ σ0[p.1]? = some (some v)) ∧
      ∀ (j : Nat) r, ((caps.map Prod.fst).map fun i => (σ[i]?).join)[j]? = some (some r) → ∃ v, cv[j]? = some (some v) ∧ Rep X.K H2 r v := by
    refine ⟨caps.map fun p => (σ0[p.1]?).join, by simp, fun j v e => ?_, fun j r e => ?_⟩
    · rw [List.getElem?_map] at e
      cases q : caps[j]? with
      | none => rw [q] at e; cases e
      | some p =>
        rw [q] at e
        have e' : (σ0[p.1]?).join = some v := Option.some.inj e
        refine ⟨p, rfl, ?_⟩
        cases z : σ0[p.1]? with
        | none => rw [z] at e'; cases e'
        | some o => rw [z] at e'; have : o = some v := e'; rw [this]
    · rw [List.getElem?_map, List.getElem?_map] at e
      cases q : caps[j]? with
      | none => rw [q] at e; cases e
      | some p =>
        rw [q] at e
        have e' : (σ[p.1]?).join = some r := Option.some.inj e
        have e'' : σ[p.1]? = some (some r) := by
          cases z : σ[p.1]? with
          | none => rw [z] at e'; cases e'
          | some o => rw [z] at e'; have : o = some r := e'; rw [this]
        obtain ⟨v, h1, h2⟩ := hst.2 p.1 r e''
        refine ⟨v, ?_, Rep.ext e2 r v h2⟩
        rw [List.getElem?_map, q]
        show some ((σ0[p.1]?).join) = _
        rw [h1]; rfl
  obtain ⟨cv, cvl, cv1, cv2⟩ := capsV
  -- the block's state at its start
  have I3 : Inv (blk X scope cl C (x :: caps.map Prod.snd) s2 H2 fp) [(D, { cls := .type "list", data := .seq ([] : List Value).toArray })] (none :: cv) H2 { s2 with heap := h₁, toks := s2.toks + ([] : List (Str × Value)).length } := by
    refine ⟨okB, rfl, I2.bare, Un.kept old, ⟨_, hns₁, fun i y v a b c => ?_⟩, fun y c e => ?_, fr C hCle, fun y c e => I2.freeC y c (hcl1 y c e), fun p hp => ?_, I2.hok.kept old, ?_⟩
    · cases i with
      | zero => cases b
      | succ j =>
        obtain ⟨p, q1, q2⟩ := cv1 j v b
        have hy : p.2 = y := by
          have a' : (caps.map Prod.snd)[j]? = some y := a
          rw [List.getElem?_map, q1] at a'
          exact Option.some.inj a'
        subst hy
        obtain ⟨z1, z2, z3⟩ := hcaps p (List.mem_of_getElem? q1)
        obtain ⟨m, hn, hl⟩ := I2.loc
        have vis : Vis X.env.scope p.2 := by rcases z3 with z | z; exact .inr (.inl z); exact .inr (.inr z)
        obtain ⟨u, ru, lk⟩ := hl p.1 p.2 v z1 q2 vis
        refine ⟨u, ru, .inr ⟨relabel_free z2, ?_⟩⟩
        obtain ⟨c, ec⟩ := hcl2 (p.2, .free) (PySem.mem_of_lookup z2) rfl
        have ec' := hcl1 p.2 c ec
        rcases lk with ⟨k, _⟩ | ⟨_, c', e', ic⟩
        · have k' : X.env.scope.names.lookup p.2 = some .local := k
          rcases z3 with z | z <;> (rw [z] at k'; cases k')
        · rw [ec'] at e'; cases e'
          obtain ⟨o, ho, hd⟩ := ic
          exact ⟨c, ec, o, old c o ho, hd⟩
    · obtain ⟨v, o, ho, hd⟩ := I2.cell y c (hcl1 y c e)
      exact ⟨v, o, old c o ho, hd⟩
    · have hp' : p = (D, { cls := .type "list", data := .seq ([] : List Value).toArray }) := by simpa [blk] using hp
      subst hp'
      refine ⟨hacc, fr D (Nat.le_refl _), hDC, fun z => ?_, fun v => by simp⟩
      have := I2.stkFree D z
      rcases List.mem_cons.mp (I2.stkSub D z) with e | e
      · exact absurd I2.lt (by rw [← e, hD]; exact Nat.lt_irrefl _)
      · exact I2.nofs (by rw [hD]; exact Nat.le_refl _) e
    · show (none :: cv).length = (x :: caps.map Prod.snd).length
      simp [cvl]
  -- the loop
  have W : ∀ s3 : Shared, s3 = { s2 with heap := h₁, toks := s2.toks + ([] : List (Str × Value)).length } → codeAny (model X.prog X.w) X.A (.compLoop (.ListComp elt [⟨.Name x px, iter, ifs, 0⟩] scope pos) 0 (.ref it) (.ref D) (compEnvC scope cl C X.env))
      (compPost (model X.prog X.w) X.A X.xe none (EP X pins σ0 Q0) (.ref D) C) s3 := by
    rintro s3 rfl
    refine comp_loop (fun n s' => ∃ (i : Nat) (v0 : Option V) (H' : Hp) (M' : RM) (accR : List RV) (accV : List V) (its : List Value) (k : Nat), n = xs.length - i ∧ i ≤ xs.length ∧ accR.length ≤ i ∧
        Inv (blk X scope cl C (x :: caps.map Prod.snd) s2 H2 fp) [(D, { cls := .type "list", data := .seq its.toArray k })] (v0 :: cv) H' s' ∧ View X.K H' M' ∧ Ext H2 H' ∧ Reps X.K H' accR accV ∧ Vals accV its ∧ tn i s'.heap ∧ (∀ b ∈ fp, H' b = none) ∧
        rCompL tt te ((caps.map Prod.fst).map fun i => (σ[i]?).join) (xs.drop i) accR M' Q) ?_ xs.length ⟨0, none, H2, M1, [], [], [], 0, rfl, Nat.zero_le _, Nat.le_refl _, I3, w2, .refl _, Reps.nil, .nil, T.keep _ _ _ st2 fun b _ o e => old b o e, fun b hb => (f2 b hb).1, by simpa using hq⟩
    rintro n s' ⟨i, v0, H', M', accR, accV, its, k, rfl, hi, hal, I4, w4, e4, ra, rl, st4, f4, hq4⟩
    have fpB : ∀ (pins' : List (Addr × Obj)) (H'' : Hp), (∀ b ∈ fp, H'' b = none) → (∀ p ∈ pins', ∀ b ∈ fp, p.1 ≠ b) → ∀ b ∈ fp, FpOk (blk X scope cl C (x :: caps.map Prod.snd) s2 H2 fp) pins' H'' b := fun pins' H'' h1 h2 b hb =>
      ⟨h1 b hb, (okB.exf b hb).1, okB.exfs b hb, .inl hb, (okB.exf b hb).2, fun p hp => h2 p (by simpa [blk] using hp) b hb⟩
    have pD : ∀ (o : Obj), ∀ p ∈ [(D, o)], ∀ b ∈ fp, p.1 ≠ b := fun o p hp b hb => by
      have : p = (D, o) := by simpa using hp
      subst this
      exact (hDfp b hb).symm
    by_cases hlt : i < xs.length
    · obtain ⟨hgo, hy⟩ := hJ.turn i H' e4 xs[i] (by simp)
      refine thn (T.item (blk X scope cl C (x :: caps.map Prod.snd) s2 H2 fp) rfl rfl rfl hc i _ s' _ H' Nv I4 (fpB _ _ f4 (pD _)) st4 hgo) fun r s5 ⟨u, hr, h5⟩ => .inr ⟨u, hr, ?_⟩
      refine thn h5 fun _ s6 ⟨xv, H6, I6, r6, y6, st6, f6⟩ => ?_
      obtain ⟨e6, w6, rr6⟩ := hy xv H6 y6
      have I6' := I6.pinned (fpB _ _ f6 (pD _)) (T.obj _ _ st6)
      refine thn (pg_name (X := blk X scope cl C (x :: caps.map Prod.snd) s2 H2 fp) (i := 0) hnd rfl (.inl (lookup_relabel_local hx)) (.inr (lookup_relabel_local hx)) _ s6 _ H6 xv u (fun σ' H' => σ' = (some xv :: cv) ∧ H' = H6) I6' r6 ⟨rfl, rfl⟩) fun _ s7 ⟨σ7, H7, I7, q7, q7'⟩ => ?_
      obtain rfl := q7
      subst q7'
      have ed : xs.drop i = xs[i] :: xs.drop (i + 1) := by simp
      rw [ed] at hq4
      have base : ∀ {Hx : Hp}, Ext H7 Hx → RepSt X.K Hx (some xs[i] :: (caps.map Prod.fst).map fun i => (σ[i]?).join) (some xv :: cv) := fun {Hx} ex => by
        refine ⟨by simp [cvl], fun j r e => ?_⟩
        cases j with
        | zero =>
          have e' : xs[i] = r := by simpa using e
          subst e'
          exact ⟨xv, rfl, Rep.ext ex _ _ rr6⟩
        | succ j =>
          obtain ⟨v, a, b⟩ := cv2 j r (by simpa using e)
          exact ⟨v, by simpa using a, Rep.ext (e4.trans (e6.trans ex)) r v b⟩
      have next : ∀ (M8 : RM) (H8 : Hp) (s8 : Shared) (accR' : List RV) (accV' : List V) (its' : List Value) (k' : Nat), accR'.length ≤ i + 1 →
          Inv (blk X scope cl C (x :: caps.map Prod.snd) s2 H2 fp) ([(D, { cls := .type "list", data := .seq its'.toArray k' })] ++ pinsAt fp s6.heap) (some xv :: cv) H8 s8 → View X.K H8 M8 → Ext H7 H8 → Reps X.K H8 accR' accV' → Vals accV' its' →
          rCompL tt te ((caps.map Prod.fst).map fun i => (σ[i]?).join) (xs.drop (i + 1)) accR' M8 Q → ∃ m, m < xs.length - i ∧ ∃ (i : Nat) (v0 : Option V) (H' : Hp) (M' : RM) (accR : List RV) (accV : List V) (its : List Value) (k : Nat), m = xs.length - i ∧ i ≤ xs.length ∧ accR.length ≤ i ∧
        Inv (blk X scope cl C (x :: caps.map Prod.snd) s2 H2 fp) [(D, { cls := .type "list", data := .seq its.toArray k })] (v0 :: cv) H' s8 ∧ View X.K H' M' ∧ Ext H2 H' ∧ Reps X.K H' accR accV ∧ Vals accV its ∧ tn i s8.heap ∧ (∀ b ∈ fp, H' b = none) ∧
        rCompL tt te ((caps.map Prod.fst).map fun i => (σ[i]?).join) (xs.drop i) accR M' Q := by
        intro M8 H8 s8 accR' accV' its' k' hl' I8 w8 e8 ra' rl' hq8
        have keep8 : ∀ b ∈ fp, ∀ o, s6.heap.get? b = some o → s8.heap.get? b = some o ∧ H8 b = none := fun b hb o e => by
          have := I8.pin (b, o) (List.mem_append_right _ (List.mem_append_right _ (mem_pinsAt hb e)))
          exact ⟨this.1, this.2.1⟩
        refine ⟨xs.length - (i + 1), by omega, i + 1, some xv, H8, M8, accR', accV', its', k', rfl, hlt, hl', I8.unpinned, w8, e4.trans (e6.trans e8), ra', rl', T.keep _ _ _ st6 fun b hb o e => (keep8 b hb o e).1, fun b hb => ?_, hq8⟩
        obtain ⟨o, e, _⟩ := T.obj _ _ st6 b hb
        exact (keep8 b hb o e).2
      refine thn (hif cl C s2 H2 fp _ s7 _ H7 (fun ok H8 => ∃ M8, View X.K H8 M8 ∧ Ext H7 H8 ∧ (ok = true → te (some xs[i] :: (caps.map Prod.fst).map fun i => (σ[i]?).join) M8 fun v M2 => rCompL tt te ((caps.map Prod.fst).map fun i => (σ[i]?).join) (xs.drop (i + 1)) (accR ++ [v]) M2 Q) ∧
        (ok = false → rCompL tt te ((caps.map Prod.fst).map fun i => (σ[i]?).join) (xs.drop (i + 1)) accR M8 Q)) I7 ⟨_, M', _, base (.refl _), w6 M' w4, hq4, fun b M8 H8 q e w => ⟨M8, w, e, q.1, q.2⟩⟩) fun ok s8 ⟨H8, I8, M8, w8, e8, qt, qf⟩ => ?_
      cases ok with
      | false =>
        exact next M8 H8 s8 accR accV its k (by omega) I8 w8 e8 (Reps.ext (e6.trans e8) _ _ ra) rl (qf rfl)
      | true =>
        refine thn (hel cl C s2 H2 fp _ s8 _ H8 (fun v H9 => ∃ rv M9, View X.K H9 M9 ∧ Ext H8 H9 ∧ Rep X.K H9 rv v ∧ rCompL tt te ((caps.map Prod.fst).map fun i => (σ[i]?).join) (xs.drop (i + 1)) (accR ++ [rv]) M9 Q) I8 ⟨_, M8, _, base e8, w8, qt rfl, fun rv M9 v H9 q e w r => ⟨rv, M9, w, e, r, q⟩⟩) fun y s9 ⟨yv, H9, I9, r9, rv, M9, w9, e9, rr9, hq9⟩ => ?_
        have pD9 := I9.pin (D, { cls := .type "list", data := .seq its.toArray k }) (List.mem_append_right _ (List.mem_append_left _ List.mem_cons_self))
        have hlen : its.length ≤ i := by rw [← rl.length, ← ra.length]; exact hal
        refine call_meets F.slot_list_append ⟨_, pD9.1, rfl⟩ F.entry_list_append (F.args_list_append_2 _ _) (PySem.list_append D its.toArray k y (by rw [List.size_toArray]; omega)) ⟨pD9.1, ?_⟩
        have q := PySem.IsL.update pD9.1 (fun x_1 => x_1.push y)
        have hpush : its.toArray.push y = (its ++ [y]).toArray := by simp
        rw [hpush] at q
        obtain ⟨k', q⟩ : ∃ k', (s9.heap.update D (Obj.mapSeq fun x_1 => x_1.push y)).get? D = some { cls := .type "list", data := .seq (its ++ [y]).toArray k' } := ⟨_, q⟩
        have I10 : Inv (blk X scope cl C (x :: caps.map Prod.snd) s2 H2 fp) (pinsAt fp s6.heap) (some xv :: cv) H9 { s9 with heap := s9.heap.update D (Obj.mapSeq fun x_1 => x_1.push y), toks := s9.toks } := by
          refine Inv.turned (it := D) (I9.pins_of fun p hp => I9.pin p (List.mem_append_right _ (List.mem_append_right _ hp))) (fun b o hb e => (Heap.get?_update_other _ _ (Ne.symm hb)).trans e) pD9.2.1 pD9.2.2.1 (.inr (by show s2.heap.objs.size ≤ D; rw [hD]; exact Nat.le_refl _)) (fun z c e => ?_) fun p hp => ?_
          · obtain ⟨v, o, ho, hd⟩ := I2.cell z c (hcl1 z c e)
            exact Nat.ne_of_lt (by have := Heap.lt_size ho; rw [hD] at this; exact this)
          · have hp' : p ∈ pinsAt fp s6.heap := by simpa [blk] using hp
            exact hDfp p.1 (of_pinsAt hp').1
        have I11 : Inv (blk X scope cl C (x :: caps.map Prod.snd) s2 H2 fp) ([(D, { cls := .type "list", data := .seq (its ++ [y]).toArray k' })] ++ pinsAt fp s6.heap) (some xv :: cv) H9 { s9 with heap := s9.heap.update D (Obj.mapSeq fun x_1 => x_1.push y), toks := s9.toks } := by
          refine I10.pins_of fun p hp => ?_
          rcases List.mem_append.mp hp with hp | hp
          · have : p = (D, { cls := .type "list", data := .seq (its ++ [y]).toArray k' }) := by simpa using hp
            subst this
            exact ⟨q, pD9.2.1, pD9.2.2.1, pD9.2.2.2.1, fun v => by simp⟩
          · exact I10.pin p (List.mem_append_right _ hp)
        exact next M9 H9 _ (accR ++ [rv]) (accV ++ [yv]) (its ++ [y]) k' (by rw [List.length_append, List.length_singleton]; omega) I11 w9 (e8.trans e9) ((Reps.ext (e6.trans (e8.trans e9)) _ _ ra).append (Reps.cons rr9 Reps.nil)) (rl.append (.cons r9 .nil)) hq9
    · have ei : i = xs.length := by omega
      subst ei
      refine thn (T.done (blk X scope cl C (x :: caps.map Prod.snd) s2 H2 fp) rfl rfl rfl hc _ _ s' _ H' Nv I4 (fpB _ _ f4 (pD _)) st4 (hJ.stop _ H' e4 (Nat.le_refl _))) fun r s5 ⟨hr, I5⟩ => .inl ⟨hr, ?_⟩
      rw [List.drop_length] at hq4
      obtain ⟨m5, hn5, _⟩ := I5.loc
      refine ⟨m5, hn5, fun h' sb => ?_⟩
      have pD5 := I5.pin (D, { cls := .type "list", data := .seq its.toArray k }) (List.mem_append_right _ List.mem_cons_self)
      have hDh : h'.get? D = some { cls := .type "list", data := .seq its.toArray k } := sb.extBut _ _ hDC pD5.1
      have hC5 : H' C = none := I5.free
      have hz' : accV.length ≤ sizeLine := by rw [← ra.length]; omega
      have hok5 : HOk X.prog X.w (upd H' D (.lst accV)) h' := fun b u q => by
        by_cases hb : b = D
        · subst hb; rw [upd_same] at q; cases q
          exact ⟨hz', its, k, rl, hDh⟩
        · rw [upd_ne hb] at q
          refine (I5.hok b u q).stay (fun c v hcb e => sb.extBut c v ?_ e) (fun c e => ?_) fun c ys e => ?_
          · rcases hcb with rfl | e'
            · exact ne_of_none q hC5
            · exact ne_of_none e' hC5
          · rw [upd_ne (ne_of_none e pD5.2.1)]; exact e
          · rw [upd_ne (ne_of_none e pD5.2.1)]; exact e
      have un5 : Un (frs X.stack) fp H2 (upd H' D (.lst accV)) s2.heap h' := by
        have B : Un (frs X.stack) fp H2 H' s2.heap s5.heap := I5.base
        have nC : ∀ b o, s2.heap.get? b = some o → b ≠ C := fun b o e => Nat.ne_of_lt (Nat.lt_of_lt_of_le (Heap.lt_size e) (by rw [hD]; exact hCle))
        have nD : ∀ b o, s2.heap.get? b = some o → b ≠ D := fun b o e => Nat.ne_of_lt (by have := Heap.lt_size e; rw [hD] at this; exact this)
        refine ⟨fun b o a1 a2 a3 a4 => sb.extBut b o (nC b o a1) (B.keep b o a1 a2 a3 a4), fun b o a1 a2 a3 a4 => ?_, fun b o a1 a2 a4 => ?_, fun b o a1 a4 => ?_, fun b ys a => ?_, fun b o u a => ?_, fun b ps a => ?_⟩
        · obtain ⟨sl, e⟩ := B.slot b o a1 a2 a3 a4
          exact ⟨sl, sb.extBut b _ (nC b o a1) e⟩
        · rw [upd_ne (nD b o a1)]; exact B.free b o a1 a2 a4
        · obtain ⟨o', e⟩ := B.there b o a1 a4
          exact ⟨o', sb.extBut b o' (nC b o a1) e⟩
        · have e := B.tups b ys a; rw [upd_ne (ne_of_none e pD5.2.1)]; exact e
        · have e := B.frzs b o u a; rw [upd_ne (ne_of_none e pD5.2.1)]; exact e
        · obtain ⟨more, e⟩ := B.tbls b ps a; exact ⟨more, by rw [upd_ne (ne_of_none e pD5.2.1)]; exact e⟩
      have I6 : Inv X pins σ0 (upd H' D (.lst accV)) { s5 with heap := h' } := I2.call' (ch := fp) I5.os un5 hok5 I5.bare fun b hb => ⟨(f2 b hb).2.2.2.1, (f2 b hb).2.1, (f2 b hb).2.2.2.2.1, (f2 b hb).2.2.2.2.2⟩
      refine ⟨.ref D, _, I6, rfl, hk _ _ _ _ (hq4 D (w4.free pD5.2.1)) ((e2.trans e4).trans (Ext.new pD5.2.1)) (w4.newPut pD5.2.1 ⟨accV, rfl, Reps.ext (Ext.new pD5.2.1) _ _ ra⟩) (by simp only [Rep])⟩
  exact codeAny_compStart_list (W _ rfl) (T.self X.A 0 _ _ _ (T.keep _ _ _ st2 fun b _ o e => old b o e) (W _ rfl))
end
end R.MU
set_option Elab.async false
set_option linter.all false
set_option maxRecDepth 100000
set_option maxHeartbeats 1000000
namespace R.OV
open PySem PySem.Spec PyProof.Rows L2 R
def rCompL (tt : RTT) (te : RTE) (base : List (Option RV)) (p : Addr) (all : List RV) : List RV → List RV → RM → RVK → Prop
  | [], acc, M, Q => M p = some (.lst all) ∧ Q (.ls acc) M
  | x :: r, acc, M, Q => M p = some (.lst all) ∧ tt (some x :: base) M fun ok M1 => (ok = true → te (some x :: base) M1 fun v M2 => rCompL tt te base p all r (acc ++ [v]) M2 Q) ∧ (ok = false → rCompL tt te base p all r acc M1 Q)
def kComp (cap : List Nat) (tt : RTT) (te : RTE) (σ : RSt) (Q : RVK) : RVK := fun v M1 => match v with
  | .ref p => ∃ xs, M1 p = some (.lst xs) ∧ xs.length < sizeLine ∧ rCompL tt te (cap.map fun i => (σ[i]?).join) p xs xs [] M1 Q
  | _ => False
def rComp (tl : RTE) (cap : List Nat) (tt : RTT) (te : RTE) : RTE := fun σ M Q => tl σ M (kComp cap tt te σ Q)
theorem head_at {tt : RTT} {te : RTE} {base : List (Option RV)} {p : Addr} {all rs acc : List RV} {M : RM} {Q : RVK} (h : rCompL tt te base p all rs acc M Q) : M p = some (.lst all) := by
  cases rs with
  | nil => exact h.1
  | cons x r => exact h.1
section
variable {X : Cx}
theorem rcomp {elt iter : Expr} {x : Str} {px : Pos} {scope : Scope} {pos : Pos} {ti : RTE} {tt : RTT} {te : RTE} {ifs : List Expr} (caps : List (Nat × Str)) {osc : Scope} {oN : List Str}
    (hc : X.calm = true) (hi : RPE X iter ti)
    (hif : ∀ cl C s H fp, RPTs (blk X scope cl C (x :: caps.map Prod.snd) s H fp) ifs tt)
    (hel : ∀ cl C s H fp, RPE (blk X scope cl C (x :: caps.map Prod.snd) s H fp) elt te)
    (hX : X.env.scope = osc) (hN : X.N = oN)
    (hcaps : ∀ p ∈ caps, oN[p.1]? = some p.2 ∧ scope.names.lookup p.2 = some .free ∧ (osc.names.lookup p.2 = some .cell ∨ osc.names.lookup p.2 = some .free))
    (hfr : ∀ y ∈ scope.names, y.2 = .free → (osc.names.lookup y.1 = some .cell ∨ osc.names.lookup y.1 = some .free))
    (hcell : ∀ y ∈ scope.names, y.2 ≠ .cell) (hkind : scope.kind = .function) (hnames : ∀ y ∈ scope.names, y.2 = .local → scope.names.lookup y.1 = some .local) (hx : scope.names.lookup x = some .local) (hnd : (x :: caps.map Prod.snd).Nodup)
    (hs : ∀ v, foldedSetIterable iter X.env v = pure v := by intro _; rfl) :
    RPE X (.ListComp elt [⟨.Name x px, iter, ifs, 0⟩] scope pos) (rComp ti (caps.map Prod.fst) tt te) := by
  subst hX; subst hN
  intro pins s σ0 H Q0 I hw
  obtain ⟨σ, M, Q, hst, hv, ht, hk⟩ := hw
  obtain ⟨cl, hclos, hcl1, hcl2⟩ := closure_ok scope fun y hy hf => I.ok.has y.1 (hfr y hy hf)
  rw [eval_ListComp]
  refine wpAny_comprehension_free (use := none) (cl := cl) rfl hs hclos hkind hnames ?_
  have it0 : wpAny (model X.prog X.w) X.A (eval iter X.env) (fun v s1 => wpAny (model X.prog X.w) X.A (pyIter v) (fun itv s2 => ∃ (it : Addr) (p : Addr) (xs : List RV) (H2 : Hp) (M1 : RM), itv = .ref it ∧ Inv X pins σ0 H2 s2 ∧ s2.heap.IsListIter it p 0 ∧ (∀ b ∈ [it], FpOk X pins H2 b) ∧ Ext H H2 ∧ View X.K H2 M1 ∧ xs.length < sizeLine ∧ rCompL tt te ((caps.map Prod.fst).map fun i => (σ[i]?).join) p xs xs [] M1 Q) X.xe s1) X.xe s := by
    refine thn (hi pins s σ0 H (fun v H1 => ∃ r M1, Rep X.K H1 r v ∧ Ext H H1 ∧ View X.K H1 M1 ∧ kComp (caps.map Prod.fst) tt te σ Q r M1) I ⟨σ, M, _, hst, hv, ht, fun r M1 v H1 q e w r1 => ⟨r, M1, r1, e, w, q⟩⟩) fun iv s1 ⟨y, H1, I1, ry, r, M1, rr, e1, w1, q1⟩ => ?_
    cases r with
    | ref p =>
      obtain ⟨xs, hm, hz, q1⟩ := q1
      simp only [Rep] at rr
      subst rr
      cases ry
      obtain ⟨ho, e0, r0⟩ := w1 p _ hm
      obtain ⟨vs, rfl, rvs⟩ := r0
      obtain ⟨its, rv, pl, hz'⟩ := I1.list (SqL.of e0)
      refine wpAny_pyIter_list pl.isList ?_
      refine ⟨s1.heap.objs.size, p, xs, H1, M1, rfl, I1.kept (t' := s1.toks) fun b o e => Heap.get?_push_of_some _ e, ⟨_, Heap.get?_push_size _ rfl, rfl, rfl⟩, fun b hb => ?_, e1, w1, hz, q1⟩
      have e : b = s1.heap.objs.size := by simpa using hb
      subst e
      exact I1.fpOk (Nat.le_refl _) (I1.hok.fresh (Nat.le_refl _))
    | _ => exact (show False from q1).elim
  refine wpAny_mono it0 (fun v s1 h1 => wpAny_mono h1 (fun itv s2 h2 => ?_) fun _ _ e => e) fun _ _ e => e
  obtain ⟨it, lp, xs, H2, M1, rfl, I2, st2, f2, e2, w2, hz, hq⟩ := h2
  have T : Turn X.prog X.w X.K (.Name x px) (Itl X.K lp) [it] it (fun i h => h.IsListIter it lp i) := turn_list lp it
  generalize hfp : [it] = fp at T f2
  generalize htn : (fun (i : Nat) (h : Heap) => h.IsListIter it lp i) = tn at T
  have st2 : tn 0 s2.heap := by rw [← htn]; exact st2
  have flt : ∀ b ∈ fp, b < s2.heap.objs.size := fun b hb => by obtain ⟨o, e, _⟩ := T.obj _ _ st2 b hb; exact Heap.lt_size e
  -- the list and the frame of the block
  refine wpAny_newObj_type (wpAny_newFunctionEnv hcell (by intro y hy; simp at hy) (fun h₁ hns₁ hsb₁ => ?_) hkind)
  dsimp only at hns₁ hsb₁ ⊢
  generalize hH2 : s2.heap.push { cls := .type "list", dict := none, data := .seq ([] : List Value).toArray } = hp2 at hns₁ hsb₁ ⊢
  have hCs : hp2.objs.size = s2.heap.objs.size + 1 := by rw [← hH2, Heap.size_push]
  have hDC : s2.heap.objs.size ≠ hp2.objs.size := by rw [hCs]; exact Nat.ne_of_lt (Nat.lt_succ_self _)
  have hCle : s2.heap.objs.size ≤ hp2.objs.size := by rw [hCs]; exact Nat.le_succ _
  have old : ∀ b o, s2.heap.get? b = some o → h₁.get? b = some o := fun b o e => hsb₁.extBut b o (Nat.ne_of_lt (by rw [hCs]; exact Nat.lt_succ_of_lt (Heap.lt_size e))) (Heap.get?_push_of_some _ (hH2 ▸ Heap.get?_push_of_some _ e))
  have hacc : h₁.get? s2.heap.objs.size = some { cls := .type "list", data := .seq ([] : List Value).toArray } := hsb₁.extBut _ _ hDC (Heap.get?_push_of_some _ (hH2 ▸ Heap.get?_push_size _ rfl))
  generalize hD : s2.heap.objs.size = D at *
  generalize hCg : hp2.objs.size = C at *
  have hDfp : ∀ b ∈ fp, b ≠ D := fun b hb => Nat.ne_of_lt (flt b hb)
  have okB : (blk X scope cl C (x :: caps.map Prod.snd) s2 H2 fp).Ok := blk_ok I2 f2 (by rw [hD]; exact flt) hkind (by rw [hD]; exact hCle) hcl1 hcl2 hcell
  have fr : ∀ b, D ≤ b → H2 b = none := fun b hb => I2.hok.fresh (by rw [hD]; exact hb)
  -- the captured values
  have capsV : ∃ cv : List (Option V), cv.length = caps.length ∧ (∀ (j : Nat) v, cv[j]? = some (some v) → ∃ p, caps[j]? = some p ∧ σ0[p.1]? = some (some v)) ∧
      ∀ (j : Nat) r, ((caps.map Prod.fst).map fun i => (σ[i]?).join)[j]? = some (some r) → ∃ v, cv[j]? = some (some v) ∧ Rep X.K H2 r v := by
    refine ⟨caps.map fun p => (σ0[p.1]?).join, by simp, fun j v e => ?_, fun j r e => ?_⟩
    · rw [List.getElem?_map] at e
      cases q : caps[j]? with
      | none => rw [q] at e; cases e
      | some p =>
        rw [q] at e
        have e' : (σ0[p.1]?).join = some v := Option.some.inj e
        refine ⟨p, rfl, ?_⟩
        cases z : σ0[p.1]? with
        | none => rw [z] at e'; cases e'
        | some o => rw [z] at e'; have : o = some v := e'; rw [this]
    · rw [List.getElem?_map, List.getElem?_map] at e
      cases q : caps[j]? with
      | none => rw [q] at e; cases e
      | some p =>
        rw [q] at e
        have e' : (σ[p.1]?).join = some r := Option.some.inj e
        have e'' : σ[p.1]? = some (some r) := by
          cases z : σ[p.1]? with
          | none => rw [z] at e'; cases e'
          | some o => rw [z] at e'; have : o = some r := e'; rw [this]
        obtain ⟨v, h1, h2⟩ := hst.2 p.1 r e''
        refine ⟨v, ?_, Rep.ext e2 r v h2⟩
        rw [List.getElem?_map, q]
        show some ((σ0[p.1]?).join) = _
        rw [h1]; rfl
  obtain ⟨cv, cvl, cv1, cv2⟩ := capsV
  -- the block's state at its start
  have I3 : Inv (blk X scope cl C (x :: caps.map Prod.snd) s2 H2 fp) [(D, { cls := .type "list", data := .seq ([] : List Value).toArray })] (none :: cv) H2 { s2 with heap := h₁, toks := s2.toks + ([] : List (Str × Value)).length } := by
    refine ⟨okB, rfl, I2.bare, Un.kept old, ⟨_, hns₁, fun i y v a b c => ?_⟩, fun y c e => ?_, fr C hCle, fun y c e => I2.freeC y c (hcl1 y c e), fun p hp => ?_, I2.hok.kept old, ?_⟩
    · cases i with
      | zero => cases b
      | succ j =>
        obtain ⟨p, q1, q2⟩ := cv1 j v b
        have hy : p.2 = y := by
          have a' : (caps.map Prod.snd)[j]? = some y := a
          rw [List.getElem?_map, q1] at a'
          exact Option.some.inj a'
        subst hy
        obtain ⟨z1, z2, z3⟩ := hcaps p (List.mem_of_getElem? q1)
        obtain ⟨m, hn, hl⟩ := I2.loc
        have vis : Vis X.env.scope p.2 := by rcases z3 with z | z; exact .inr (.inl z); exact .inr (.inr z)
        obtain ⟨u, ru, lk⟩ := hl p.1 p.2 v z1 q2 vis
        refine ⟨u, ru, .inr ⟨relabel_free z2, ?_⟩⟩
        obtain ⟨c, ec⟩ := hcl2 (p.2, .free) (PySem.mem_of_lookup z2) rfl
        have ec' := hcl1 p.2 c ec
        rcases lk with ⟨k, _⟩ | ⟨_, c', e', ic⟩
        · have k' : X.env.scope.names.lookup p.2 = some .local := k
          rcases z3 with z | z <;> (rw [z] at k'; cases k')
        · rw [ec'] at e'; cases e'
          obtain ⟨o, ho, hd⟩ := ic
          exact ⟨c, ec, o, old c o ho, hd⟩
    · obtain ⟨v, o, ho, hd⟩ := I2.cell y c (hcl1 y c e)
      exact ⟨v, o, old c o ho, hd⟩
    · have hp' : p = (D, { cls := .type "list", data := .seq ([] : List Value).toArray }) := by simpa [blk] using hp
      subst hp'
      refine ⟨hacc, fr D (Nat.le_refl _), hDC, fun z => ?_, fun v => by simp⟩
      have := I2.stkFree D z
      rcases List.mem_cons.mp (I2.stkSub D z) with e | e
      · exact absurd I2.lt (by rw [← e, hD]; exact Nat.lt_irrefl _)
      · exact I2.nofs (by rw [hD]; exact Nat.le_refl _) e
    · show (none :: cv).length = (x :: caps.map Prod.snd).length
      simp [cvl]
  -- the loop
  have W : ∀ s3 : Shared, s3 = { s2 with heap := h₁, toks := s2.toks + ([] : List (Str × Value)).length } → codeAny (model X.prog X.w) X.A (.compLoop (.ListComp elt [⟨.Name x px, iter, ifs, 0⟩] scope pos) 0 (.ref it) (.ref D) (compEnvC scope cl C X.env))
      (compPost (model X.prog X.w) X.A X.xe none (EP X pins σ0 Q0) (.ref D) C) s3 := by
    rintro s3 rfl
    refine comp_loop (fun n s' => ∃ (i : Nat) (v0 : Option V) (H' : Hp) (M' : RM) (accR : List RV) (accV : List V) (its : List Value) (k : Nat), n = xs.length - i ∧ i ≤ xs.length ∧ accR.length ≤ i ∧
        Inv (blk X scope cl C (x :: caps.map Prod.snd) s2 H2 fp) [(D, { cls := .type "list", data := .seq its.toArray k })] (v0 :: cv) H' s' ∧ View X.K H' M' ∧ Ext H2 H' ∧ Reps X.K H' accR accV ∧ Vals accV its ∧ tn i s'.heap ∧ (∀ b ∈ fp, H' b = none) ∧
        rCompL tt te ((caps.map Prod.fst).map fun i => (σ[i]?).join) lp xs (xs.drop i) accR M' Q) ?_ xs.length ⟨0, none, H2, M1, [], [], [], 0, rfl, Nat.zero_le _, Nat.le_refl _, I3, w2, .refl _, Reps.nil, .nil, T.keep _ _ _ st2 fun b _ o e => old b o e, fun b hb => (f2 b hb).1, by simpa using hq⟩
    rintro n s' ⟨i, v0, H', M', accR, accV, its, k, rfl, hi, hal, I4, w4, e4, ra, rl, st4, f4, hq4⟩
    have fpB : ∀ (pins' : List (Addr × Obj)) (H'' : Hp), (∀ b ∈ fp, H'' b = none) → (∀ p ∈ pins', ∀ b ∈ fp, p.1 ≠ b) → ∀ b ∈ fp, FpOk (blk X scope cl C (x :: caps.map Prod.snd) s2 H2 fp) pins' H'' b := fun pins' H'' h1 h2 b hb =>
      ⟨h1 b hb, (okB.exf b hb).1, okB.exfs b hb, .inl hb, (okB.exf b hb).2, fun p hp => h2 p (by simpa [blk] using hp) b hb⟩
    have pD : ∀ (o : Obj), ∀ p ∈ [(D, o)], ∀ b ∈ fp, p.1 ≠ b := fun o p hp b hb => by
      have : p = (D, o) := by simpa using hp
      subst this
      exact (hDfp b hb).symm
    by_cases hlt : i < xs.length
    · have hm4 := head_at hq4
      obtain ⟨ho4, e40, r40⟩ := w4 lp _ hm4
      obtain ⟨vs4, rfl, rvs4⟩ := r40
      obtain ⟨v4, hv4, rv4⟩ := rvs4.get (show xs[i]? = some xs[i] by simp)
      have hgo : (Itl X.K lp).go i H' := ⟨vs4, v4, SqL.of e40, hv4⟩
      have hy : ∀ v H'', (Itl X.K lp).yld i H' v H'' → Ext H' H'' ∧ (∀ M, View X.K H' M → View X.K H'' M) ∧ Rep X.K H'' xs[i] v := fun v H'' y => by
        obtain ⟨rfl, y⟩ := y
        have := y vs4 (SqL.of e40)
        rw [hv4] at this; cases this
        exact ⟨.refl _, fun _ w => w, rv4⟩
      refine thn (T.item (blk X scope cl C (x :: caps.map Prod.snd) s2 H2 fp) rfl rfl rfl hc i _ s' _ H' Nv I4 (fpB _ _ f4 (pD _)) st4 hgo) fun r s5 ⟨u, hr, h5⟩ => .inr ⟨u, hr, ?_⟩
      refine thn h5 fun _ s6 ⟨xv, H6, I6, r6, y6, st6, f6⟩ => ?_
      obtain ⟨e6, w6, rr6⟩ := hy xv H6 y6
      have I6' := I6.pinned (fpB _ _ f6 (pD _)) (T.obj _ _ st6)
      refine thn (pg_name (X := blk X scope cl C (x :: caps.map Prod.snd) s2 H2 fp) (i := 0) hnd rfl (.inl (lookup_relabel_local hx)) (.inr (lookup_relabel_local hx)) _ s6 _ H6 xv u (fun σ' H' => σ' = (some xv :: cv) ∧ H' = H6) I6' r6 ⟨rfl, rfl⟩) fun _ s7 ⟨σ7, H7, I7, q7, q7'⟩ => ?_
      obtain rfl := q7
      subst q7'
      have ed : xs.drop i = xs[i] :: xs.drop (i + 1) := by simp
      rw [ed] at hq4
      replace hq4 := hq4.2
      have base : ∀ {Hx : Hp}, Ext H7 Hx → RepSt X.K Hx (some xs[i] :: (caps.map Prod.fst).map fun i => (σ[i]?).join) (some xv :: cv) := fun {Hx} ex => by
        refine ⟨by simp [cvl], fun j r e => ?_⟩
        cases j with
        | zero =>
          have e' : xs[i] = r := by simpa using e
          subst e'
          exact ⟨xv, rfl, Rep.ext ex _ _ rr6⟩
        | succ j =>
          obtain ⟨v, a, b⟩ := cv2 j r (by simpa using e)
          exact ⟨v, by simpa using a, Rep.ext (e4.trans (e6.trans ex)) r v b⟩
      have next : ∀ (M8 : RM) (H8 : Hp) (s8 : Shared) (accR' : List RV) (accV' : List V) (its' : List Value) (k' : Nat), accR'.length ≤ i + 1 →
          Inv (blk X scope cl C (x :: caps.map Prod.snd) s2 H2 fp) ([(D, { cls := .type "list", data := .seq its'.toArray k' })] ++ pinsAt fp s6.heap) (some xv :: cv) H8 s8 → View X.K H8 M8 → Ext H7 H8 → Reps X.K H8 accR' accV' → Vals accV' its' →
          rCompL tt te ((caps.map Prod.fst).map fun i => (σ[i]?).join) lp xs (xs.drop (i + 1)) accR' M8 Q → ∃ m, m < xs.length - i ∧ ∃ (i : Nat) (v0 : Option V) (H' : Hp) (M' : RM) (accR : List RV) (accV : List V) (its : List Value) (k : Nat), m = xs.length - i ∧ i ≤ xs.length ∧ accR.length ≤ i ∧
        Inv (blk X scope cl C (x :: caps.map Prod.snd) s2 H2 fp) [(D, { cls := .type "list", data := .seq its.toArray k })] (v0 :: cv) H' s8 ∧ View X.K H' M' ∧ Ext H2 H' ∧ Reps X.K H' accR accV ∧ Vals accV its ∧ tn i s8.heap ∧ (∀ b ∈ fp, H' b = none) ∧
        rCompL tt te ((caps.map Prod.fst).map fun i => (σ[i]?).join) lp xs (xs.drop i) accR M' Q := by
        intro M8 H8 s8 accR' accV' its' k' hl' I8 w8 e8 ra' rl' hq8
        have keep8 : ∀ b ∈ fp, ∀ o, s6.heap.get? b = some o → s8.heap.get? b = some o ∧ H8 b = none := fun b hb o e => by
          have := I8.pin (b, o) (List.mem_append_right _ (List.mem_append_right _ (mem_pinsAt hb e)))
          exact ⟨this.1, this.2.1⟩
        refine ⟨xs.length - (i + 1), by omega, i + 1, some xv, H8, M8, accR', accV', its', k', rfl, hlt, hl', I8.unpinned, w8, e4.trans (e6.trans e8), ra', rl', T.keep _ _ _ st6 fun b hb o e => (keep8 b hb o e).1, fun b hb => ?_, hq8⟩
        obtain ⟨o, e, _⟩ := T.obj _ _ st6 b hb
        exact (keep8 b hb o e).2
      refine thn (hif cl C s2 H2 fp _ s7 _ H7 (fun ok H8 => ∃ M8, View X.K H8 M8 ∧ Ext H7 H8 ∧ (ok = true → te (some xs[i] :: (caps.map Prod.fst).map fun i => (σ[i]?).join) M8 fun v M2 => rCompL tt te ((caps.map Prod.fst).map fun i => (σ[i]?).join) lp xs (xs.drop (i + 1)) (accR ++ [v]) M2 Q) ∧
        (ok = false → rCompL tt te ((caps.map Prod.fst).map fun i => (σ[i]?).join) lp xs (xs.drop (i + 1)) accR M8 Q)) I7 ⟨_, M', _, base (.refl _), w6 M' w4, hq4, fun b M8 H8 q e w => ⟨M8, w, e, q.1, q.2⟩⟩) fun ok s8 ⟨H8, I8, M8, w8, e8, qt, qf⟩ => ?_
      cases ok with
      | false =>
        exact next M8 H8 s8 accR accV its k (by omega) I8 w8 e8 (Reps.ext (e6.trans e8) _ _ ra) rl (qf rfl)
      | true =>
        refine thn (hel cl C s2 H2 fp _ s8 _ H8 (fun v H9 => ∃ rv M9, View X.K H9 M9 ∧ Ext H8 H9 ∧ Rep X.K H9 rv v ∧ rCompL tt te ((caps.map Prod.fst).map fun i => (σ[i]?).join) lp xs (xs.drop (i + 1)) (accR ++ [rv]) M9 Q) I8 ⟨_, M8, _, base e8, w8, qt rfl, fun rv M9 v H9 q e w r => ⟨rv, M9, w, e, r, q⟩⟩) fun y s9 ⟨yv, H9, I9, r9, rv, M9, w9, e9, rr9, hq9⟩ => ?_
        have pD9 := I9.pin (D, { cls := .type "list", data := .seq its.toArray k }) (List.mem_append_right _ (List.mem_append_left _ List.mem_cons_self))
        have hlen : its.length ≤ i := by rw [← rl.length, ← ra.length]; exact hal
        refine call_meets F.slot_list_append ⟨_, pD9.1, rfl⟩ F.entry_list_append (F.args_list_append_2 _ _) (PySem.list_append D its.toArray k y (by rw [List.size_toArray]; omega)) ⟨pD9.1, ?_⟩
        have q := PySem.IsL.update pD9.1 (fun x_1 => x_1.push y)
        have hpush : its.toArray.push y = (its ++ [y]).toArray := by simp
        rw [hpush] at q
        obtain ⟨k', q⟩ : ∃ k', (s9.heap.update D (Obj.mapSeq fun x_1 => x_1.push y)).get? D = some { cls := .type "list", data := .seq (its ++ [y]).toArray k' } := ⟨_, q⟩
        have I10 : Inv (blk X scope cl C (x :: caps.map Prod.snd) s2 H2 fp) (pinsAt fp s6.heap) (some xv :: cv) H9 { s9 with heap := s9.heap.update D (Obj.mapSeq fun x_1 => x_1.push y), toks := s9.toks } := by
          refine Inv.turned (it := D) (I9.pins_of fun p hp => I9.pin p (List.mem_append_right _ (List.mem_append_right _ hp))) (fun b o hb e => (Heap.get?_update_other _ _ (Ne.symm hb)).trans e) pD9.2.1 pD9.2.2.1 (.inr (by show s2.heap.objs.size ≤ D; rw [hD]; exact Nat.le_refl _)) (fun z c e => ?_) fun p hp => ?_
          · obtain ⟨v, o, ho, hd⟩ := I2.cell z c (hcl1 z c e)
            exact Nat.ne_of_lt (by have := Heap.lt_size ho; rw [hD] at this; exact this)
          · have hp' : p ∈ pinsAt fp s6.heap := by simpa [blk] using hp
            exact hDfp p.1 (of_pinsAt hp').1
        have I11 : Inv (blk X scope cl C (x :: caps.map Prod.snd) s2 H2 fp) ([(D, { cls := .type "list", data := .seq (its ++ [y]).toArray k' })] ++ pinsAt fp s6.heap) (some xv :: cv) H9 { s9 with heap := s9.heap.update D (Obj.mapSeq fun x_1 => x_1.push y), toks := s9.toks } := by
          refine I10.pins_of fun p hp => ?_
          rcases List.mem_append.mp hp with hp | hp
          · have : p = (D, { cls := .type "list", data := .seq (its ++ [y]).toArray k' }) := by simpa using hp
            subst this
            exact ⟨q, pD9.2.1, pD9.2.2.1, pD9.2.2.2.1, fun v => by simp⟩
          · exact I10.pin p (List.mem_append_right _ hp)
        exact next M9 H9 _ (accR ++ [rv]) (accV ++ [yv]) (its ++ [y]) k' (by rw [List.length_append, List.length_singleton]; omega) I11 w9 (e8.trans e9) ((Reps.ext (e6.trans (e8.trans e9)) _ _ ra).append (Reps.cons rr9 Reps.nil)) (rl.append (.cons r9 .nil)) hq9
    · have ei : i = xs.length := by omega
      subst ei
      refine thn (T.done (blk X scope cl C (x :: caps.map Prod.snd) s2 H2 fp) rfl rfl rfl hc _ _ s' _ H' Nv I4 (fpB _ _ f4 (pD _)) st4 (by
        obtain ⟨ho4, e40, r40⟩ := w4 lp _ (head_at hq4)
        obtain ⟨vs4, rfl, rvs4⟩ := r40
        exact ⟨vs4, SqL.of e40, by rw [← rvs4.length]; exact Nat.le_refl _⟩)) fun r s5 ⟨hr, I5⟩ => .inl ⟨hr, ?_⟩
      rw [List.drop_length] at hq4
      replace hq4 := hq4.2
      obtain ⟨m5, hn5, _⟩ := I5.loc
      refine ⟨m5, hn5, fun h' sb => ?_⟩
      have pD5 := I5.pin (D, { cls := .type "list", data := .seq its.toArray k }) (List.mem_append_right _ List.mem_cons_self)
      have hDh : h'.get? D = some { cls := .type "list", data := .seq its.toArray k } := sb.extBut _ _ hDC pD5.1
      have hC5 : H' C = none := I5.free
      have hz' : accV.length ≤ sizeLine := by rw [← ra.length]; omega
      have hok5 : HOk X.prog X.w (upd H' D (.frz { cls := .type "list", data := .seq its.toArray k } (.lst accV))) h' := fun b u q => by
        by_cases hb : b = D
        · subst hb; rw [upd_same] at q; cases q
          exact ⟨hDh, hz', its, k, rl, hDh⟩
        · rw [upd_ne hb] at q
          refine (I5.hok b u q).stay (fun c v hcb e => sb.extBut c v ?_ e) (fun c e => ?_) fun c ys e => ?_
          · rcases hcb with rfl | e'
            · exact ne_of_none q hC5
            · exact ne_of_none e' hC5
          · rw [upd_ne (ne_of_none e pD5.2.1)]; exact e
          · rw [upd_ne (ne_of_none e pD5.2.1)]; exact e
      have un5 : Un (frs X.stack) fp H2 (upd H' D (.frz { cls := .type "list", data := .seq its.toArray k } (.lst accV))) s2.heap h' := by
        have B : Un (frs X.stack) fp H2 H' s2.heap s5.heap := I5.base
        have nC : ∀ b o, s2.heap.get? b = some o → b ≠ C := fun b o e => Nat.ne_of_lt (Nat.lt_of_lt_of_le (Heap.lt_size e) (by rw [hD]; exact hCle))
        have nD : ∀ b o, s2.heap.get? b = some o → b ≠ D := fun b o e => Nat.ne_of_lt (by have := Heap.lt_size e; rw [hD] at this; exact this)
        refine ⟨fun b o a1 a2 a3 a4 => sb.extBut b o (nC b o a1) (B.keep b o a1 a2 a3 a4), fun b o a1 a2 a3 a4 => ?_, fun b o a1 a2 a4 => ?_, fun b o a1 a4 => ?_, fun b ys a => ?_, fun b o u a => ?_, fun b ps a => ?_⟩
        · obtain ⟨sl, e⟩ := B.slot b o a1 a2 a3 a4
          exact ⟨sl, sb.extBut b _ (nC b o a1) e⟩
        · rw [upd_ne (nD b o a1)]; exact B.free b o a1 a2 a4
        · obtain ⟨o', e⟩ := B.there b o a1 a4
          exact ⟨o', sb.extBut b o' (nC b o a1) e⟩
        · have e := B.tups b ys a; rw [upd_ne (ne_of_none e pD5.2.1)]; exact e
        · have e := B.frzs b o u a; rw [upd_ne (ne_of_none e pD5.2.1)]; exact e
        · obtain ⟨more, e⟩ := B.tbls b ps a; exact ⟨more, by rw [upd_ne (ne_of_none e pD5.2.1)]; exact e⟩
      have I6 : Inv X pins σ0 (upd H' D (.frz { cls := .type "list", data := .seq its.toArray k } (.lst accV))) { s5 with heap := h' } := I2.call' (ch := fp) I5.os un5 hok5 I5.bare fun b hb => ⟨(f2 b hb).2.2.2.1, (f2 b hb).2.1, (f2 b hb).2.2.2.2.1, (f2 b hb).2.2.2.2.2⟩
      refine ⟨.ref D, _, I6, rfl, hk _ M' _ _ hq4 ((e2.trans e4).trans (Ext.new pD5.2.1)) (w4.new pD5.2.1) (rep_ls pD5.2.1 ra)⟩
  exact codeAny_compStart_list (W _ rfl) (T.self X.A 0 _ _ _ (T.keep _ _ _ st2 fun b _ o e => old b o e) (W _ rfl))
end
end R.OV
set_option Elab.async false
set_option linter.all false
set_option maxRecDepth 100000
set_option maxHeartbeats 1000000
namespace R
open PySem PySem.Spec PyProof.Rows L2
section
variable {prog : Program} {w : World} {A : Around} {E : Value → Shared → Prop} {s : Shared}
theorem ints_are : ∀ {vs : List Value} {ns : List Int}, vs.length = ns.length → (∀ (j : Nat) v, vs[j]? = some v → ∃ t, v = .int (ns.getD j 0) t) → IntsAre vs ns
  | [], [], _, _ => .nil
  | v :: vs, n :: ns, hl, h => by
    obtain ⟨t, e⟩ := h 0 v rfl
    have e : v = .int n t := e
    subst e
    exact .cons _ _ (ints_are (by simpa using hl) fun j u hu => h (j + 1) u (by simpa using hu))
theorem sorted_dict {d : Addr} {kvs : List (Key × Value)} {ns : List Int} {Q : Value → Shared → Prop} (hh : A.handled = none) (hd : s.heap.DictOf (mixKind prog w) d kvs) (lo : (d == sysModules) = false) (hk : kvs.map (·.1) = ns.map Sum.inl) (h64 : ns.length < 64)
    (h : ∀ (B : Addr) (h' : Heap) (tk e : Nat) (vs' : List Value) (ns' : List Int), (∀ b o, s.heap.get? b = some o → h'.get? b = some o) → s.heap.get? B = none → h'.get? B = some { cls := .type "list", data := .seq vs'.toArray e } → IntsAre vs' ns' → ns'.Perm ns → ns'.Pairwise (· ≤ ·) → Q (.ref B) { s with heap := h', toks := tk }) :
    wpAny (model prog w) A (call (.builtin "sorted") [.ref d]) Q E s := by
  have hlk : kvs.length = ns.length := by have := congrArg List.length hk; simpa using this
  obtain ⟨o, es, ep, g1, g2, g3, g4, g5, g6⟩ := id hd
  have hat : s.heap.DictAt (mixKind prog w) d kvs ep := ⟨o, es, g1, g2, g3, g4, g5, g6⟩
  refine Calls.call_function_entry kind_sorted plain_sorted entry_sorted (args_sorted1 (.ref d)) ?_
  unfold Builtin.«sorted»
  refine wpAny_bind (m := checkCount "sorted" 1 1 _) (wpAny_pure ?_)
  refine wpAny_bind (PySem.W.kdu_collect (A := A.in1) (PySem.W.kdl_dict (knd := mixKind prog w) (kvs := kvs) (ep := ep) lo) hh hat (by rw [hlk]; exact Nat.le_trans (Nat.le_of_lt h64) (by decide)) fun g tk acc kp hacc => ?_)
  have hl : acc.toList.length = ns.length := by rw [Array.length_toList, hacc.1, hlk]
  have hI : IntsAre acc.toList ns := ints_are hl fun j v e => by
    obtain ⟨k, x, hx, hki⟩ := hacc.2 j v (by rw [← Array.getElem?_toList]; exact e)
    have e2 : (kvs.map (·.1))[j]? = some k := by rw [List.getElem?_map, hx]; rfl
    rw [hk, List.getElem?_map] at e2
    cases q : ns[j]? with
    | none => rw [q] at e2; cases e2
    | some m =>
      rw [q] at e2
      have e3 : (Sum.inl m : Key) = k := Option.some.inj e2
      subst e3
      obtain ⟨t, rfl⟩ := Value.isInt_shape (show Value.isInt m v = true from hki)
      refine ⟨t, ?_⟩
      rw [List.getD_eq_getElem?_getD, q]; rfl
  refine wpAny_bind (wpAny_newList ?_ (by rw [hl]; exact Nat.le_trans (Nat.le_of_lt h64) (by decide)))
  have hoL : (g.push { cls := .type "list", data := .seq acc.toList.toArray }).get? g.objs.size = some (seqObj "list" acc.toList.toArray 0) := Heap.get?_push_size _ rfl
  refine wpAny_bind (wpAny_holding (wpAny_call_entry PyProof.Rows.slot_list_sort ⟨_, hoL, rfl⟩ PyProof.Rows.entry_list_sort (list_sort_tree (s := { s with heap := g.push { cls := .type "list", data := .seq acc.toList.toArray }, toks := tk }) hoL hI (by rw [hl]; exact h64) fun out ns' a1 a2 a3 => ⟨_, rfl, ?_⟩) (args_list_sort _)))
  obtain ⟨e, he⟩ := sortedHeap_at (out := out) hoL
  refine wpAny_pure ⟨_, rfl, h g.objs.size _ tk e out.toList ns' (fun b o' q => ?_) ?_ (by rw [Array.toArray_toList]; exact he) a1 a2 a3⟩
  · have q1 := kp b o' q
    have q2 : b < g.objs.size := Heap.lt_size q1
    rw [sortedHeap_old (Nat.ne_of_lt q2) (by rw [size_push']; exact Nat.lt_succ_of_lt q2)]
    exact Heap.get?_push_of_some _ q1
  · cases q : s.heap.get? g.objs.size with
    | none => rfl
    | some u => exact absurd (Heap.lt_size (kp _ u q)) (Nat.lt_irrefl _)
end
theorem obj_there {P : Program} {w : World} {H : Hp} {h : Heap} {a : Addr} {o : HO} (x : ObjOk P w H h a o) : ∃ u, h.get? a = some u := by
  cases o with
  | lst xs => obtain ⟨_, _, _, _, e⟩ := x; exact ⟨_, e⟩
  | tup xs => obtain ⟨_, _, _, o, e, _⟩ := x; exact ⟨o, e⟩
  | dK kvs => obtain ⟨_, _, _, _, o, _, _, e, _⟩ := x; exact ⟨_, e⟩
  | dT kvs => obtain ⟨_, _, _, _, o, _, _, e, _⟩ := x; exact ⟨_, e⟩
  | set S n => obtain ⟨o, _, _, _, e, _⟩ := x; exact ⟨_, e⟩
  | ins C dx fs => obtain ⟨_, _, _, e, _⟩ := x; exact ⟨_, e⟩
  | own y => obtain ⟨_, e⟩ := x; exact ⟨_, e⟩
  | xd fs => obtain ⟨_, ⟨_, _, _, e, _⟩, _⟩ := x; exact ⟨_, e⟩
  | rng lo hi => obtain ⟨_, _, _, e⟩ := x; exact ⟨_, e⟩
  | frz ob u => obtain ⟨e, _⟩ := x; exact ⟨_, e⟩
  | tbl ps => exact ⟨_, (show h.get? a = some _ from x)⟩
  | met f y => exact ⟨_, (show h.get? a = some _ from x)⟩
  | ext φ => obtain ⟨_, ⟨_, e⟩, _⟩ := x; exact ⟨_, e⟩
section
variable {X : Cx} {pins : List (Addr × Obj)} {σ : L2.St} {H : Hp} {s : Shared} {h' : Heap} {a : Addr} {o : HO}
theorem none_of (I : Inv X pins σ H s) (hn : s.heap.get? a = none) : H a = none := by
  cases q : H a with
  | none => rfl
  | some u =>
    obtain ⟨v, e⟩ := obj_there (I.hok a u q)
    rw [hn] at e; cases e
theorem laidN {t' : Nat} (I : Inv X pins σ H s) (k : ∀ b u, s.heap.get? b = some u → h'.get? b = some u) (hg : s.heap.get? a = none) (new : ObjOk X.prog X.w (upd H a o) h' a o) : Inv X pins σ (upd H a o) { s with heap := h', toks := t' } := by
  have hn := none_of I hg
  have ne : ∀ b u, s.heap.get? b = some u → b ≠ a := fun b u e z => by rw [z, hg] at e; cases e
  refine I.un ⟨fun b u q _ _ _ => k b u q, fun b u q _ _ _ => ⟨u.slots, k b u q⟩, fun b u q n _ => by rw [upd_ne (ne b u q)]; exact n, fun b u q _ => ⟨u, k b u q⟩, fun b xs q => by rw [upd_ne (ne_of_none q hn)]; exact q, fun b u xs q => by rw [upd_ne (ne_of_none q hn)]; exact q, fun b ps q => ⟨#[], by rw [upd_ne (ne_of_none q hn), q]; simp⟩⟩ fun b u e => ?_
  by_cases hb : b = a
  · subst hb; rw [upd_same] at e; cases e; exact new
  · rw [upd_ne hb] at e
    exact (I.hok b u e).stay (fun c v _ q => k c v q) (fun c q => by rw [upd_ne (ne_of_none q hn)]; exact q) fun c xs q => by rw [upd_ne (ne_of_none q hn)]; exact q
end
theorem vals_ints : ∀ {vs : List Value} {ns : List Int}, IntsAre vs ns → Vals (ns.map V.int) vs
  | _, _, .nil => .nil
  | _, _, .cons _ t r => .cons ⟨t, rfl⟩ (vals_ints r)
theorem reps_ints {K : PySem.W.Frag} {H : Hp} : ∀ (ns : List Int), Reps K H (ns.map RV.int) (ns.map V.int)
  | [] => Reps.nil
  | n :: r => Reps.cons (by simp only [Rep]) (reps_ints r)
theorem repP_keys {κ : Type} {K : PySem.W.Frag} {H : Hp} : ∀ {kvs : List (κ × RV)} {ws : List (κ × V)}, RepP K H kvs ws → kvs.map (·.1) = ws.map (·.1)
  | [], ws, h => by have h' : ws = [] := h; subst h'; rfl
  | (j, x) :: r, ws, h => by
    obtain ⟨w, t, rfl, h1, h2⟩ := h
    rw [List.map_cons, List.map_cons, repP_keys h2]
theorem kv_keys {κ : Type} : ∀ {ws : List (κ × V)} {vs : List (κ × Value)}, KV ws vs → ws.map (·.1) = vs.map (·.1)
  | _, _, .nil => rfl
  | _, _, .cons r t => by rw [List.map_cons, List.map_cons, r.1, kv_keys t]
section
variable {X : Cx}
def rSortD : List RV → RM → RVK → Prop := fun rs M Q => ∃ a kvs ns, rs = [.ref a] ∧ M a = some (.dk kvs) ∧ kvs.map (·.1) = ns.map Sum.inl ∧ ns.length < 64 ∧ ∀ ns' : List Int, ns'.Perm ns → ns'.Pairwise (· ≤ ·) → Q (.ls (ns'.map RV.int)) M
theorem csortedD (hc : X.calm = true) : CallR X (.builtin "sorted") (upC X.K rSortD) := by
  intro pins s σ H xs us Q0 I rl h
  obtain ⟨rs, M, Q, rr, hv, hq, hk⟩ := h
  obtain ⟨a, kvs, ns, rfl, hm, hkk, h64, hq⟩ := hq
  simp only [Reps, Rep] at rr
  obtain ⟨v, r, rfl, rfl, rfl⟩ := rr
  obtain ⟨u, rfl, ru⟩ := vals1 rl
  cases ru
  obtain ⟨ho, eo, ws, rfl, hg⟩ := hv a _ hm
  obtain ⟨hz, hS, vs, r, m⟩ : ws.length ≤ sizeLine ∧ (a == sysModules) = false ∧ ∃ vs, KV ws vs ∧ s.heap.DictOf (mixKind X.prog X.w) a vs := I.hok a _ eo
  refine sorted_dict (I.ok.hd hc) m hS (by rw [← kv_keys r, ← repP_keys hg]; exact hkk) h64 fun B h' tk e vs' ns' kp hB hget hI hp ho => ?_
  have hn := none_of I hB
  have hl : ns'.length ≤ sizeLine := by rw [hp.length_eq]; exact Nat.le_trans (Nat.le_of_lt h64) (by decide)
  refine frozen ⟨.ref B, upd H B (.lst (ns'.map V.int)), laidN I kp hB ⟨by rw [List.length_map]; exact hl, vs', e, vals_ints hI, hget⟩, rfl, H, B, _, rfl, hn, rfl, fun o => ?_⟩
  exact hk _ M _ _ (hq ns' hp ho) (Ext.new hn) (hv.new hn) (rep_ls hn (reps_ints ns'))
def rMax2 : List RV → RM → RVK → Prop := fun rs M Q => match rs with
  | [.int i, .int j] => Q (.int (if j > i then j else i)) M
  | _ => False
theorem cmax (hc : X.calm = true) : CallR X (.builtin "max") (upC X.K rMax2) := by
  intro pins s σ H xs us Q0 I rl h
  obtain ⟨rs, M, Q, rr, hv, hq, hk⟩ := h
  match rs, hq with
  | [.int i, .int j], hq =>
    simp only [Reps, Rep] at rr
    obtain ⟨v, r, rfl, rfl, v', r', rfl, rfl, rfl⟩ := rr
    exact call_max2 hc pins s σ H _ us Q0 I rl ⟨i, j, rfl, hk _ M _ H hq (.refl H) hv (by simp only [Rep])⟩
end
end R
set_option Elab.async false
set_option linter.all false
set_option maxRecDepth 100000
set_option maxHeartbeats 1000000
namespace R
open PySem PySem.Spec PyProof.Rows L2
section
variable {X : Cx} {pins : List (Addr × Obj)} {σ : L2.St} {H : Hp} {s : Shared}
def lookR (M : RM) : RV → RV
  | .ref a => (match M a with | some (.lst xs) => .ls xs | _ => .ref a)
  | x => x
theorem dens_of (I : Inv X pins σ H s) {n : Nat} : ∀ {rs : List RV} {vs : List V} {us : List Value}, rs.all (okR n) = true → Reps X.K H rs vs → Vals vs us → Dens s.heap rs us
  | [], vs, us, _, r, w => by
    have e : vs = [] := by simpa only [Reps] using r
    subst e; cases w; simp only [Dens]
  | x :: rs, vs, us, o, r, w => by
    rw [List.all_cons, Bool.and_eq_true] at o
    simp only [Reps] at r
    obtain ⟨v, vs', rfl, r1, r2⟩ := r
    obtain ⟨u, us', rfl, w1, w2⟩ := Vals.cons_inv w
    simp only [Dens]
    exact ⟨u, us', rfl, den_of I n x v u o.1 r1 w1, dens_of I o.2 r2 w2⟩
theorem den_look (I : Inv X pins σ H s) {M : RM} (hv : View X.K H M) {a : RV} {x : V} {v : Value} (o : okR 16 (lookR M a) = true) (ra : Rep X.K H a x) (rx : RelV x v) : Den s.heap (lookR M a) v := by
  cases a with
  | ref p =>
    cases q : M p with
    | none => rw [show lookR M (.ref p) = .ref p by simp only [lookR, q]] at o; cases o
    | some ob =>
      cases ob with
      | lst xs =>
        have e : lookR M (.ref p) = .ls xs := by simp only [lookR, q]
        rw [e] at o ⊢
        simp only [Rep] at ra
        subst ra
        cases rx
        obtain ⟨ho, e0, vs, rfl, hr⟩ := hv p _ q
        obtain ⟨its, rv, pl, hz⟩ := I.list (SqL.of e0)
        simp only [Den]
        exact ⟨p, its, rfl, pl.isList, dens_of I (n := 15) o hr rv⟩
      | dk kvs => rw [show lookR M (.ref p) = .ref p by simp only [lookR, q]] at o; cases o
      | ins C fs => rw [show lookR M (.ref p) = .ref p by simp only [lookR, q]] at o; cases o
  | _ => exact den_of I 16 _ x v o ra rx
def rEqM : RR2 := fun x y M Q => okR 16 (lookR M x) = true ∧ okR 16 (lookR M y) = true ∧ Q (.bl (eqR (lookR M x) (lookR M y))) M
def rNeM : RR2 := fun x y M Q => okR 16 (lookR M x) = true ∧ okR 16 (lookR M y) = true ∧ Q (.bl (!eqR (lookR M x) (lookR M y))) M
theorem oeqM (hu : X.A.units + 64 < cLine) : ROp X (compareOp .Eq) rEqM := by
  intro pins s σ H x y v u Q0 I rx ry h
  obtain ⟨a, b, M, Q, ra, rb, hv, ⟨o1, o2, hq⟩, hk⟩ := h
  exact rcAt_den 15 _ _ X.A s v u o1 o2 (den_look I hv o1 ra rx) (den_look I hv o2 rb ry) (by omega) _ _ _ _ ⟨.bl _, H, I, rfl, hk _ M _ H hq (.refl H) hv (by simp only [Rep])⟩
theorem oneM (hu : X.A.units + 64 < cLine) : ROp X (compareOp .NotEq) rNeM := by
  intro pins s σ H x y v u Q0 I rx ry h
  obtain ⟨a, b, M, Q, ra, rb, hv, ⟨o1, o2, hq⟩, hk⟩ := h
  exact rcNeAt_den 15 _ _ X.A s v u o1 o2 (den_look I hv o1 ra rx) (den_look I hv o2 rb ry) (by omega) _ _ _ _ ⟨.bl _, H, I, rfl, hk _ M _ H hq (.refl H) hv (by simp only [Rep])⟩
end
section
variable {X : Cx}
def rDNe : RR2 := fun x y M Q => ∃ a b kvs, x = .ref a ∧ y = .ref b ∧ M a = some (.dk kvs) ∧ M b = some (.dk []) ∧ Q (.bl (!kvs.isEmpty)) M
theorem odne (hu : X.A.units + 64 < cLine) : ROp X (compareOp .NotEq) rDNe := by
  intro pins s σ H x y v u Q0 I rx ry h
  obtain ⟨rx', ry', M, Q, ra, rb, hv, ⟨a, b, kvs, rfl, rfl, ha, hb, hq⟩, hk⟩ := h
  simp only [Rep] at ra rb
  subst ra; subst rb
  cases rx; cases ry
  obtain ⟨ho, eo, ws, rfl, hg⟩ := hv a _ ha
  obtain ⟨ho2, eo2, ws2, rfl, hg2⟩ := hv b _ hb
  have hz2 : ws2 = [] := hg2
  subst hz2
  obtain ⟨hz, hS, vs, r, m⟩ : ws.length ≤ sizeLine ∧ (a == sysModules) = false ∧ ∃ vs, KV ws vs ∧ s.heap.DictOf (mixKind X.prog X.w) a vs := I.hok a _ eo
  obtain ⟨_, hS2, vs2, r2, m2⟩ : ([] : List (Key × V)).length ≤ sizeLine ∧ (b == sysModules) = false ∧ ∃ vs, KV ([] : List (Key × V)) vs ∧ s.heap.DictOf (mixKind X.prog X.w) b vs := I.hok b _ eo2
  cases r2
  have el : vs.length = kvs.length := by rw [← (Paired.length r), ← repP_len hg]
  refine PySem.W.keq_ne (r := true) hS hS2 m m2 (by omega) (fun e => ?_) ?_
  · have : vs = [] := List.eq_nil_of_length_eq_zero e
    subst this
    exact .nil
  · refine ⟨.bl (!kvs.isEmpty), H, I, ?_, hk _ M _ H hq (.refl H) hv (by simp only [Rep])⟩
    have e2 : (vs.length == ([] : List (Key × Value)).length && true) = kvs.isEmpty := by
      rw [el, Bool.and_true]
      cases kvs <;> rfl
    rw [e2]; rfl
def rVals : List (Str × RTE) → RSt → RM → (List (Key × RV) → RM → Prop) → Prop
  | [], _, M, Q => Q [] M
  | (k, tv) :: r, σ, M, Q => tv σ M fun y M2 => rVals r σ M2 fun ps M3 => Q ((Sum.inr k, y) :: ps) M3
def RPVs (X : Cx) (pos : Pos) (ks : List (Option Expr)) (vs : List Expr) (kvs : List (Str × RTE)) : Prop :=
  ∃ trs, PPs X pos ks vs trs ∧ ∀ σ0 H (Q0 : List (V × V) → Hp → Prop) σ M Q, RepSt X.K H σ σ0 → View X.K H M → rVals kvs σ M Q →
    (∀ ps M' ws H', Q ps M' → Ext H H' → View X.K H' M' → RepP X.K H' ps ws → ps.map (·.1) = kvs.map (fun p => (Sum.inr p.1 : Key)) → Q0 (ws.map fun kv => (kV kv.1, kv.2)) H') → tPairs trs σ0 H Q0
theorem vnil {pos : Pos} : RPVs X pos [] [] [] := ⟨[], pps_nil, fun σ0 H Q0 σ M Q hs hv h k => k [] M [] H h (.refl H) hv rfl rfl⟩
theorem vcons {pos p : Pos} {x : Str} {j : Nat} {v : Expr} {ks : List (Option Expr)} {vs : List Expr} {tv : RTE} {kvs : List (Str × RTE)} (hv : RPE X v tv) (hr : RPVs X pos ks vs kvs) :
    RPVs X pos (some (.Constant (.str x) j p) :: ks) (v :: vs) ((x, tv) :: kvs) := by
  obtain ⟨trs, h1, h2⟩ := hr
  refine ⟨_, pps_cons pe_str hv h1, fun σ0 H Q0 σ M Q hs hw h k => ?_⟩
  refine ⟨σ, M, _, hs, hw, h, fun ry M1 y H1 q e1 v1 r1 => ?_⟩
  refine h2 σ0 H1 _ σ M1 _ (hs.ext e1) v1 q fun ps M' ws H' q' e' v' r' ek => ?_
  exact k _ M' ((Sum.inr x, y) :: ws) H' q' (e1.trans e') v' ⟨y, ws, rfl, Rep.ext e' _ _ r1, r'⟩ (by rw [List.map_cons, List.map_cons, ek])
def rDisp (kvs : List (Str × RTE)) : RTE := fun σ M Q => ∀ p, M p = none → rVals kvs σ (put M p (.dk [])) fun ps M2 => M2 p = some (.dk []) ∧ Q (.ref p) (put M2 p (.dk ps))
theorem rdisp {pos : Pos} {keys : List (Option Expr)} {values : List Expr} {kvs : List (Str × RTE)} (h : RPVs X pos keys values kvs) (hnd : (kvs.map (·.1)).Nodup) (hlen : kvs.length ≤ 15) (hall : keys.all (·.isSome) = true := by rfl) (hl : keys.length = values.length := by rfl) (h0 : keys ≠ [] := by exact List.cons_ne_nil _ _)
    (h15 : keys.length ≤ 15 := by exact Nat.le_of_ble_eq_true rfl) : RPE X (.Dict keys values pos) (rDisp kvs) := by
  obtain ⟨trs, h1, h2⟩ := h
  refine PE.imp (pe_disp h1 hall hl h0 h15) fun σ0 H Q0 h => ?_
  obtain ⟨σ, M, Q, hs, hv, ht, hk⟩ := h
  intro p hp
  refine h2 σ0 (upd H p (.dK [])) _ σ (put M p (.dk [])) _ (hs.ext (Ext.new hp)) (hv.newPut hp ⟨[], rfl, rfl⟩) (ht p (hv.free hp)) fun ps M' ws H' q' e' v' r' ek => ?_
  obtain ⟨hm, q'⟩ := q'
  obtain ⟨ho, e0, ws2, rfl, g2⟩ := v' p _ hm
  have hz : ws2 = [] := g2
  subst hz
  have kk : ws.map (·.1) = kvs.map (fun p => (Sum.inr p.1 : Key)) := by rw [← repP_keys r']; exact ek
  have kn : (ws.map Prod.fst).Nodup := by
    have e : ws.map Prod.fst = (kvs.map (·.1)).map (Sum.inr : Str → Key) := by rw [List.map_map]; exact kk
    rw [e]; exact nodup_inr hnd
  have kl : ws.length = kvs.length := by have := congrArg List.length kk; simpa using this
  refine ⟨e0, ws, rfl, by omega, ?_⟩
  have em : mergeK [] ws = ws := mergeK_nodup ws [] (by simpa using kn)
  rw [em]
  have ex : Ext H' (upd H' p (.dK ws)) := Ext.write e0 rfl
  exact hk _ _ _ _ q' (((Ext.new hp).trans e').trans ex) (v'.write hm ⟨ws, rfl, r'.ext ex⟩) (by simp only [Rep])
def kLR (Q : RVK) : List RV → RM → Prop := fun rs M => match rs with
  | [.int i, .int j] => (-1000000 ≤ i ∧ i ≤ 1000000 ∧ -1000000 ≤ j ∧ j ≤ 1000000) ∧ (j - i).toNat ≤ 1000 ∧ Q (.ls (numsFrom i (j - i).toNat)) M
  | _ => False
def rListR (ta tb : RTE) : RTE := fun σ M Q => rCons ta (rCons tb rNil) σ M (kLR Q)
theorem vals_from (a : Int) : ∀ (vs : List Value) (k : Nat), (∀ (j : Nat) v, vs[j]? = some v → ∃ t, v = .int (a + ((k + j : Nat) : Int)) t) → Vals ((List.range' k vs.length).map fun (j : Nat) => V.int (a + (j : Int))) vs
  | [], _, _ => .nil
  | v :: vs, k, h => by
    obtain ⟨t, e⟩ := h 0 v rfl
    rw [List.length_cons, List.range'_succ, List.map_cons]
    refine .cons ⟨t, e⟩ (vals_from a vs (k + 1) fun j u hu => ?_)
    obtain ⟨t', e'⟩ := h (j + 1) u (by simpa using hu)
    refine ⟨t', ?_⟩
    rw [e', show k + (j + 1) = k + 1 + j by omega]
theorem reps_from {K : PySem.W.Frag} {H : Hp} (a : Int) : ∀ (l : List Nat), Reps K H (l.map fun (j : Nat) => RV.int (a + (j : Int))) (l.map fun (j : Nat) => V.int (a + (j : Int)))
  | [] => Reps.nil
  | j :: r => Reps.cons (by simp only [Rep]) (reps_from a r)
theorem boot_list : bootBuiltins "list" = some (.type "list") := by decide +kernel
theorem rlistr {a b : Expr} {t1 t2 : RTE} {p1 p2 pos2 pos : Pos} (hml : X.mg "list" = none) (hmr : X.mg "range" = none) (hc : X.calm = true) (ha : RPE X a t1) (hb : RPE X b t2) (hgl : Gl X "list") (hgr : Gl X "range")
    (hst : starEach [a, b] X.env = [(false, eval a X.env), (false, eval b X.env)] := by rfl) (hs2 : starEach [b] X.env = [(false, eval b X.env)] := by rfl)
    (he1 : starEach [a, b] X.env = (false, eval a X.env) :: starEach [b] X.env := by rfl) (he2 : starEach [b] X.env = (false, eval b X.env) :: starEach [] X.env := by rfl)
    (he0 : starEach [Expr.Call (.Name "range" p2) [a, b] [] pos2] X.env = (false, eval (Expr.Call (.Name "range" p2) [a, b] [] pos2) X.env) :: starEach [] X.env := by rfl) :
    RPE X (.Call (.Name "list" p1) [.Call (.Name "range" p2) [a, b] [] pos2] [] pos) (rListR t1 t2) := by
  intro pins s σ0 H Q0 I h
  obtain ⟨σ, M, Q, hs, hv, ht, hk⟩ := h
  have args : RPA X [a, b] (rCons t1 (rCons t2 rNil)) := acons ha (acons hb anil he2) he1
  refine Call_ (ld_blt I hgl hml boot_list (PyProof.Rows.callWith_type1 ?_ he0 rfl))
  rw [he0]
  show wpAny _ _ (spliced ((false, eval (Expr.Call (.Name "range" p2) [a, b] [] pos2) X.env) :: backTo pos (starEach [] X.env))) _ _ s
  refine Calls.spliced_cons (Call_ (ld_blt I hgr hmr boot_range (PyProof.Rows.callWith_type1 (thn (args pos2 pins s σ0 H (fun vs H1 => ∃ i j M1, vs = [V.int i, V.int j] ∧ kLR Q [.int i, .int j] M1 ∧ Ext H H1 ∧ View X.K H1 M1) I ⟨σ, M, _, hs, hv, ht, fun rs M1 vs H1 q e1 v1 r1 => ?_⟩) fun us s1 q1 => ?_) (by rw [hst, hs2]) (by rw [hs2]; rfl))))
  · unfold kLR at q
    split at q
    · simp only [Reps, Rep] at r1
      obtain ⟨v, r, rfl, rfl, v', r', rfl, rfl, rfl⟩ := r1
      exact ⟨_, _, M1, rfl, q, e1, v1⟩
    · exact q.elim
  · obtain ⟨vs, H1, I1, rv, i, j, M1, rfl, q, e1, v1⟩ := q1
    obtain ⟨u1, us1, rfl, q1, rv⟩ := Vals.cons_inv rv
    obtain ⟨u2, us2, rfl, q2, rv⟩ := Vals.cons_inv rv
    cases rv
    obtain ⟨tt1, rfl⟩ := q1
    obtain ⟨tt2, rfl⟩ := q2
    obtain ⟨⟨b1, b2, b3, b4⟩, hn, q⟩ := q
    refine call_range_2 ?_
    have I2 := I1.kept (h' := s1.heap.push { cls := .type "range", data := .fields #[.int i tt1, .int j tt2, .int 1 s1.toks] }) (t' := s1.toks + 1) (fun b o e => Heap.get?_push_of_some _ e)
    refine Calls.spliced_nil ?_
    have hsz : Builtin.Range.rangeSize i j 1 = ((j - i).toNat : Int) := by rw [rangeSize_one]; split <;> omega
    refine call_list_range (I2.ok.hd hc) (IsRange.new s1.heap i j 1 tt1 tt2 s1.toks) (small_one (by omega) (by omega) (by omega) (by omega)) hsz (by omega) fun h' tk acc c' kp hget hit => ?_
    have hfr := I2.hok.fresh (Nat.le_refl _)
    have hv2 : Vals ((List.range (j - i).toNat).map fun (k : Nat) => V.int (i + (k : Int))) acc.toList := by
      have := vals_from i acc.toList 0 fun k v e => by
        obtain ⟨t, e'⟩ := hit.2 k v (by rw [← Array.getElem?_toList]; exact e)
        exact ⟨t, by rw [e']; simp⟩
      rw [Array.length_toList, hit.1] at this
      rw [List.range_eq_range']; exact this
    refine frozen ⟨.ref _, _, I2.laid kp (Nat.le_refl _) (o := .lst ((List.range (j - i).toNat).map fun (k : Nat) => V.int (i + (k : Int)))) ⟨by rw [List.length_map, List.length_range]; exact Nat.le_trans hn (by decide), acc.toList, c', hv2, by rw [Array.toArray_toList]; exact hget⟩, rfl, H1, _, _, rfl, hfr, rfl, fun o => ?_⟩
    exact hk _ M1 _ _ q (e1.trans (Ext.new hfr)) (v1.new hfr) (rep_ls hfr (reps_from i _))
end
end R
set_option Elab.async false
set_option linter.all false
set_option maxRecDepth 100000
set_option maxHeartbeats 1000000
namespace R
open PySem PySem.Spec PyProof.Rows L2
structure RMt (P : Program) (w : World) (K : PySem.W.Frag) (mg : Str → Option Value) (base : Heap) (C : Addr) (k : Nat) (m : Str) (ps : List Str) (sp : RSp) : Prop where
  ex : ∃ (g : Addr) (fd : FuncData), Meth K C m g ∧ Binds K fd ps [] ∧ FnOk P w K mg base CX0 k g fd ps (upSp K sp)
structure RIn (P : Program) (w : World) (K : PySem.W.Frag) (mg : Str → Option Value) (base : Heap) (C : Addr) (k : Nat) (ps : List Str) (sp : RSp) : Prop where
  ex : ∃ (g : Addr) (fd : FuncData), Mk K C g ∧ Binds K fd ps [] ∧ FnOk P w K mg base CX0 k g fd ps (upSp K sp)
section
variable {X : Cx} {x m : Str} {p pos apos : Pos} {o e : Expr} {es : List Expr} {t : RTA} {ta : RTE} {k : Nat} {ps : List Str} {sp : RSp} {C : Addr}
theorem rmethF {pl : Sem Bool} (F : RMt X.prog X.w X.K X.mg X.base C k m ps sp) (c : Cls X.K C) (hr : Room k X.A) (he : RPE X o ta) (ha : RPA X (e :: es) t)
    (hst : starEach (e :: es) X.env = (false, eval e X.env) :: starEach es X.env := by rfl) (hpl : (backTo pos (starEach es X.env)).any (·.1) = false := by rfl)
    (ht : eval (.Call (.Attribute o m apos) (e :: es) [] pos) X.env = (do
      let ov ← eval o X.env
      standAt apos.atName
      let (f, first) ← holding [ov] (getMethod ov m pl)
      callWith pos f first (backTo pos (starEach (e :: es) X.env)) (backToKw pos (keywordEach [] X.env))) := by rfl) :
    RPE X (.Call (.Attribute o m apos) (e :: es) [] pos) (rMeth C m sp ta t) := by
  obtain ⟨g, fd, hm, hb, F⟩ := F.ex
  exact rmeth he c hm F hr hb ha hst hpl ht
theorem rmethF0 {pl : Sem Bool} (F : RMt X.prog X.w X.K X.mg X.base C k m ps sp) (c : Cls X.K C) (hr : Room k X.A) (he : RPE X o ta)
    (ht : eval (.Call (.Attribute o m apos) [] [] pos) X.env = (do
      let ov ← eval o X.env
      standAt apos.atName
      let (f, first) ← holding [ov] (getMethod ov m pl)
      callWith pos f first (backTo pos (starEach [] X.env)) (backToKw pos (keywordEach [] X.env))) := by rfl) :
    RPE X (.Call (.Attribute o m apos) [] [] pos) (rMeth C m sp ta rNil) := by
  obtain ⟨g, fd, hm, hb, F⟩ := F.ex
  exact rmeth0 he c hm F hr hb ht
theorem rmakeF (F : RIn X.prog X.w X.K X.mg X.base C k ps sp) (hr : Room (k + 1) X.A) (hm : X.mg x = some (.ref C)) (ha : RPA X (e :: es) t) (hg : Gl X x := by rfl) (hdb : (x == ("__debug__" : Str)) = false := by decide)
    (he : starEach (e :: es) X.env = (false, eval e X.env) :: starEach es X.env := by rfl) (hpl : (backTo pos (starEach es X.env)).any (·.1) = false := by rfl) : RPE X (.Call (.Name x p) (e :: es) [] pos) (rMake C sp t) := by
  obtain ⟨g, fd, hM, hb, F⟩ := F.ex
  exact rmake (h0 := 0) hM F hr hm hb ha hg hdb he hpl
end
theorem rdispK {X : Cx} {pos : Pos} {keys : List (Option Expr)} {values : List Expr} {kvs : List (Str × RTE)} (ks : List Str) (h : RPVs X pos keys values kvs) (hk : kvs.map (·.1) = ks) (hnd : ks.Nodup) (hlen : ks.length ≤ 15) (hall : keys.all (·.isSome) = true := by rfl) (hl : keys.length = values.length := by rfl) (h0 : keys ≠ [] := by exact List.cons_ne_nil _ _)
    (h15 : keys.length ≤ 15 := by exact Nat.le_of_ble_eq_true rfl) : RPE X (.Dict keys values pos) (rDisp kvs) :=
  rdisp h (by rw [hk]; exact hnd) (by have := congrArg List.length hk; rw [List.length_map] at this; omega) hall hl h0 h15
section
variable {X : Cx} {x : Str} {pos : Pos}
theorem MU.rcompN {elt iter : Expr} {px : Pos} {scope : Scope} {ti : RTI} {tt : RTT} {te : RTE} {ifs : List Expr} (caps : List (Nat × Str)) {osc : Scope} {oN : List Str}
    (hc : X.calm = true) (hi : RPI X (.Name x px) iter ti)
    (hif : ∀ cl C s H fp, VisB (blk X scope cl C (x :: caps.map Prod.snd) s H fp) → RPTs (blk X scope cl C (x :: caps.map Prod.snd) s H fp) ifs tt)
    (hel : ∀ cl C s H fp, VisB (blk X scope cl C (x :: caps.map Prod.snd) s H fp) → RPE (blk X scope cl C (x :: caps.map Prod.snd) s H fp) elt te)
    (hX : X.env.scope = osc) (hN : X.N = oN)
    (hcaps : ∀ p ∈ caps, oN[p.1]? = some p.2 ∧ scope.names.lookup p.2 = some .free ∧ (osc.names.lookup p.2 = some .cell ∨ osc.names.lookup p.2 = some .free))
    (hfr : ∀ y ∈ scope.names, y.2 = .free → (osc.names.lookup y.1 = some .cell ∨ osc.names.lookup y.1 = some .free))
    (hcell : ∀ y ∈ scope.names, y.2 ≠ .cell) (hkind : scope.kind = .function) (hnames : ∀ y ∈ scope.names, y.2 = .local → scope.names.lookup y.1 = some .local) (hx : scope.names.lookup x = some .local) (hnd : (x :: caps.map Prod.snd).Nodup)
    (hdb : ∀ y ∈ x :: caps.map Prod.snd, (y == ("__debug__" : Str)) = false ∧ (y == ("__classdict__" : Str)) = false)
    (hs : ∀ v, foldedSetIterable iter X.env v = pure v := by intro _; rfl) :
    RPE X (.ListComp elt [⟨.Name x px, iter, ifs, 0⟩] scope pos) (MU.rComp ti (caps.map Prod.fst) tt te) := by
  have vb : ∀ cl C s H fp, VisB (blk X scope cl C (x :: caps.map Prod.snd) s H fp) := fun cl C s H fp => ⟨fun y hy => by
    rcases List.mem_cons.mp hy with rfl | hy
    · exact .inl (lookup_relabel_local hx)
    · obtain ⟨p, hp, rfl⟩ := List.mem_map.mp hy
      exact .inr (relabel_free (hcaps p hp).2.1), hdb⟩
  exact MU.rcomp caps hc hi (fun cl C s H fp => hif cl C s H fp (vb cl C s H fp)) (fun cl C s H fp => hel cl C s H fp (vb cl C s H fp)) hX hN hcaps hfr hcell hkind hnames hx hnd hs
theorem OV.rcompN {elt iter : Expr} {px : Pos} {scope : Scope} {ti : RTE} {tt : RTT} {te : RTE} {ifs : List Expr} (caps : List (Nat × Str)) {osc : Scope} {oN : List Str}
    (hc : X.calm = true) (hi : RPE X iter ti)
    (hif : ∀ cl C s H fp, VisB (blk X scope cl C (x :: caps.map Prod.snd) s H fp) → RPTs (blk X scope cl C (x :: caps.map Prod.snd) s H fp) ifs tt)
    (hel : ∀ cl C s H fp, VisB (blk X scope cl C (x :: caps.map Prod.snd) s H fp) → RPE (blk X scope cl C (x :: caps.map Prod.snd) s H fp) elt te)
    (hX : X.env.scope = osc) (hN : X.N = oN)
    (hcaps : ∀ p ∈ caps, oN[p.1]? = some p.2 ∧ scope.names.lookup p.2 = some .free ∧ (osc.names.lookup p.2 = some .cell ∨ osc.names.lookup p.2 = some .free))
    (hfr : ∀ y ∈ scope.names, y.2 = .free → (osc.names.lookup y.1 = some .cell ∨ osc.names.lookup y.1 = some .free))
    (hcell : ∀ y ∈ scope.names, y.2 ≠ .cell) (hkind : scope.kind = .function) (hnames : ∀ y ∈ scope.names, y.2 = .local → scope.names.lookup y.1 = some .local) (hx : scope.names.lookup x = some .local) (hnd : (x :: caps.map Prod.snd).Nodup)
    (hdb : ∀ y ∈ x :: caps.map Prod.snd, (y == ("__debug__" : Str)) = false ∧ (y == ("__classdict__" : Str)) = false)
    (hs : ∀ v, foldedSetIterable iter X.env v = pure v := by intro _; rfl) :
    RPE X (.ListComp elt [⟨.Name x px, iter, ifs, 0⟩] scope pos) (OV.rComp ti (caps.map Prod.fst) tt te) := by
  have vb : ∀ cl C s H fp, VisB (blk X scope cl C (x :: caps.map Prod.snd) s H fp) := fun cl C s H fp => ⟨fun y hy => by
    rcases List.mem_cons.mp hy with rfl | hy
    · exact .inl (lookup_relabel_local hx)
    · obtain ⟨p, hp, rfl⟩ := List.mem_map.mp hy
      exact .inr (relabel_free (hcaps p hp).2.1), hdb⟩
  exact OV.rcomp caps hc hi (fun cl C s H fp => hif cl C s H fp (vb cl C s H fp)) (fun cl C s H fp => hel cl C s H fp (vb cl C s H fp)) hX hN hcaps hfr hcell hkind hnames hx hnd hs
end
section
variable {σ : RSt} {M : RM} {Q : RVK} {ta tb tc td ty tx tv : RTE} {tr : RTA} {tA : RTT} {C : Addr} {f m : Str} {n b c : RSt → RM → Prop} {r : RVK}
def kFld (C : Addr) (f : Str) (Q : RVK) : RVK := fun x M1 => match x with
  | .ref a => ∃ fs v, M1 a = some (.ins C fs) ∧ fs.lookup f = some v ∧ Q v M1
  | _ => False
theorem do_fld (h : ta σ M (kFld C f Q)) : rFld C f ta σ M Q := h
theorem do_kfld {a : Addr} {fs : List (Str × RV)} {v : RV} (e : M a = some (.ins C fs)) (e2 : fs.lookup f = some v) (h : Q v M) : kFld C f Q (.ref a) M := ⟨fs, v, e, e2, h⟩
def kSFld (C : Addr) (f : Str) (y : RV) (σ : RSt) (n : RSt → RM → Prop) : RVK := fun x M2 => match x with
  | .ref a => ∃ fs, M2 a = some (.ins C fs) ∧ fs.length < 1000 ∧ n σ (put M2 a (.ins C (putFR f y fs)))
  | _ => False
theorem do_sfld (h : tv σ M fun y M1 => ta σ M1 (kSFld C f y σ n)) : rSFld C f ta tv ⟨n, r, b, c⟩ σ M := h
theorem do_ksfld {a : Addr} {y : RV} {fs : List (Str × RV)} (e : M a = some (.ins C fs)) (hl : Nat.ble fs.length 900 = true) (h : n σ (put M a (.ins C (putFR f y fs)))) : kSFld C f y σ n (.ref a) M := ⟨fs, e, Nat.lt_of_le_of_lt (Nat.le_of_ble_eq_true hl) (by decide), h⟩
theorem do_dnew (h : ∀ p, M p = none → Q (.ref p) (put M p (.dk []))) : rDNew σ M Q := h
theorem do_dget (h : td σ M fun x M1 => ty σ M1 fun y M2 => atKey M2 x y fun _ kvs k => ∃ v, lookK kvs k = some v ∧ Q v M2) : rDGet td ty σ M Q := h
theorem do_atKey {a : Addr} {kvs : List (Key × RV)} {y : RV} {k : Key} {P : Addr → List (Key × RV) → Key → Prop} (e : M a = some (.dk kvs)) (ek : keyR y = some k) (h : P a kvs k) : atKey M (.ref a) y P := by
  unfold atKey
  simp only [e, ek]
  exact h
theorem do_dput (h : tv σ M fun v M1 => td σ M1 fun x M2 => ty σ M2 fun y M3 => atKey M3 x y fun a kvs k => kvs.length < sizeLine ∧ n σ (put M3 a (.dk (putR kvs k v)))) : rSDPut td ty tv ⟨n, r, b, c⟩ σ M := h
theorem do_ddel (h : td σ M fun x M1 => ty σ M1 fun y M2 => atKey M2 x y fun a kvs k => (lookK kvs k).isSome = true ∧ n σ (put M2 a (.dk (dropR kvs k)))) : rSDDel td ty ⟨n, r, b, c⟩ σ M := h
theorem do_din {neg : Bool} (h : ty σ M fun y M1 => td σ M1 fun x M2 => atKey M2 x y fun _ kvs k => Q (.bl (if neg then !(lookK kvs k).isSome else (lookK kvs k).isSome)) M2) : rDIn neg ty td σ M Q := h
def kMeth (C : Addr) (m : Str) (sp : RSp) (t : RTA) (σ : RSt) (Q : RVK) : RVK := fun x M1 => match x with
  | .ref a => ∃ fs, M1 a = some (.ins C fs) ∧ fs.lookup m = none ∧ t σ M1 fun rs M2 => sp (.ref a :: rs) M2 Q
  | _ => False
theorem do_meth {sp : RSp} (h : ta σ M (kMeth C m sp tr σ Q)) : rMeth C m sp ta tr σ M Q := h
theorem do_kmeth {sp : RSp} {a : Addr} {fs : List (Str × RV)} (e : M a = some (.ins C fs)) (e2 : fs.lookup m = none) (h : tr σ M fun rs M2 => sp (.ref a :: rs) M2 Q) : kMeth C m sp tr σ Q (.ref a) M := ⟨fs, e, e2, h⟩
theorem do_make {sp : RSp} (h : tr σ M fun rs M1 => ∀ a, M1 a = none → sp (.ref a :: rs) (put M1 a (.ins C [])) (fun v M2 => v = .non ∧ Q (.ref a) M2)) : rMake C sp tr σ M Q := h
theorem do_dget2 (h : td σ M fun x M1 => isDk M1 x ∧ ty σ M1 fun y M2 => tx σ M2 fun z M3 => atKey M3 x y fun _ kvs k => Q ((lookK kvs k).getD z) M3) : rDGet2 td ty tx σ M Q := h
theorem do_dpop (h : td σ M fun x M1 => isDk M1 x ∧ ty σ M1 fun y M2 => atKey M2 x y fun a kvs k => ∃ v, lookK kvs k = some v ∧ Q v (put M2 a (.dk (dropR kvs k)))) : rDPop td ty σ M Q := h
theorem do_lenD {a : Addr} {kvs : List (Key × RV)} (e : M a = some (.dk kvs)) (h : Q (.int kvs.length) M) : rLenD [.ref a] M Q := ⟨a, kvs, rfl, e, h⟩
theorem do_itR2 {t1 t2 : RTE} {K : List RV → RM → Prop} (h : t1 σ M fun x M1 => t2 σ M1 fun y M2 => rRngI2 K [x, y] M2) : rItR2 t1 t2 σ M K := h
theorem do_rng2 {i j : Int} {K : List RV → RM → Prop} (h1 : -1000000 ≤ i) (h2 : i ≤ 1000000) (h3 : -1000000 ≤ j) (h4 : j ≤ 1000000) (h : K (numsFrom i (j - i).toNat) M) : rRngI2 K [.int i, .int j] M := ⟨⟨by omega, by omega, by omega, by omega⟩, h⟩
theorem do_listR {t1 t2 : RTE} (h : t1 σ M fun x M1 => t2 σ M1 fun y M2 => kLR Q [x, y] M2) : rListR t1 t2 σ M Q := h
theorem do_kLR {i j : Int} (h1 : -1000000 ≤ i) (h2 : i ≤ 1000000) (h3 : -1000000 ≤ j) (h4 : j ≤ 1000000) (hn : (j - i).toNat ≤ 1000) (h : Q (.ls (numsFrom i (j - i).toNat)) M) : kLR Q [.int i, .int j] M := ⟨⟨h1, h2, h3, h4⟩, hn, h⟩
theorem do_sortD {a : Addr} {kvs : List (Key × RV)} {ns : List Int} (e : M a = some (.dk kvs)) (ek : kvs.map (·.1) = ns.map Sum.inl) (hl : ns.length < 64) (h : ∀ ns' : List Int, ns'.Perm ns → ns'.Pairwise (· ≤ ·) → Q (.ls (ns'.map RV.int)) M) : rSortD [.ref a] M Q := ⟨a, kvs, ns, rfl, e, ek, hl, h⟩
theorem do_max2 {i j : Int} (h : Q (.int (if j > i then j else i)) M) : rMax2 [.int i, .int j] M Q := h
theorem do_eqM {x y : RV} (e1 : okR 16 (lookR M x) = true) (e2 : okR 16 (lookR M y) = true) (h : Q (.bl (eqR (lookR M x) (lookR M y))) M) : rEqM x y M Q := ⟨e1, e2, h⟩
theorem do_neM {x y : RV} (e1 : okR 16 (lookR M x) = true) (e2 : okR 16 (lookR M y) = true) (h : Q (.bl (!eqR (lookR M x) (lookR M y))) M) : rNeM x y M Q := ⟨e1, e2, h⟩
theorem do_dne {a b' : Addr} {kvs : List (Key × RV)} (ha : M a = some (.dk kvs)) (hb : M b' = some (.dk [])) (h : Q (.bl (!kvs.isEmpty)) M) : rDNe (.ref a) (.ref b') M Q := ⟨a, b', kvs, rfl, rfl, ha, hb, h⟩
theorem do_dispV {kvs : List (Str × RTE)} (h : ∀ p, M p = none → rVals kvs σ (put M p (.dk [])) fun ps M2 => M2 p = some (.dk []) ∧ Q (.ref p) (put M2 p (.dk ps))) : rDisp kvs σ M Q := h
theorem do_vnil {K : List (Key × RV) → RM → Prop} (h : K [] M) : rVals [] σ M K := h
theorem do_vcons {k : Str} {kvs : List (Str × RTE)} {K : List (Key × RV) → RM → Prop} (h : tv σ M fun y M2 => rVals kvs σ M2 fun ps M3 => K ((Sum.inr k, y) :: ps) M3) : rVals ((k, tv) :: kvs) σ M K := h
theorem do_compM {ti : RTI} {cap : List Nat} (h : ti σ M fun xs M1 => xs.length < sizeLine ∧ MU.rCompL tA ta (cap.map fun i => (σ[i]?).join) xs [] M1 Q) : MU.rComp ti cap tA ta σ M Q := h
theorem do_compO {tl : RTE} {cap : List Nat} (h : tl σ M (OV.kComp cap tA ta σ Q)) : OV.rComp tl cap tA ta σ M Q := h
theorem do_kcompO {a : Addr} {xs : List RV} {cap : List Nat} (e : M a = some (.lst xs)) (hz : xs.length < sizeLine) (h : OV.rCompL tA ta (cap.map fun i => (σ[i]?).join) a xs xs [] M Q) : OV.kComp cap tA ta σ Q (.ref a) M := ⟨xs, e, hz, h⟩
theorem compO_map {te : RTE} {base : List (Option RV)} {p : Addr} {all : List RV} {f : RV → RV} (e : M p = some (.lst all)) : ∀ (xs acc : List RV), (∀ x ∈ xs, ∀ Q' : RVK, Q' (f x) M → te (some x :: base) M Q') → Q (.ls (acc ++ xs.map f)) M → OV.rCompL rYes te base p all xs acc M Q
  | [], acc, _, h => ⟨e, by simpa using h⟩
  | x :: xs, acc, hs, h => ⟨e, fun _ => hs x List.mem_cons_self _ (compO_map e xs (acc ++ [f x]) (fun y hy => hs y (List.mem_cons_of_mem _ hy)) (by simpa using h)), fun z => (by cases z)⟩
theorem compM_filter {tt : RTT} {te : RTE} {base : List (Option RV)} {p : RV → Bool} {f : RV → RV} : ∀ (xs acc : List RV), (∀ x ∈ xs, ∀ Q' : Bool → RM → Prop, Q' (p x) M → tt (some x :: base) M Q') → (∀ x ∈ xs, p x = true → ∀ Q' : RVK, Q' (f x) M → te (some x :: base) M Q') →
    (∀ q, M q = none → Q (.ref q) (put M q (.lst (acc ++ (xs.filter p).map f)))) → MU.rCompL tt te base xs acc M Q
  | [], acc, _, _, h => fun q hq => by simpa using h q hq
  | x :: xs, acc, ht, hs, h => by
    refine ht x List.mem_cons_self _ ⟨fun e => ?_, fun e => ?_⟩
    · refine hs x List.mem_cons_self e _ (compM_filter xs (acc ++ [f x]) (fun y hy => ht y (List.mem_cons_of_mem _ hy)) (fun y hy => hs y (List.mem_cons_of_mem _ hy)) fun q hq => ?_)
      have := h q hq
      rw [List.filter_cons, if_pos e] at this
      simpa using this
    · refine compM_filter xs acc (fun y hy => ht y (List.mem_cons_of_mem _ hy)) (fun y hy => hs y (List.mem_cons_of_mem _ hy)) fun q hq => ?_
      have := h q hq
      rw [List.filter_cons, if_neg (by rw [e]; exact Bool.false_ne_true)] at this
      exact this
end
end R
set_option Elab.async false
set_option linter.all false
set_option maxRecDepth 100000
set_option maxHeartbeats 1000000
namespace R
open PySem PySem.Spec PyProof.Rows L2
section
variable {X : Cx}
def rIsiL : List RV → RM → RVK → Prop := fun rs M Q => match rs with
  | [.ref a, .ty T'] => T' = "list" ∧ (match M a with | some (.lst _) => Q (.bl true) M | _ => False)
  | _ => False
theorem cisi_listM : CallR X (.builtin "isinstance") (upC X.K rIsiL) := by
  intro pins s σ H xs us Q0 I rl h
  obtain ⟨rs, M, Q, rr, hv, hq, hk⟩ := h
  unfold rIsiL at hq
  split at hq
  · rename_i a T'
    obtain ⟨rfl, hq⟩ := hq
    obtain ⟨v, w, rfl, r1, r2⟩ := rr.two
    obtain ⟨u, u', rfl, w1, w2⟩ := vals2 rl
    simp only [Rep] at r1 r2
    subst r1
    subst r2
    obtain rfl : u' = Value.type "list" := w2
    cases (show u = Value.ref a from w1)
    split at hq
    · rename_i ys em
      obtain ⟨ho, e, r⟩ := hv a _ em
      obtain ⟨vs, rfl, hr⟩ := r
      obtain ⟨its, _, pt, _⟩ := I.list (SqL.of e)
      obtain ⟨o, h1, h2, _⟩ := pt.isList
      exact PySem.W.kia_one PySem.W.kitx_list I.kIn ⟨o, h1, h2⟩ (kit_ls_list X.K) (fun z => nomatch z) fun tk => ⟨.bl true, H, I.tok tk, rfl, hk _ M _ H hq (.refl H) hv (by simp only [Rep])⟩
    · exact hq.elim
  · exact hq.elim
end
section
variable {M : RM} {Q : RVK}
theorem do_isiL {a : Addr} {xs : List RV} (e : M a = some (.lst xs)) (h : Q (.bl true) M) : rIsiL [.ref a, .ty "list"] M Q := by
  refine ⟨rfl, ?_⟩
  rw [e]; exact h
theorem do_len_r {a : Addr} {xs : List RV} (e : M a = some (.lst xs)) (h : Q (.int xs.length) M) : rLen [.ref a] M Q := by
  show (match M a with | some (.lst xs) => Q (.int xs.length) M | _ => False)
  rw [e]; exact h
end
end R
set_option Elab.async false
set_option linter.all false
set_option maxRecDepth 100000
namespace K05
open PySem PySem.Spec PyProof.Rows L2 R
def top (i : Nat) : Stmt := PySem.Challenge.pw_lentgate_k05_numbers_picked_and_given_ba.main.body.getD i (.Pass ⟨0, 0, 0, 0⟩)
abbrev GL (st : Stmt) (x : Str) : Prop := (defScope st).names.lookup x = some .globalImplicit
abbrev DB (x : Str) : Prop := (x == ("__debug__" : Str)) = false
abbrev s__law_cell : Stmt := top 3
abbrev N__law_cell : List Str := ["script", "k"]
theorem sc__law_cell : FnScope N__law_cell ["script", "k"] (defScope s__law_cell) := ⟨rfl, rfl, rfl, by decide +kernel, rfl, by decide +kernel, by decide +kernel⟩
theorem no__law_cell : NameOk N__law_cell (defScope s__law_cell) := ⟨by decide +kernel, by decide +kernel, by decide +kernel⟩
theorem gl__law_cell_len : GL s__law_cell "len" := by decide +kernel
abbrev s__law_take : Stmt := top 5
abbrev N__law_take : List Str := ["bag", "many", "p", "n", "found"]
theorem sc__law_take : FnScope N__law_take ["bag", "many"] (defScope s__law_take) := ⟨rfl, rfl, rfl, by decide +kernel, rfl, by decide +kernel, by decide +kernel⟩
theorem no__law_take : NameOk N__law_take (defScope s__law_take) := ⟨by decide +kernel, by decide +kernel, by decide +kernel⟩
abbrev s__law_whole : Stmt := top 6
abbrev N__law_whole : List Str := ["found"]
theorem sc__law_whole : FnScope N__law_whole ["found"] (defScope s__law_whole) := ⟨rfl, rfl, rfl, by decide +kernel, rfl, by decide +kernel, by decide +kernel⟩
theorem no__law_whole : NameOk N__law_whole (defScope s__law_whole) := ⟨by decide +kernel, by decide +kernel, by decide +kernel⟩
theorem gl__law_whole_bool : GL s__law_whole "bool" := by decide +kernel
theorem gl__law_whole_int : GL s__law_whole "int" := by decide +kernel
theorem gl__law_whole_isinstance : GL s__law_whole "isinstance" := by decide +kernel
abbrev s_Pool_init : Stmt := inClass (top 1) 0
abbrev N_Pool_init : List Str := ["self", "low", "high"]
theorem sc_Pool_init : FnScope N_Pool_init ["self", "low", "high"] (defScope s_Pool_init) := ⟨rfl, rfl, rfl, by decide +kernel, rfl, by decide +kernel, by decide +kernel⟩
theorem no_Pool_init : NameOk N_Pool_init (defScope s_Pool_init) := ⟨by decide +kernel, by decide +kernel, by decide +kernel⟩
abbrev s_Pool_has : Stmt := inClass (top 1) 1
abbrev N_Pool_has : List Str := ["self", "number"]
theorem sc_Pool_has : FnScope N_Pool_has ["self", "number"] (defScope s_Pool_has) := ⟨rfl, rfl, rfl, by decide +kernel, rfl, by decide +kernel, by decide +kernel⟩
theorem no_Pool_has : NameOk N_Pool_has (defScope s_Pool_has) := ⟨by decide +kernel, by decide +kernel, by decide +kernel⟩
abbrev s_Pool_from_mark : Stmt := inClass (top 1) 3
abbrev N_Pool_from_mark : List Str := ["self"]
theorem sc_Pool_from_mark : FnScope N_Pool_from_mark ["self"] (defScope s_Pool_from_mark) := ⟨rfl, rfl, rfl, by decide +kernel, rfl, by decide +kernel, by decide +kernel⟩
theorem no_Pool_from_mark : NameOk N_Pool_from_mark (defScope s_Pool_from_mark) := ⟨by decide +kernel, by decide +kernel, by decide +kernel⟩
theorem gl_Pool_from_mark_list : GL s_Pool_from_mark "list" := by decide +kernel
theorem gl_Pool_from_mark_range : GL s_Pool_from_mark "range" := by decide +kernel
abbrev s_Pool_take : Stmt := inClass (top 1) 5
abbrev N_Pool_take : List Str := ["self", "number"]
theorem sc_Pool_take : FnScope N_Pool_take ["self", "number"] (defScope s_Pool_take) := ⟨rfl, rfl, rfl, by decide +kernel, rfl, by decide +kernel, by decide +kernel⟩
theorem no_Pool_take : NameOk N_Pool_take (defScope s_Pool_take) := ⟨by decide +kernel, by decide +kernel, by decide +kernel⟩
abbrev s_Pool_give : Stmt := inClass (top 1) 6
abbrev N_Pool_give : List Str := ["self", "number", "until"]
theorem sc_Pool_give : FnScope N_Pool_give ["self", "number", "until"] (defScope s_Pool_give) := ⟨rfl, rfl, rfl, by decide +kernel, rfl, by decide +kernel, by decide +kernel⟩
theorem no_Pool_give : NameOk N_Pool_give (defScope s_Pool_give) := ⟨by decide +kernel, by decide +kernel, by decide +kernel⟩
abbrev s_Pool_resting : Stmt := inClass (top 1) 7
abbrev N_Pool_resting : List Str := ["self", "moment"]
theorem sc_Pool_resting : FnScope N_Pool_resting ["self", "moment"] (defScope s_Pool_resting) := ⟨rfl, rfl, rfl, by decide +kernel, rfl, by decide +kernel, by decide +kernel⟩
theorem no_Pool_resting : NameOk N_Pool_resting (defScope s_Pool_resting) := ⟨by decide +kernel, by decide +kernel, by decide +kernel⟩
theorem gl_Pool_resting_sorted : GL s_Pool_resting "sorted" := by decide +kernel
abbrev s__law_well : Stmt := top 4
abbrev N__law_well : List Str := ["cell", "turn"]
theorem sc__law_well : FnScope N__law_well ["cell", "turn"] (defScope s__law_well) := ⟨rfl, rfl, rfl, by decide +kernel, rfl, by decide +kernel, by decide +kernel⟩
theorem no__law_well : NameOk N__law_well (defScope s__law_well) := ⟨by decide +kernel, by decide +kernel, by decide +kernel⟩
abbrev s__law_is_free : Stmt := top 7
abbrev N__law_is_free : List Str := ["own", "number"]
theorem sc__law_is_free : FnScope N__law_is_free ["own", "number"] (defScope s__law_is_free) := ⟨rfl, rfl, rfl, by decide +kernel, rfl, by decide +kernel, by decide +kernel⟩
theorem no__law_is_free : NameOk N__law_is_free (defScope s__law_is_free) := ⟨by decide +kernel, by decide +kernel, by decide +kernel⟩
abbrev s_Pool_is_free : Stmt := inClass (top 1) 2
abbrev N_Pool_is_free : List Str := ["self", "number", "moment"]
theorem sc_Pool_is_free : FnScope N_Pool_is_free ["self", "number", "moment"] (defScope s_Pool_is_free) := ⟨rfl, rfl, rfl, by decide +kernel, rfl, by decide +kernel, by decide +kernel⟩
theorem no_Pool_is_free : NameOk N_Pool_is_free (defScope s_Pool_is_free) := ⟨by decide +kernel, by decide +kernel, by decide +kernel⟩
abbrev s__law_picked : Stmt := top 8
abbrev N__law_picked : List Str := ["own", "way", "door", "many", "k", "number"]
theorem sc__law_picked : FnScope N__law_picked ["own", "way", "door"] (defScope s__law_picked) := ⟨rfl, rfl, rfl, by decide +kernel, rfl, by decide +kernel, by decide +kernel⟩
theorem no__law_picked : NameOk N__law_picked (defScope s__law_picked) := ⟨by decide +kernel, by decide +kernel, by decide +kernel⟩
theorem gl__law_picked__law_is_free : GL s__law_picked "_law_is_free" := by decide +kernel
theorem gl__law_picked_range : GL s__law_picked "range" := by decide +kernel
abbrev s__law_some : Stmt := top 9
abbrev N__law_some : List Str := ["bag", "own", "some", "many", "numbers"]
theorem sc__law_some : FnScope N__law_some ["bag", "own"] (defScope s__law_some) := ⟨rfl, rfl, rfl, by decide +kernel, rfl, by decide +kernel, by decide +kernel⟩
theorem no__law_some : NameOk N__law_some (defScope s__law_some) := ⟨by decide +kernel, by decide +kernel, by decide +kernel⟩
theorem gl__law_some__law_take : GL s__law_some "_law_take" := by decide +kernel
theorem gl__law_some_len : GL s__law_some "len" := by decide +kernel
theorem gl__law_some_sorted : GL s__law_some "sorted" := by decide +kernel
abbrev s_Pool_picked : Stmt := inClass (top 1) 4
abbrev N_Pool_picked : List Str := ["self", "pick", "door", "moment", "number"]
theorem sc_Pool_picked : FnScope N_Pool_picked ["self", "pick", "door", "moment"] (defScope s_Pool_picked) := ⟨rfl, rfl, rfl, by decide +kernel, rfl, by decide +kernel, by decide +kernel⟩
theorem no_Pool_picked : NameOk N_Pool_picked (defScope s_Pool_picked) := ⟨by decide +kernel, by decide +kernel, by decide +kernel⟩
abbrev s_Pool_many_free : Stmt := inClass (top 1) 8
abbrev N_Pool_many_free : List Str := ["self", "moment"]
theorem sc_Pool_many_free : FnScope N_Pool_many_free ["self", "moment"] (defScope s_Pool_many_free) := ⟨rfl, rfl, rfl, by decide +kernel, rfl, by decide +kernel, by decide +kernel⟩
theorem no_Pool_many_free : NameOk N_Pool_many_free (defScope s_Pool_many_free) := ⟨by decide +kernel, by decide +kernel, by decide +kernel⟩
theorem gl_Pool_many_free_len : GL s_Pool_many_free "len" := by decide +kernel
theorem gl_Pool_many_free_range : GL s_Pool_many_free "range" := by decide +kernel
abbrev s__law_a_deed : Stmt := top 10
abbrev N__law_a_deed : List Str := ["bag", "own", "pool", "way", "kind", "door", "due", "found", "number", "until"]
theorem sc__law_a_deed : FnScope N__law_a_deed ["bag", "own", "pool"] (defScope s__law_a_deed) := ⟨rfl, rfl, rfl, by decide +kernel, rfl, by decide +kernel, by decide +kernel⟩
theorem no__law_a_deed : NameOk N__law_a_deed (defScope s__law_a_deed) := ⟨by decide +kernel, by decide +kernel, by decide +kernel⟩
theorem gl__law_a_deed__law_picked : GL s__law_a_deed "_law_picked" := by decide +kernel
theorem gl__law_a_deed__law_some : GL s__law_a_deed "_law_some" := by decide +kernel
theorem gl__law_a_deed__law_take : GL s__law_a_deed "_law_take" := by decide +kernel
theorem gl__law_a_deed_bool : GL s__law_a_deed "bool" := by decide +kernel
theorem gl__law_a_deed_isinstance : GL s__law_a_deed "isinstance" := by decide +kernel
theorem gl__law_a_deed_len : GL s__law_a_deed "len" := by decide +kernel
theorem gl__law_a_deed_sorted : GL s__law_a_deed "sorted" := by decide +kernel
abbrev s__law_looked : Stmt := top 11
abbrev N__law_looked : List Str := ["bag", "own", "pool", "turn", "due", "number", "found", "many", "told"]
theorem sc__law_looked : FnScope N__law_looked ["bag", "own", "pool"] (defScope s__law_looked) := ⟨rfl, rfl, rfl, by decide +kernel, rfl, by decide +kernel, by decide +kernel⟩
theorem no__law_looked : NameOk N__law_looked (defScope s__law_looked) := ⟨by decide +kernel, by decide +kernel, by decide +kernel⟩
theorem gl__law_looked__law_is_free : GL s__law_looked "_law_is_free" := by decide +kernel
theorem gl__law_looked__law_some : GL s__law_looked "_law_some" := by decide +kernel
theorem gl__law_looked__law_whole : GL s__law_looked "_law_whole" := by decide +kernel
theorem gl__law_looked_all : GL s__law_looked "all" := by decide +kernel
theorem gl__law_looked_bool : GL s__law_looked "bool" := by decide +kernel
theorem gl__law_looked_isinstance : GL s__law_looked "isinstance" := by decide +kernel
theorem gl__law_looked_len : GL s__law_looked "len" := by decide +kernel
theorem gl__law_looked_list : GL s__law_looked "list" := by decide +kernel
theorem gl__law_looked_range : GL s__law_looked "range" := by decide +kernel
theorem gl__law_looked_sorted : GL s__law_looked "sorted" := by decide +kernel
abbrev s_law : Stmt := top 12
abbrev N_law : List Str := ["script", "bag", "many", "low", "own", "pool", "cells", "k"]
theorem sc_law : FnScope N_law ["script"] (defScope s_law) := ⟨rfl, rfl, rfl, by decide +kernel, rfl, by decide +kernel, by decide +kernel⟩
theorem no_law : NameOk N_law (defScope s_law) := ⟨by decide +kernel, by decide +kernel, by decide +kernel⟩
theorem gl_law_Pool : GL s_law "Pool" := by decide +kernel
theorem gl_law__law_a_deed : GL s_law "_law_a_deed" := by decide +kernel
theorem gl_law__law_cell : GL s_law "_law_cell" := by decide +kernel
theorem gl_law__law_looked : GL s_law "_law_looked" := by decide +kernel
theorem gl_law__law_take : GL s_law "_law_take" := by decide +kernel
theorem gl_law__law_well : GL s_law "_law_well" := by decide +kernel
theorem gl_law_len : GL s_law "len" := by decide +kernel
theorem gl_law_max : GL s_law "max" := by decide +kernel
theorem gl_law_range : GL s_law "range" := by decide +kernel
theorem db_Pool : DB "Pool" := by decide +kernel
theorem nn_Pool : ("Pool" : Str) ≠ "__name__" := by decide +kernel
theorem db__law_a_deed : DB "_law_a_deed" := by decide +kernel
theorem nn__law_a_deed : ("_law_a_deed" : Str) ≠ "__name__" := by decide +kernel
theorem db__law_cell : DB "_law_cell" := by decide +kernel
theorem nn__law_cell : ("_law_cell" : Str) ≠ "__name__" := by decide +kernel
theorem db__law_is_free : DB "_law_is_free" := by decide +kernel
theorem nn__law_is_free : ("_law_is_free" : Str) ≠ "__name__" := by decide +kernel
theorem db__law_looked : DB "_law_looked" := by decide +kernel
theorem nn__law_looked : ("_law_looked" : Str) ≠ "__name__" := by decide +kernel
theorem db__law_picked : DB "_law_picked" := by decide +kernel
theorem nn__law_picked : ("_law_picked" : Str) ≠ "__name__" := by decide +kernel
theorem db__law_some : DB "_law_some" := by decide +kernel
theorem nn__law_some : ("_law_some" : Str) ≠ "__name__" := by decide +kernel
theorem db__law_take : DB "_law_take" := by decide +kernel
theorem nn__law_take : ("_law_take" : Str) ≠ "__name__" := by decide +kernel
theorem db__law_well : DB "_law_well" := by decide +kernel
theorem nn__law_well : ("_law_well" : Str) ≠ "__name__" := by decide +kernel
theorem db__law_whole : DB "_law_whole" := by decide +kernel
theorem nn__law_whole : ("_law_whole" : Str) ≠ "__name__" := by decide +kernel
theorem db_all : DB "all" := by decide +kernel
theorem nn_all : ("all" : Str) ≠ "__name__" := by decide +kernel
theorem db_isinstance : DB "isinstance" := by decide +kernel
theorem nn_isinstance : ("isinstance" : Str) ≠ "__name__" := by decide +kernel
theorem db_len : DB "len" := by decide +kernel
theorem nn_len : ("len" : Str) ≠ "__name__" := by decide +kernel
theorem db_max : DB "max" := by decide +kernel
theorem nn_max : ("max" : Str) ≠ "__name__" := by decide +kernel
theorem db_sorted : DB "sorted" := by decide +kernel
theorem nn_sorted : ("sorted" : Str) ≠ "__name__" := by decide +kernel

structure Txt (P : Program) (w : World) (K : PySem.W.Frag) (mg : Str → Option Value) (C : Addr) : Prop where
  cl : Cls K C
  n_low : NoAttr K C "low"
  n_high : NoAttr K C "high"
  n_mark : NoAttr K C "mark"
  n_taken : NoAttr K C "taken"
  n_until : NoAttr K C "until"
  m_Pool : mg "Pool" = some (.ref C)
  b_all : mg "all" = none
  b_bool : mg "bool" = none
  b_int : mg "int" = none
  b_isinstance : mg "isinstance" = none
  b_len : mg "len" = none
  b_list : mg "list" = none
  b_max : mg "max" = none
  b_range : mg "range" = none
  b_sorted : mg "sorted" = none
  b_tuple : mg "tuple" = none
section
variable {P : Program} {w : World} {K : PySem.W.Frag} {mg : Str → Option Value} {base : Heap} {C : Addr}
local macro_rules | `(tactic| walk_at "rs1") => `(tactic| first | ((with_reducible refine' do_norm ?_ ?_); rotate_left; simp only [List.set_cons_succ, List.set_cons_zero]; exact rfl) | ((with_reducible refine' do_normU ?_ ?_); rotate_left; simp only [setAll, List.set_cons_succ, List.set_cons_zero]; exact rfl) | ((with_reducible refine' do_var ?_ ?_); rotate_left; exact rfl) | with_reducible refine do_c ?_ | with_reducible refine do_tab ?_ | with_reducible refine do_op ?_ | with_reducible refine do_seq ?_ | with_reducible refine do_set ?_ | with_reducible refine do_cons ?_ | with_reducible refine do_nil ?_ | with_reducible refine do_call ?_ | with_reducible refine do_ifs ?_ | with_reducible refine do_test ?_ | with_reducible refine do_ktest ?_ | with_reducible refine do_kT ?_ | with_reducible refine do_kF ?_ | with_reducible refine do_knT ?_ | with_reducible refine do_knF ?_ | with_reducible refine do_and ?_ | with_reducible refine do_or ?_ | with_reducible refine do_not ?_ | with_reducible refine do_if ?_ | with_reducible refine do_un ?_ | with_reducible refine do_chain ?_ | with_reducible refine do_kchT ?_ | with_reducible refine do_kchF ?_ | with_reducible refine do_tup ?_ | with_reducible refine do_lsf ?_ | with_reducible refine do_lst ?_ | ((with_reducible refine' do_size ?_ ?_); exact rfl) | with_reducible refine do_next ?_ | with_reducible refine do_ret ?_ | with_reducible refine do_retN ?_ | with_reducible refine do_drop ?_ | with_reducible refine do_asg ?_ | with_reducible refine do_gN ?_ | ((with_reducible refine' do_gU ?_ ?_); exact rfl) | with_reducible refine do_gSub ?_ | with_reducible refine do_forI ?_ | with_reducible refine do_itS ?_ | with_reducible refine do_kits_t ?_ | with_reducible refine do_kits_l ?_ | with_reducible refine do_itR ?_ | with_reducible refine do_forNil ?_ | with_reducible refine do_forCons ?_ | with_reducible refine do_comp ?_ | with_reducible refine do_fld ?_ | with_reducible refine do_sfld ?_ | with_reducible refine do_dget ?_ | with_reducible refine do_dput ?_ | with_reducible refine do_ddel ?_ | with_reducible refine do_din ?_ | with_reducible refine do_meth ?_ | with_reducible refine do_make ?_ | with_reducible refine do_dget2 ?_ | with_reducible refine do_dpop ?_ | with_reducible refine do_itR2 ?_ | with_reducible refine do_listR ?_ | with_reducible refine do_max2 ?_ | with_reducible refine do_dispV ?_ | with_reducible refine do_vnil ?_ | with_reducible refine do_vcons ?_ | with_reducible refine do_compM ?_ | with_reducible refine do_compO ?_ | with_reducible refine do_compNil ?_ | with_reducible refine do_compYes ?_ | with_reducible refine do_compT ?_ | with_reducible refine do_sl ?_ | with_reducible refine do_noP ?_ | with_reducible refine do_part ?_ | with_reducible refine do_kpart ?_ | with_reducible refine do_slT ?_ | with_reducible refine do_slL ?_ | with_reducible refine do_int0 ?_ | with_reducible refine do_addI ?_ | ((with_reducible refine' do_addT ?_ ?_); exact rfl) | ((with_reducible refine' do_addL ?_ ?_); exact rfl) | ((with_reducible refine' do_eq ?_ ?_ ?_); exact rfl; exact rfl) | ((with_reducible refine' do_ne ?_ ?_ ?_); exact rfl; exact rfl) | with_reducible refine do_is ?_ | with_reducible refine do_isnot ?_ | with_reducible refine do_ixT ?_ | with_reducible refine do_ixL ?_ | with_reducible refine do_len_t ?_ | with_reducible refine do_len_l ?_ | with_reducible refine do_tuple_l ?_ | with_reducible refine do_tuple_t ?_ | ((with_reducible refine' do_isi ?_ ?_); rotate_left; exact rfl) | with_reducible refine do_break ?_ | with_reducible refine do_cont ?_ | with_reducible refine do_andv ?_ | with_reducible refine do_orv ?_ | with_reducible refine do_notv ?_ | with_reducible refine do_knotv ?_ | with_reducible refine do_kandT ?_ | with_reducible refine do_kandF ?_ | with_reducible refine do_korT ?_ | with_reducible refine do_korF ?_ | with_reducible refine do_ord ?_ | with_reducible refine do_itX ?_ | with_reducible refine do_kitx ?_ | with_reducible refine do_list_t ?_ | with_reducible refine do_ltS ?_ | with_reducible refine do_gtS ?_ | with_reducible refine do_callV ?_ | with_reducible refine do_tabin ?_ | with_reducible refine do_ktabnot ?_ | with_reducible refine do_neg ?_ | with_reducible refine do_join ?_ | with_reducible refine do_kjoin ?_ | with_reducible refine do_append ?_)
local macro_rules | `(tactic| walk_at "rs") => `(tactic| (repeat walk_at "rs1"))
local macro_rules | `(tactic| walk_at "rd1") => `(tactic| first | ((with_reducible refine' do_norm ?_ ?_); rotate_left; simp only [List.set_cons_succ, List.set_cons_zero]; exact rfl) | ((with_reducible refine' do_normU ?_ ?_); rotate_left; simp only [setAll, List.set_cons_succ, List.set_cons_zero]; exact rfl) | ((with_reducible refine' do_var ?_ ?_); rotate_left; exact rfl) | with_reducible refine do_c ?_ | with_reducible refine do_tab ?_ | with_reducible refine do_op ?_ | with_reducible refine do_seq ?_ | with_reducible refine do_set ?_ | with_reducible refine do_cons ?_ | with_reducible refine do_nil ?_ | with_reducible refine do_call ?_ | with_reducible refine do_ifs ?_ | with_reducible refine do_test ?_ | with_reducible refine do_ktest ?_ | with_reducible refine do_kT ?_ | with_reducible refine do_kF ?_ | with_reducible refine do_knT ?_ | with_reducible refine do_knF ?_ | ((with_reducible refine' do_kT' ?_ ?_); exact rfl) | ((with_reducible refine' do_kF' ?_ ?_); exact rfl) | with_reducible refine do_and ?_ | with_reducible refine do_or ?_ | with_reducible refine do_not ?_ | with_reducible refine do_if ?_ | with_reducible refine do_un ?_ | with_reducible refine do_chain ?_ | with_reducible refine do_kchT ?_ | with_reducible refine do_kchF ?_ | with_reducible refine do_tup ?_ | with_reducible refine do_lsf ?_ | with_reducible refine do_lst ?_ | ((with_reducible refine' do_size ?_ ?_); exact rfl) | with_reducible refine do_next ?_ | with_reducible refine do_ret ?_ | with_reducible refine do_retN ?_ | with_reducible refine do_drop ?_ | with_reducible refine do_asg ?_ | with_reducible refine do_gN ?_ | ((with_reducible refine' do_gU ?_ ?_); exact rfl) | with_reducible refine do_gSub ?_ | with_reducible refine do_forI ?_ | with_reducible refine do_itS ?_ | with_reducible refine do_kits_t ?_ | with_reducible refine do_kits_l ?_ | with_reducible refine do_itR ?_ | with_reducible refine do_forNil ?_ | with_reducible refine do_forCons ?_ | with_reducible refine do_comp ?_ | with_reducible refine do_fld ?_ | with_reducible refine do_sfld ?_ | with_reducible refine do_dget ?_ | with_reducible refine do_dput ?_ | with_reducible refine do_ddel ?_ | with_reducible refine do_din ?_ | with_reducible refine do_meth ?_ | with_reducible refine do_make ?_ | with_reducible refine do_dget2 ?_ | with_reducible refine do_dpop ?_ | with_reducible refine do_itR2 ?_ | with_reducible refine do_listR ?_ | with_reducible refine do_max2 ?_ | with_reducible refine do_dispV ?_ | with_reducible refine do_vnil ?_ | with_reducible refine do_vcons ?_ | with_reducible refine do_compM ?_ | with_reducible refine do_compO ?_ | with_reducible refine do_compNil ?_ | with_reducible refine do_compYes ?_ | with_reducible refine do_compT ?_ | with_reducible refine do_sl ?_ | with_reducible refine do_noP ?_ | with_reducible refine do_part ?_ | with_reducible refine do_kpart ?_ | with_reducible refine do_slT ?_ | with_reducible refine do_slL ?_ | with_reducible refine do_int0 ?_ | with_reducible refine do_addI ?_ | ((with_reducible refine' do_addT ?_ ?_); exact rfl) | ((with_reducible refine' do_addL ?_ ?_); exact rfl) | ((with_reducible refine' do_eq ?_ ?_ ?_); exact rfl; exact rfl) | ((with_reducible refine' do_ne ?_ ?_ ?_); exact rfl; exact rfl) | with_reducible refine do_is ?_ | with_reducible refine do_isnot ?_ | with_reducible refine do_ixT ?_ | with_reducible refine do_ixL ?_ | with_reducible refine do_len_t ?_ | with_reducible refine do_len_l ?_ | with_reducible refine do_tuple_l ?_ | with_reducible refine do_tuple_t ?_ | ((with_reducible refine' do_isi ?_ ?_); rotate_left; exact rfl) | with_reducible refine do_break ?_ | with_reducible refine do_cont ?_ | with_reducible refine do_andv ?_ | with_reducible refine do_orv ?_ | with_reducible refine do_notv ?_ | with_reducible refine do_knotv ?_ | with_reducible refine do_kandT ?_ | with_reducible refine do_kandF ?_ | with_reducible refine do_korT ?_ | with_reducible refine do_korF ?_ | with_reducible refine do_ord ?_ | with_reducible refine do_itX ?_ | with_reducible refine do_kitx ?_ | with_reducible refine do_list_t ?_ | with_reducible refine do_ltS ?_ | with_reducible refine do_gtS ?_ | with_reducible refine do_callV ?_ | with_reducible refine do_tabin ?_ | with_reducible refine do_ktabnot ?_ | with_reducible refine do_neg ?_ | with_reducible refine do_join ?_ | with_reducible refine do_kjoin ?_ | with_reducible refine do_append ?_)
local macro_rules | `(tactic| walk_at "rd") => `(tactic| (repeat walk_at "rd1"))
/-- the bag: a list of three ints, drawn on at most n times -/
def BagO (o : RO) (n : Int) : Prop := ∃ x y t : Int, o = .lst [.int x, .int y, .int t] ∧ 0 ≤ x ∧ 0 ≤ y ∧ y < 2305843009213693951 ∧ 0 ≤ t ∧ t ≤ n
def Bag (M : RM) (b : Addr) (n : Int) : Prop := ∃ o, M b = some o ∧ BagO o n
theorem Bag.put {M : RM} {b : Addr} {o : RO} {n : Int} (h : BagO o n) : Bag (put M b o) b n := ⟨o, put_same, h⟩
theorem BagO.mono {o : RO} {m n : Int} (h : BagO o m) (l : m ≤ n) : BagO o n := by
  obtain ⟨x, y, t, e, h1, h2, h3, h4, h5⟩ := h
  exact ⟨x, y, t, e, h1, h2, h3, h4, Int.le_trans h5 l⟩
theorem small64 {i : Int} (h0 : 0 ≤ i) (h1 : i < 18446744073709551616) : i.natAbs < 2 ^ 64 := by
  have : (2 : Nat) ^ 64 = 18446744073709551616 := by decide
  omega
theorem cmul_left {i j : Int} (h0 : -18446744073709551616 < i) (h1 : i < 18446744073709551616) : CMul i j := .inl ⟨h0, h1⟩
theorem szl {n : Nat} (h : n ≤ 1000 := by first | decide | (simp only [List.length_cons, List.length_nil, List.length_append]; decide)) : n ≤ sizeLine := Nat.le_trans h (by decide)
theorem at0 {a : RV} {r : List RV} : atI (a :: r) 0 = some a := atI_nat (j := 0) rfl
theorem at1 {a b : RV} {r : List RV} : atI (a :: b :: r) 1 = some b := atI_nat (j := 1) rfl
theorem at2 {a b c : RV} {r : List RV} : atI (a :: b :: c :: r) 2 = some c := atI_nat (j := 2) rfl
theorem ix0 {n : Nat} : ixN (n + 1) 0 = some 0 := by unfold ixN; rw [if_pos (by omega), if_pos (by omega)]; rfl
theorem ix2 {n : Nat} : ixN (n + 3) 2 = some 2 := by unfold ixN; rw [if_pos (by omega), if_pos (by omega)]; rfl
/-- an item of a written list at a drawn place -/
theorem at_some {xs : List RV} {i : Int} (h0 : 0 ≤ i) (h1 : i < xs.length) : ∃ v, atI xs i = some v ∧ v ∈ xs := by
  obtain ⟨j, rfl⟩ := Int.eq_ofNat_of_zero_le h0
  have hj : j < xs.length := by omega
  exact ⟨xs[j], atI_nat (by simp [hj]), List.getElem_mem hj⟩
theorem at_eq {xs : List RV} {i : Int} {v : RV} {P : RV → Prop} (e : atI xs i = some v) (h : P v) : (match atI xs i with | some v => P v | none => False) := by rw [e]; exact h
theorem lk_here {α : Type} {k : Key} {v : α} {r : List (Key × α)} : lookK ((k, v) :: r) k = some v := by unfold lookK; rw [List.find?_cons, decide_eq_true rfl]; rfl
theorem lk_next {α : Type} {j k : Key} {v : α} {r : List (Key × α)} (h : ¬ j = k) : lookK ((j, v) :: r) k = lookK r k := by unfold lookK; rw [List.find?_cons, decide_eq_false h]
theorem lk_eq {kvs : List (Key × RV)} {k : Key} {v : RV} {P : RV → Prop} (e : lookK kvs k = some v) (h : P v) : (match lookK kvs k with | some v => P v | none => False) := by rw [e]; exact h
theorem ne_inr {a b : Str} (h : ¬ a = b) : ¬ (Sum.inr a : Key) = Sum.inr b := fun e => h (Sum.inr.inj e)
theorem rif_any {t : RTT} {ta tb : RTE} {σ : RSt} {M : RM} {Q : RVK} (p : RV → Prop) (h : ∀ v, p v → Q v M) (ht : ∀ Q' : Bool → RM → Prop, (∀ c, Q' c M) → t σ M Q') (ha : ∀ Q' : RVK, (∀ v, p v → Q' v M) → ta σ M Q') (hb : ∀ Q' : RVK, (∀ v, p v → Q' v M) → tb σ M Q') : rIf t ta tb σ M Q :=
  ht _ fun c => ⟨fun _ => ha Q h, fun _ => hb Q h⟩
theorem forL_inv {g : RTG} {tb : RTS} {D : RD} (J : RSt → RM → Prop) (p : RV → Prop) : ∀ (xs : List RV), (∀ x ∈ xs, p x) → (∀ x σ M (N : RSt → RM → Prop), p x → J σ M → (∀ σ' M', J σ' M' → N σ' M') → g x σ M fun σ2 M2 => tb { D with nx := N, ct := N, bk := D.nx } σ2 M2) →
    (∀ σ M, J σ M → D.nx σ M) → ∀ σ M, J σ M → rForL g tb D xs σ M
  | [], _, _, hd, σ, M, j => hd σ M j
  | x :: r, hp, hs, hd, σ, M, j => hs x σ M _ (hp x List.mem_cons_self) j fun σ' M' j' => forL_inv J p r (fun y hy => hp y (List.mem_cons_of_mem _ hy)) hs hd σ' M' j'
/-- what a reading wants of an item at a drawn place -/
theorem at_do {xs : List RV} {i : Int} {P : RV → Prop} (h0 : 0 ≤ i) (h1 : i < xs.length) (h : ∀ v ∈ xs, P v) : (match atI xs i with | some v => P v | none => False) := by
  obtain ⟨v, e, m⟩ := at_some h0 h1
  rw [e]
  exact h v m
def wholeR : RV → Option Bool
  | .int _ => some true
  | .bl _ => some false
  | .non => some false
  | .str _ => some false
  | .tup _ => some false
  | .ls _ => some false
  | _ => none
def AllI (lo hi : Int) : List RV → Prop
  | [] => True
  | .int k :: r => (lo ≤ k ∧ k ≤ hi) ∧ AllI lo hi r
  | _ :: _ => False
def AllS (p : Str → Prop) : List RV → Prop
  | [] => True
  | .str k :: r => p k ∧ AllS p r
  | _ :: _ => False
theorem allI_mem {lo hi : Int} : ∀ {xs : List RV}, AllI lo hi xs → ∀ v ∈ xs, ∃ k : Int, v = .int k ∧ lo ≤ k ∧ k ≤ hi
  | x :: r, h, v, m => by
    cases x with
    | int k =>
      rcases List.mem_cons.mp m with rfl | m
      · exact ⟨k, rfl, h.1.1, h.1.2⟩
      · exact allI_mem h.2 v m
    | _ => exact (show False from h).elim
theorem allS_mem {p : Str → Prop} : ∀ {xs : List RV}, AllS p xs → ∀ v ∈ xs, ∃ k : Str, v = .str k ∧ p k
  | x :: r, h, v, m => by
    cases x with
    | str k =>
      rcases List.mem_cons.mp m with rfl | m
      · exact ⟨k, rfl, h.1⟩
      · exact allS_mem h.2 v m
    | _ => exact (show False from h).elim
theorem at_ints (lo hi : Int) {xs : List RV} {i : Int} {P : RV → Prop} (h0 : 0 ≤ i) (h : ∀ k : Int, lo ≤ k → k ≤ hi → P (.int k)) (h1 : i < xs.length := by (simp only [List.length_cons, List.length_nil]; omega)) (ha : AllI lo hi xs := by (simp only [AllI, and_true]; omega)) : (match atI xs i with | some v => P v | none => False) :=
  at_do h0 h1 fun v hv => by obtain ⟨k, rfl, a, b⟩ := allI_mem ha v hv; exact h k a b
theorem at_strs (p : Str → Prop) {xs : List RV} {i : Int} {P : RV → Prop} (h0 : 0 ≤ i) (ha : AllS p xs) (h : ∀ k : Str, p k → P (.str k)) (h1 : i < xs.length := by (simp only [List.length_cons, List.length_nil]; omega)) : (match atI xs i with | some v => P v | none => False) :=
  at_do h0 h1 fun v hv => by obtain ⟨k, rfl, a⟩ := allS_mem ha v hv; exact h k a
theorem nums3 : R.nums (Int.toNat 3) = [.int 0, .int 1, .int 2] := rfl
theorem nums5 : R.nums (Int.toNat 5) = [.int 0, .int 1, .int 2, .int 3, .int 4] := rfl
theorem bt_sorted : bootBuiltins "sorted" = some (.builtin "sorted") := by decide +kernel
theorem bt_max : bootBuiltins "max" = some (.builtin "max") := by decide +kernel
theorem Bag.other {M : RM} {b p : Addr} {n : Int} {x : RO} (h : Bag M b n) (hp : p ≠ b) : Bag (R.put M p x) b n := by
  obtain ⟨o, e, k⟩ := h
  exact ⟨o, by rw [put_ne (fun z => hp z.symm)]; exact e, k⟩
/-! ### the pool and the law's own table -/
def tk (T : List Int) : List (Key × RV) := T.map fun n => ((Sum.inl n : Key), RV.bl true)
def uk (U : List (Int × Int)) : List (Key × RV) := U.map fun q => ((Sum.inl q.1 : Key), RV.int q.2)
def flds (lo hi mk : Int) (t u : Addr) : List (Str × RV) := [("low", .int lo), ("high", .int hi), ("mark", .int mk), ("taken", .ref t), ("until", .ref u)]
def ownK (lo hi mk now : Int) (t u : Addr) : List (Key × RV) := [((Sum.inr "low" : Key), .int lo), (Sum.inr "high", .int hi), (Sum.inr "taken", .ref t), (Sum.inr "until", .ref u), (Sum.inr "mark", .int mk), (Sum.inr "now", .int now)]
/-- what is untouched by a store elsewhere -/
structure PAt (M : RM) (C p t u : Addr) (lo hi mk : Int) (T : List Int) (U : List (Int × Int)) : Prop where
  ob : M p = some (.ins C (flds lo hi mk t u))
  tk : M t = some (.dk (tk T))
  un : M u = some (.dk (uk U))
  ne : t ≠ u
structure OAt (M : RM) (o t u : Addr) (lo hi mk now : Int) (T : List Int) (U : List (Int × Int)) : Prop where
  ob : M o = some (.dk (ownK lo hi mk now t u))
  tk : M t = some (.dk (K05.tk T))
  un : M u = some (.dk (uk U))
  ne : t ≠ u ∧ o ≠ t ∧ o ≠ u
/-- the value at a key -/
def valU (U : List (Int × Int)) (n : Int) : Option Int := (U.find? fun q => decide (q.1 = n)).map (·.2)
def freeF (lo hi now : Int) (T : List Int) (U : List (Int × Int)) (n : Int) : Bool := decide (lo ≤ n) && (decide (n ≤ hi) && (!decide (n ∈ T) && decide ((valU U n).getD 0 ≤ now)))
theorem bq_low_low : (("low" : Str) == ("low" : Str)) = true := by decide +kernel
theorem bq_low_high : (("low" : Str) == ("high" : Str)) = false := by decide +kernel
theorem bq_low_mark : (("low" : Str) == ("mark" : Str)) = false := by decide +kernel
theorem bq_low_taken : (("low" : Str) == ("taken" : Str)) = false := by decide +kernel
theorem bq_low_until : (("low" : Str) == ("until" : Str)) = false := by decide +kernel
theorem bq_high_low : (("high" : Str) == ("low" : Str)) = false := by decide +kernel
theorem bq_high_high : (("high" : Str) == ("high" : Str)) = true := by decide +kernel
theorem bq_high_mark : (("high" : Str) == ("mark" : Str)) = false := by decide +kernel
theorem bq_high_taken : (("high" : Str) == ("taken" : Str)) = false := by decide +kernel
theorem bq_high_until : (("high" : Str) == ("until" : Str)) = false := by decide +kernel
theorem bq_mark_low : (("mark" : Str) == ("low" : Str)) = false := by decide +kernel
theorem bq_mark_high : (("mark" : Str) == ("high" : Str)) = false := by decide +kernel
theorem bq_mark_mark : (("mark" : Str) == ("mark" : Str)) = true := by decide +kernel
theorem bq_mark_taken : (("mark" : Str) == ("taken" : Str)) = false := by decide +kernel
theorem bq_mark_until : (("mark" : Str) == ("until" : Str)) = false := by decide +kernel
theorem bq_taken_low : (("taken" : Str) == ("low" : Str)) = false := by decide +kernel
theorem bq_taken_high : (("taken" : Str) == ("high" : Str)) = false := by decide +kernel
theorem bq_taken_mark : (("taken" : Str) == ("mark" : Str)) = false := by decide +kernel
theorem bq_taken_taken : (("taken" : Str) == ("taken" : Str)) = true := by decide +kernel
theorem bq_taken_until : (("taken" : Str) == ("until" : Str)) = false := by decide +kernel
theorem bq_until_low : (("until" : Str) == ("low" : Str)) = false := by decide +kernel
theorem bq_until_high : (("until" : Str) == ("high" : Str)) = false := by decide +kernel
theorem bq_until_mark : (("until" : Str) == ("mark" : Str)) = false := by decide +kernel
theorem bq_until_taken : (("until" : Str) == ("taken" : Str)) = false := by decide +kernel
theorem bq_until_until : (("until" : Str) == ("until" : Str)) = true := by decide +kernel
theorem bq_has_low : (("has" : Str) == ("low" : Str)) = false := by decide +kernel
theorem bq_has_high : (("has" : Str) == ("high" : Str)) = false := by decide +kernel
theorem bq_has_mark : (("has" : Str) == ("mark" : Str)) = false := by decide +kernel
theorem bq_has_taken : (("has" : Str) == ("taken" : Str)) = false := by decide +kernel
theorem bq_has_until : (("has" : Str) == ("until" : Str)) = false := by decide +kernel
theorem bq_is_free_low : (("is_free" : Str) == ("low" : Str)) = false := by decide +kernel
theorem bq_is_free_high : (("is_free" : Str) == ("high" : Str)) = false := by decide +kernel
theorem bq_is_free_mark : (("is_free" : Str) == ("mark" : Str)) = false := by decide +kernel
theorem bq_is_free_taken : (("is_free" : Str) == ("taken" : Str)) = false := by decide +kernel
theorem bq_is_free_until : (("is_free" : Str) == ("until" : Str)) = false := by decide +kernel
theorem bq_from_mark_low : (("from_mark" : Str) == ("low" : Str)) = false := by decide +kernel
theorem bq_from_mark_high : (("from_mark" : Str) == ("high" : Str)) = false := by decide +kernel
theorem bq_from_mark_mark : (("from_mark" : Str) == ("mark" : Str)) = false := by decide +kernel
theorem bq_from_mark_taken : (("from_mark" : Str) == ("taken" : Str)) = false := by decide +kernel
theorem bq_from_mark_until : (("from_mark" : Str) == ("until" : Str)) = false := by decide +kernel
theorem bq_picked_low : (("picked" : Str) == ("low" : Str)) = false := by decide +kernel
theorem bq_picked_high : (("picked" : Str) == ("high" : Str)) = false := by decide +kernel
theorem bq_picked_mark : (("picked" : Str) == ("mark" : Str)) = false := by decide +kernel
theorem bq_picked_taken : (("picked" : Str) == ("taken" : Str)) = false := by decide +kernel
theorem bq_picked_until : (("picked" : Str) == ("until" : Str)) = false := by decide +kernel
theorem bq_take_low : (("take" : Str) == ("low" : Str)) = false := by decide +kernel
theorem bq_take_high : (("take" : Str) == ("high" : Str)) = false := by decide +kernel
theorem bq_take_mark : (("take" : Str) == ("mark" : Str)) = false := by decide +kernel
theorem bq_take_taken : (("take" : Str) == ("taken" : Str)) = false := by decide +kernel
theorem bq_take_until : (("take" : Str) == ("until" : Str)) = false := by decide +kernel
theorem bq_give_low : (("give" : Str) == ("low" : Str)) = false := by decide +kernel
theorem bq_give_high : (("give" : Str) == ("high" : Str)) = false := by decide +kernel
theorem bq_give_mark : (("give" : Str) == ("mark" : Str)) = false := by decide +kernel
theorem bq_give_taken : (("give" : Str) == ("taken" : Str)) = false := by decide +kernel
theorem bq_give_until : (("give" : Str) == ("until" : Str)) = false := by decide +kernel
theorem bq_resting_low : (("resting" : Str) == ("low" : Str)) = false := by decide +kernel
theorem bq_resting_high : (("resting" : Str) == ("high" : Str)) = false := by decide +kernel
theorem bq_resting_mark : (("resting" : Str) == ("mark" : Str)) = false := by decide +kernel
theorem bq_resting_taken : (("resting" : Str) == ("taken" : Str)) = false := by decide +kernel
theorem bq_resting_until : (("resting" : Str) == ("until" : Str)) = false := by decide +kernel
theorem bq_many_free_low : (("many_free" : Str) == ("low" : Str)) = false := by decide +kernel
theorem bq_many_free_high : (("many_free" : Str) == ("high" : Str)) = false := by decide +kernel
theorem bq_many_free_mark : (("many_free" : Str) == ("mark" : Str)) = false := by decide +kernel
theorem bq_many_free_taken : (("many_free" : Str) == ("taken" : Str)) = false := by decide +kernel
theorem bq_many_free_until : (("many_free" : Str) == ("until" : Str)) = false := by decide +kernel
theorem ns_high_low : ¬ ("high" : Str) = "low" := by decide +kernel
theorem ns_high_mark : ¬ ("high" : Str) = "mark" := by decide +kernel
theorem ns_high_now : ¬ ("high" : Str) = "now" := by decide +kernel
theorem ns_high_taken : ¬ ("high" : Str) = "taken" := by decide +kernel
theorem ns_high_until : ¬ ("high" : Str) = "until" := by decide +kernel
theorem ns_low_high : ¬ ("low" : Str) = "high" := by decide +kernel
theorem ns_low_mark : ¬ ("low" : Str) = "mark" := by decide +kernel
theorem ns_low_now : ¬ ("low" : Str) = "now" := by decide +kernel
theorem ns_low_taken : ¬ ("low" : Str) = "taken" := by decide +kernel
theorem ns_low_until : ¬ ("low" : Str) = "until" := by decide +kernel
theorem ns_mark_high : ¬ ("mark" : Str) = "high" := by decide +kernel
theorem ns_mark_low : ¬ ("mark" : Str) = "low" := by decide +kernel
theorem ns_mark_now : ¬ ("mark" : Str) = "now" := by decide +kernel
theorem ns_mark_taken : ¬ ("mark" : Str) = "taken" := by decide +kernel
theorem ns_mark_until : ¬ ("mark" : Str) = "until" := by decide +kernel
theorem ns_now_high : ¬ ("now" : Str) = "high" := by decide +kernel
theorem ns_now_low : ¬ ("now" : Str) = "low" := by decide +kernel
theorem ns_now_mark : ¬ ("now" : Str) = "mark" := by decide +kernel
theorem ns_now_taken : ¬ ("now" : Str) = "taken" := by decide +kernel
theorem ns_now_until : ¬ ("now" : Str) = "until" := by decide +kernel
theorem ns_taken_high : ¬ ("taken" : Str) = "high" := by decide +kernel
theorem ns_taken_low : ¬ ("taken" : Str) = "low" := by decide +kernel
theorem ns_taken_mark : ¬ ("taken" : Str) = "mark" := by decide +kernel
theorem ns_taken_now : ¬ ("taken" : Str) = "now" := by decide +kernel
theorem ns_taken_until : ¬ ("taken" : Str) = "until" := by decide +kernel
theorem ns_until_high : ¬ ("until" : Str) = "high" := by decide +kernel
theorem ns_until_low : ¬ ("until" : Str) = "low" := by decide +kernel
theorem ns_until_mark : ¬ ("until" : Str) = "mark" := by decide +kernel
theorem ns_until_now : ¬ ("until" : Str) = "now" := by decide +kernel
theorem ns_until_taken : ¬ ("until" : Str) = "taken" := by decide +kernel
theorem fl_low {lo hi mk : Int} {t u : Addr} : (flds lo hi mk t u).lookup ("low" : Str) = some (.int lo) := by simp only [flds, List.lookup_cons, bq_low_low]
theorem fl_high {lo hi mk : Int} {t u : Addr} : (flds lo hi mk t u).lookup ("high" : Str) = some (.int hi) := by simp only [flds, List.lookup_cons, bq_high_low, bq_high_high]
theorem fl_mark {lo hi mk : Int} {t u : Addr} : (flds lo hi mk t u).lookup ("mark" : Str) = some (.int mk) := by simp only [flds, List.lookup_cons, bq_mark_low, bq_mark_high, bq_mark_mark]
theorem fl_taken {lo hi mk : Int} {t u : Addr} : (flds lo hi mk t u).lookup ("taken" : Str) = some (.ref t) := by simp only [flds, List.lookup_cons, bq_taken_low, bq_taken_high, bq_taken_mark, bq_taken_taken]
theorem fl_until {lo hi mk : Int} {t u : Addr} : (flds lo hi mk t u).lookup ("until" : Str) = some (.ref u) := by simp only [flds, List.lookup_cons, bq_until_low, bq_until_high, bq_until_mark, bq_until_taken, bq_until_until]
theorem fl_has {lo hi mk : Int} {t u : Addr} : (flds lo hi mk t u).lookup ("has" : Str) = none := by simp only [flds, List.lookup_cons, List.lookup_nil, bq_has_low, bq_has_high, bq_has_mark, bq_has_taken, bq_has_until]
theorem fl_is_free {lo hi mk : Int} {t u : Addr} : (flds lo hi mk t u).lookup ("is_free" : Str) = none := by simp only [flds, List.lookup_cons, List.lookup_nil, bq_is_free_low, bq_is_free_high, bq_is_free_mark, bq_is_free_taken, bq_is_free_until]
theorem fl_from_mark {lo hi mk : Int} {t u : Addr} : (flds lo hi mk t u).lookup ("from_mark" : Str) = none := by simp only [flds, List.lookup_cons, List.lookup_nil, bq_from_mark_low, bq_from_mark_high, bq_from_mark_mark, bq_from_mark_taken, bq_from_mark_until]
theorem fl_picked {lo hi mk : Int} {t u : Addr} : (flds lo hi mk t u).lookup ("picked" : Str) = none := by simp only [flds, List.lookup_cons, List.lookup_nil, bq_picked_low, bq_picked_high, bq_picked_mark, bq_picked_taken, bq_picked_until]
theorem fl_take {lo hi mk : Int} {t u : Addr} : (flds lo hi mk t u).lookup ("take" : Str) = none := by simp only [flds, List.lookup_cons, List.lookup_nil, bq_take_low, bq_take_high, bq_take_mark, bq_take_taken, bq_take_until]
theorem fl_give {lo hi mk : Int} {t u : Addr} : (flds lo hi mk t u).lookup ("give" : Str) = none := by simp only [flds, List.lookup_cons, List.lookup_nil, bq_give_low, bq_give_high, bq_give_mark, bq_give_taken, bq_give_until]
theorem fl_resting {lo hi mk : Int} {t u : Addr} : (flds lo hi mk t u).lookup ("resting" : Str) = none := by simp only [flds, List.lookup_cons, List.lookup_nil, bq_resting_low, bq_resting_high, bq_resting_mark, bq_resting_taken, bq_resting_until]
theorem fl_many_free {lo hi mk : Int} {t u : Addr} : (flds lo hi mk t u).lookup ("many_free" : Str) = none := by simp only [flds, List.lookup_cons, List.lookup_nil, bq_many_free_low, bq_many_free_high, bq_many_free_mark, bq_many_free_taken, bq_many_free_until]
theorem ow_low {lo hi mk now : Int} {t u : Addr} : lookK (ownK lo hi mk now t u) (Sum.inr "low") = some (.int lo) := lk_here
theorem ow_high {lo hi mk now : Int} {t u : Addr} : lookK (ownK lo hi mk now t u) (Sum.inr "high") = some (.int hi) := (lk_next (ne_inr ns_low_high)).trans (lk_here)
theorem ow_taken {lo hi mk now : Int} {t u : Addr} : lookK (ownK lo hi mk now t u) (Sum.inr "taken") = some (.ref t) := (lk_next (ne_inr ns_low_taken)).trans ((lk_next (ne_inr ns_high_taken)).trans (lk_here))
theorem ow_until {lo hi mk now : Int} {t u : Addr} : lookK (ownK lo hi mk now t u) (Sum.inr "until") = some (.ref u) := (lk_next (ne_inr ns_low_until)).trans ((lk_next (ne_inr ns_high_until)).trans ((lk_next (ne_inr ns_taken_until)).trans (lk_here)))
theorem ow_mark {lo hi mk now : Int} {t u : Addr} : lookK (ownK lo hi mk now t u) (Sum.inr "mark") = some (.int mk) := (lk_next (ne_inr ns_low_mark)).trans ((lk_next (ne_inr ns_high_mark)).trans ((lk_next (ne_inr ns_taken_mark)).trans ((lk_next (ne_inr ns_until_mark)).trans (lk_here))))
theorem ow_now {lo hi mk now : Int} {t u : Addr} : lookK (ownK lo hi mk now t u) (Sum.inr "now") = some (.int now) := (lk_next (ne_inr ns_low_now)).trans ((lk_next (ne_inr ns_high_now)).trans ((lk_next (ne_inr ns_taken_now)).trans ((lk_next (ne_inr ns_until_now)).trans ((lk_next (ne_inr ns_mark_now)).trans (lk_here)))))
theorem op_mark {lo hi mk now v : Int} {t u : Addr} : putR (ownK lo hi mk now t u) (Sum.inr "mark") (.int v) = ownK lo hi v now t u := by
  simp only [putR, ownK, List.any_cons, List.map_cons, List.map_nil, Sum.inr.injEq, ns_low_mark, ns_high_mark, ns_taken_mark, ns_until_mark, ns_now_mark, decide_true, decide_false, Bool.true_or, Bool.or_true, Bool.false_or, if_true, if_false]
theorem op_now {lo hi mk now v : Int} {t u : Addr} : putR (ownK lo hi mk now t u) (Sum.inr "now") (.int v) = ownK lo hi mk v t u := by
  simp only [putR, ownK, List.any_cons, List.map_cons, List.map_nil, Sum.inr.injEq, ns_low_now, ns_high_now, ns_taken_now, ns_until_now, ns_mark_now, decide_true, decide_false, Bool.true_or, Bool.or_true, Bool.false_or, if_true, if_false]
theorem fp_mark {lo hi mk v : Int} {t u : Addr} : putFR "mark" (.int v) (flds lo hi mk t u) = flds lo hi v t u := by
  simp only [putFR, flds, if_neg ns_low_mark, if_neg ns_high_mark, if_true]
theorem fp_all {lo hi mk : Int} {t u : Addr} : putFR "until" (.ref u) (putFR "taken" (.ref t) (putFR "mark" (.int mk) (putFR "high" (.int hi) (putFR "low" (.int lo) [])))) = flds lo hi mk t u := by
  simp only [putFR, flds, if_neg ns_low_high, if_neg ns_low_mark, if_neg ns_high_mark, if_neg ns_low_taken, if_neg ns_high_taken, if_neg ns_mark_taken, if_neg ns_low_until, if_neg ns_high_until, if_neg ns_mark_until, if_neg ns_taken_until]
theorem look_tk (T : List Int) (n : Int) : lookK (tk T) (Sum.inl n) = if n ∈ T then some (.bl true) else none := by
  induction T with
  | nil => rfl
  | cons a r ih =>
    show lookK (((Sum.inl a : Key), RV.bl true) :: tk r) (Sum.inl n) = _
    by_cases h : a = n
    · subst h; rw [lk_here, if_pos List.mem_cons_self]
    · rw [lk_next (fun e => h (Sum.inl.inj e)), ih]
      have : (n ∈ a :: r) ↔ n ∈ r := by simp [Ne.symm h]
      by_cases hm : n ∈ r
      · rw [if_pos hm, if_pos (this.mpr hm)]
      · rw [if_neg hm, if_neg fun z => hm (this.mp z)]
theorem some_tk (T : List Int) (n : Int) : (lookK (tk T) (Sum.inl n)).isSome = decide (n ∈ T) := by
  rw [look_tk]
  by_cases h : n ∈ T
  · rw [if_pos h, decide_eq_true h]; rfl
  · rw [if_neg h, decide_eq_false h]; rfl
theorem look_uk (U : List (Int × Int)) (n : Int) : lookK (uk U) (Sum.inl n) = (valU U n).map RV.int := by
  induction U with
  | nil => rfl
  | cons a r ih =>
    show lookK (((Sum.inl a.1 : Key), RV.int a.2) :: uk r) (Sum.inl n) = _
    unfold valU
    rw [List.find?_cons]
    by_cases h : a.1 = n
    · rw [decide_eq_true h, h, lk_here]; rfl
    · rw [decide_eq_false h, lk_next (fun e => h (Sum.inl.inj e)), ih]; rfl
theorem keys_tk (T : List Int) : (tk T).map (·.1) = T.map Sum.inl := by simp [tk, List.map_map, Function.comp_def]
theorem keys_uk (U : List (Int × Int)) : (uk U).map (·.1) = (U.map (·.1)).map Sum.inl := by simp [uk, List.map_map, Function.comp_def]
theorem any_tk (T : List Int) (n : Int) : ((tk T).any fun kv => decide (kv.1 = Sum.inl n)) = decide (n ∈ T) := by
  induction T with
  | nil => rfl
  | cons a r ih =>
    show (decide ((Sum.inl a : Key) = Sum.inl n) || (tk r).any _) = _
    rw [ih]
    by_cases h : a = n
    · subst h; simp
    · rw [decide_eq_false (fun e => h (Sum.inl.inj e)), Bool.false_or]
      simp [Ne.symm h]
theorem put_tk {T : List Int} {n : Int} (h : n ∉ T) : putR (tk T) (Sum.inl n) (.bl true) = tk (T ++ [n]) := by
  unfold putR
  rw [any_tk, decide_eq_false h, if_neg Bool.false_ne_true]
  simp [tk]
theorem drop_tk (T : List Int) (n : Int) : dropR (tk T) (Sum.inl n) = tk (T.filter fun m => decide (m ≠ n)) := by
  unfold dropR tk
  rw [List.filter_map]
  congr 1
  apply List.filter_congr
  intro m _
  simp
def putU (U : List (Int × Int)) (n v : Int) : List (Int × Int) := if (U.any fun q => decide (q.1 = n)) = true then U.map (fun q => if q.1 = n then (q.1, v) else q) else U ++ [(n, v)]
theorem any_uk (U : List (Int × Int)) (n : Int) : ((uk U).any fun kv => decide (kv.1 = Sum.inl n)) = U.any fun q => decide (q.1 = n) := by
  induction U with
  | nil => rfl
  | cons a r ih =>
    show (decide ((Sum.inl a.1 : Key) = Sum.inl n) || (uk r).any _) = (decide (a.1 = n) || r.any _)
    rw [ih]
    by_cases h : a.1 = n
    · rw [decide_eq_true h, decide_eq_true (by rw [h])]
    · rw [decide_eq_false h, decide_eq_false (fun e => h (Sum.inl.inj e))]
theorem put_uk (U : List (Int × Int)) (n v : Int) : putR (uk U) (Sum.inl n) (.int v) = uk (putU U n v) := by
  unfold putR putU
  rw [any_uk]
  split
  · unfold uk
    rw [List.map_map, List.map_map]
    apply List.map_congr_left
    intro q _
    by_cases h : q.1 = n
    · simp [h]
    · simp [h]
  · simp [uk]
theorem drop_uk (U : List (Int × Int)) (n : Int) : dropR (uk U) (Sum.inl n) = uk (U.filter fun q => decide (q.1 ≠ n)) := by
  unfold dropR uk
  rw [List.filter_map]
  congr 1
  apply List.filter_congr
  intro q _
  simp
theorem val_put (U : List (Int × Int)) (n v m : Int) : valU (putU U n v) m = if m = n then some v else valU U m := by
  unfold putU
  split
  · rename_i h
    induction U with
    | nil => simp at h
    | cons a r ih =>
      rw [List.map_cons]
      unfold valU at ih ⊢
      rw [List.find?_cons, List.find?_cons]
      by_cases ha : a.1 = n
      · rw [if_pos ha]
        by_cases hm : m = n
        · rw [if_pos hm, decide_eq_true (show (a.1, v).1 = m by rw [hm]; exact ha)]; rfl
        · rw [decide_eq_false (show ¬ a.1 = m from fun e => hm (e.symm.trans ha)), if_neg hm]
          have e2 : (r.map fun q => if q.1 = n then (q.1, v) else q).find? (fun q => decide (q.1 = m)) = r.find? (fun q => decide (q.1 = m)) := by
            clear ih h
            induction r with
            | nil => rfl
            | cons b r ih2 =>
              rw [List.map_cons, List.find?_cons, List.find?_cons]
              by_cases hb : b.1 = n
              · rw [if_pos hb, decide_eq_false (show ¬ b.1 = m from fun e => hm (e.symm.trans hb))]; exact ih2
              · rw [if_neg hb]
                cases decide (b.1 = m) with
                | true => rfl
                | false => exact ih2
          exact congrArg _ e2
      · rw [if_neg ha]
        by_cases hm2 : a.1 = m
        · rw [decide_eq_true hm2, if_neg (fun e => ha (hm2.trans e))]
        · rw [decide_eq_false hm2]
          exact ih (by simpa [ha] using h)
  · rename_i h
    unfold valU
    rw [List.find?_append]
    by_cases hm : m = n
    · subst hm
      rw [if_pos rfl]
      have : U.find? (fun q => decide (q.1 = m)) = none := by
        rw [List.find?_eq_none]
        intro q hq e
        exact h (List.any_eq_true.mpr ⟨q, hq, e⟩)
      rw [this]; simp
    · rw [if_neg hm]
      cases U.find? (fun q => decide (q.1 = m)) with
      | some x => rfl
      | none => simp [Ne.symm hm]
theorem val_drop (U : List (Int × Int)) (n m : Int) : valU (U.filter fun q => decide (q.1 ≠ n)) m = if m = n then none else valU U m := by
  induction U with
  | nil => simp [valU]
  | cons a r ih =>
    rw [List.filter_cons]
    by_cases ha : a.1 = n
    · rw [if_neg (by simp [ha]), ih]
      by_cases hm : m = n
      · rw [if_pos hm, if_pos hm]
      · rw [if_neg hm, if_neg hm]
        unfold valU
        rw [List.find?_cons, decide_eq_false (fun e => hm (e.symm.trans ha))]
    · rw [if_pos (by simp [ha])]
      unfold valU at ih ⊢
      rw [List.find?_cons, List.find?_cons]
      by_cases hm2 : a.1 = m
      · rw [decide_eq_true hm2, if_neg (fun e => ha (hm2.trans e))]
      · rw [decide_eq_false hm2]; exact ih
theorem val_mem {U : List (Int × Int)} {n : Int} : (valU U n).isSome = true ↔ n ∈ U.map (·.1) := by
  unfold valU
  rw [Option.isSome_map, List.find?_isSome]
  constructor
  · rintro ⟨q, hq, e⟩
    exact List.mem_map.mpr ⟨q, hq, of_decide_eq_true e⟩
  · intro h
    obtain ⟨q, hq, e⟩ := List.mem_map.mp h
    exact ⟨q, hq, decide_eq_true e⟩
/-! ### free numbers, picked numbers -/
def freeP (lo hi m : Int) (T : List Int) (U : List (Int × Int)) (n : Int) : Bool := (decide (lo ≤ n) && decide (n ≤ hi)) && (!decide (n ∈ T) && (match valU U n with | none => true | some v => decide (v ≤ m)))
def freeL (lo hi m : Int) (T : List Int) (U : List (Int × Int)) (n : Int) : Bool := (!decide (n < lo) && (!decide (hi < n) && !decide (n ∈ T))) && decide ((valU U n).getD 0 ≤ m)
theorem free_same {lo hi m : Int} {T : List Int} {U V : List (Int × Int)} (h0 : 0 ≤ m) (h : ∀ n, valU V n = if n ∈ T then none else valU U n) (n : Int) : freeP lo hi m T V n = freeL lo hi m T U n := by
  unfold freeP freeL
  rw [h n]
  by_cases h1 : lo ≤ n
  · by_cases h2 : n ≤ hi
    · by_cases h3 : n ∈ T
      · simp [h3]
      · rw [if_neg h3, decide_eq_true h1, decide_eq_true h2, decide_eq_false h3, decide_eq_false (show ¬ n < lo by omega), decide_eq_false (show ¬ hi < n by omega)]
        cases valU U n with
        | none => simp [h0]
        | some v => simp
    · simp [h2, show hi < n by omega]
  · simp [h1, show n < lo by omega]
def nrs (lo : Int) (n : Nat) : List Int := (List.range n).map fun (i : Nat) => lo + (i : Int)
theorem nums_nrs (lo : Int) (n : Nat) : numsFrom lo n = (nrs lo n).map RV.int := by simp [numsFrom, nrs, List.map_map, Function.comp_def]
def orderP (lo hi mk : Int) : List Int := nrs mk (hi + 1 - mk).toNat ++ nrs lo (mk - lo).toNat
def orderL (lo hi mk : Int) : List Int := (List.range (hi - lo + 1).toNat).map fun (k : Nat) => lo + (mk - lo + (k : Int)) % (hi - lo + 1)
theorem order_same {lo hi mk : Int} (h1 : lo ≤ mk) (h2 : mk ≤ hi) : orderP lo hi mk = orderL lo hi mk := by
  apply List.ext_getElem
  · simp [orderP, orderL, nrs]; omega
  · intro i h3 h4
    have hl : i < (hi - lo + 1).toNat := by simpa [orderL] using h4
    simp only [orderP, orderL, nrs, List.getElem_map, List.getElem_range]
    by_cases hc : i < (hi + 1 - mk).toNat
    · rw [List.getElem_append_left (by simpa using hc)]
      simp only [List.getElem_map, List.getElem_range]
      rw [Int.emod_eq_of_lt (by omega) (by omega)]
      omega
    · rw [List.getElem_append_right (by simpa using Nat.le_of_not_lt hc)]
      simp only [List.getElem_map, List.getElem_range, List.length_map, List.length_range]
      have e : (mk - lo + (i : Int)) % (hi - lo + 1) = mk - lo + (i : Int) - (hi - lo + 1) := by
        rw [← Int.sub_emod_right, Int.emod_eq_of_lt (by omega) (by omega)]
      rw [e]
      omega
def pickF (free : Int → Bool) (way : Str) (door : Int) (order : List Int) : RV := if eqR (.str way) (.str "keep") = true ∧ free door = true then .int door else (match order.find? free with | some n => .int n | none => .non)
/-! ### sorted lists -/
def srt (l : List Int) : List Int := l.mergeSort (fun a b => decide (a ≤ b))
theorem srt_perm (l : List Int) : (srt l).Perm l := List.mergeSort_perm l _
theorem srt_sorted (l : List Int) : (srt l).Pairwise (· ≤ ·) := by
  have := List.pairwise_mergeSort (le := fun a b : Int => decide (a ≤ b)) (fun a b c h1 h2 => by simp at h1 h2 ⊢; omega) (fun a b => by simp; omega) l
  exact this.imp fun h => by simpa using h
theorem srt_eq {a l : List Int} (p : a.Perm l) (o : a.Pairwise (· ≤ ·)) : a = srt l := PySem.W.ksm_same (p.trans (srt_perm l).symm) o (srt_sorted l)
theorem srt_filter {a b : List Int} {p q : Int → Bool} (ha : a.Nodup) (hb : b.Nodup) (h : ∀ n, (n ∈ a ∧ p n = true) ↔ (n ∈ b ∧ q n = true)) : (srt a).filter p = (srt b).filter q := by
  refine PySem.W.ksm_same ?_ ((srt_sorted a).filter _) ((srt_sorted b).filter _)
  have na : ((srt a).filter p).Nodup := ((srt_perm a).nodup_iff.mpr ha).filter _
  have nb : ((srt b).filter q).Nodup := ((srt_perm b).nodup_iff.mpr hb).filter _
  rw [List.perm_ext_iff_of_nodup na nb]
  intro n
  rw [List.mem_filter, List.mem_filter, (srt_perm a).mem_iff, (srt_perm b).mem_iff]
  exact h n
def dueF (T : List Int) (U : List (Int × Int)) (m : Int) : List Int := (srt (U.map (·.1))).filter fun n => !decide (n ∈ T) && decide (m < (valU U n).getD 0)
def restF (U : List (Int × Int)) (m : Int) : List Int := (srt (U.map (·.1))).filter fun n => decide (m < (valU U n).getD 0)
def rowOf (U : List (Int × Int)) (n : Int) : RV := .tup [.int n, .int ((valU U n).getD 0)]
theorem nrs_nodup (lo : Int) (n : Nat) : (nrs lo n).Nodup := by
  unfold nrs
  exact List.Pairwise.map _ (fun a b h => by omega) (List.nodup_range (n := n))
theorem mem_nrs {lo hi n : Int} : n ∈ nrs lo (hi + 1 - lo).toNat ↔ lo ≤ n ∧ n ≤ hi := by
  unfold nrs
  rw [List.mem_map]
  constructor
  · rintro ⟨i, hi', rfl⟩
    rw [List.mem_range] at hi'
    omega
  · rintro ⟨h1, h2⟩
    exact ⟨(n - lo).toNat, by rw [List.mem_range]; omega, by omega⟩
theorem count_in {a b : List Int} (ha : a.Nodup) (hb : b.Nodup) (h : ∀ n ∈ b, n ∈ a) : (a.filter fun n => decide (n ∈ b)).length = b.length := by
  apply List.Perm.length_eq
  rw [List.perm_ext_iff_of_nodup (ha.filter _) hb]
  intro n
  rw [List.mem_filter]
  constructor
  · exact fun z => of_decide_eq_true z.2
  · exact fun z => ⟨h n z, decide_eq_true z⟩
theorem len3 (a : List Int) (p q r : Int → Bool) (h : ∀ n ∈ a, (p n = true ∧ q n = false ∧ r n = false) ∨ (p n = false ∧ q n = true ∧ r n = false) ∨ (p n = false ∧ q n = false ∧ r n = true)) : (a.filter p).length + (a.filter q).length + (a.filter r).length = a.length := by
  induction a with
  | nil => rfl
  | cons x l ih =>
    have ih := ih fun n hn => h n (List.mem_cons_of_mem _ hn)
    rw [List.filter_cons, List.filter_cons, List.filter_cons, List.length_cons]
    rcases h x List.mem_cons_self with ⟨e1, e2, e3⟩ | ⟨e1, e2, e3⟩ | ⟨e1, e2, e3⟩ <;> rw [e1, e2, e3] <;> simp <;> omega
theorem count_free {lo hi m : Int} {T : List Int} {U : List (Int × Int)} (h0 : 0 ≤ m) (hT : T.Nodup) (hU : (U.map (·.1)).Nodup) (tT : ∀ n ∈ T, lo ≤ n ∧ n ≤ hi) (tU : ∀ n ∈ U.map (·.1), lo ≤ n ∧ n ≤ hi) :
    ((nrs lo (hi + 1 - lo).toNat).filter (freeL lo hi m T U)).length + T.length + (dueF T U m).length = (hi + 1 - lo).toNat := by
  have hd : (dueF T U m).Nodup := ((srt_perm _).nodup_iff.mpr hU).filter _
  have md : ∀ n, n ∈ dueF T U m ↔ n ∈ U.map (·.1) ∧ n ∉ T ∧ m < (valU U n).getD 0 := fun n => by
    unfold dueF
    rw [List.mem_filter, (srt_perm _).mem_iff]
    simp
  have e1 := count_in (a := nrs lo (hi + 1 - lo).toNat) (nrs_nodup _ _) hT fun n hn => mem_nrs.mpr (tT n hn)
  have e2 := count_in (a := nrs lo (hi + 1 - lo).toNat) (nrs_nodup _ _) hd fun n hn => mem_nrs.mpr (tU n ((md n).mp hn).1)
  have e3 := len3 (nrs lo (hi + 1 - lo).toNat) (freeL lo hi m T U) (fun n => decide (n ∈ T)) (fun n => decide (n ∈ dueF T U m)) fun n hn => by
    obtain ⟨b1, b2⟩ := mem_nrs.mp hn
    by_cases h3 : n ∈ T
    · right; left
      refine ⟨by simp [freeL, h3], decide_eq_true h3, decide_eq_false fun z => ((md n).mp z).2.1 h3⟩
    · by_cases h4 : (valU U n).getD 0 ≤ m
      · left
        refine ⟨?_, decide_eq_false h3, decide_eq_false fun z => by have := ((md n).mp z).2.2; omega⟩
        unfold freeL
        rw [decide_eq_false (show ¬ n < lo by omega), decide_eq_false (show ¬ hi < n by omega), decide_eq_false h3, decide_eq_true h4]; rfl
      · right; right
        refine ⟨by simp [freeL, h4], decide_eq_false h3, decide_eq_true ((md n).mpr ⟨?_, h3, by omega⟩)⟩
        rw [← val_mem]
        cases q : valU U n with
        | none => rw [q] at h4; exact absurd h0 (by simpa using h4)
        | some v => rfl
  rw [e1, e2] at e3
  rw [e3]
  simp [nrs]

theorem andF {a b : Bool} {Q : RVK} {M : RM} (h : Q (.bl (a && b)) M) (e : a = false) : Q (.bl false) M := by subst e; exact h
theorem andT {a b : Bool} {Q : RVK} {M : RM} (h : Q (.bl (a && b)) M) (e : a = true) : Q (.bl b) M := by subst e; exact h
theorem blE {a b : Bool} {Q : RVK} {M : RM} (h : Q (.bl a) M) (e : a = b) : Q (.bl b) M := by subst e; exact h
theorem notT {b : Bool} (e : (!b) = true) : b = false := by cases b with | false => rfl | true => cases e
theorem notF {b : Bool} (e : (!b) = false) : b = true := by cases b with | true => rfl | false => cases e
theorem do_addL' {M : RM} {Q : RVK} {xs ys : List RV} (e : xs.length + ys.length ≤ sizeLine) (h : Q (.ls (xs ++ ys)) M) : R.rAdd (.ls xs) (.ls ys) M Q := ⟨e, h⟩
theorem PAt.ne1 {M : RM} {C p t u : Addr} {lo hi mk : Int} {T : List Int} {U : List (Int × Int)} (P : PAt M C p t u lo hi mk T U) : p ≠ t ∧ p ≠ u := ⟨fun e => (by have := P.ob; rw [e, P.tk] at this; cases this), fun e => (by have := P.ob; rw [e, P.un] at this; cases this)⟩
theorem put_at {M : RM} {b p : Addr} {x y : RO} (h : M p = some y) (hp : p ≠ b) : R.put M b x p = some y := by rw [put_ne hp]; exact h
theorem put_self {M : RM} {a : Addr} {o : RO} (h : M a = some o) : R.put M a o = M := by
  funext x
  unfold R.put
  by_cases e : x = a
  · rw [if_pos e, e, h]
  · rw [if_neg e]

/-- the pool and the law's own table, side by side -/
structure Jt (M : RM) (C p t u o t2 u2 : Addr) (lo hi mk now : Int) (T : List Int) (V U : List (Int × Int)) (k : Nat) : Prop where
  P : PAt M C p t u lo hi mk T V
  O : OAt M o t2 u2 lo hi mk now T U
  ap : [p, t, u, o, t2, u2].Nodup
  bd : 1 ≤ lo ∧ lo ≤ mk ∧ mk ≤ hi ∧ hi ≤ 9999 ∧ hi - lo ≤ 199
  now0 : 0 ≤ now
  val : ∀ n, valU V n = if n ∈ T then none else valU U n
  tn : T.Nodup
  un : (U.map (·.1)).Nodup
  vn : (V.map (·.1)).Nodup
  tr : ∀ n ∈ T, lo ≤ n ∧ n ≤ hi
  ur : ∀ n ∈ U.map (·.1), lo ≤ n ∧ n ≤ hi
  tl : T.length ≤ k
  ul : U.length ≤ k
  vl : V.length ≤ k
theorem Jt.keep {M M' : RM} {C p t u o t2 u2 b : Addr} {lo hi mk now : Int} {T : List Int} {V U : List (Int × Int)} {k : Nat} (J : Jt M C p t u o t2 u2 lo hi mk now T V U k) (hb : b ∉ [p, t, u, o, t2, u2]) (h : ∀ x o', x ≠ b → M x = some o' → M' x = some o') : Jt M' C p t u o t2 u2 lo hi mk now T V U k := by
  simp only [List.mem_cons, List.not_mem_nil, or_false, not_or] at hb
  obtain ⟨h1, h2, h3, h4, h5, h6⟩ := hb
  exact ⟨⟨h _ _ (Ne.symm h1) J.P.ob, h _ _ (Ne.symm h2) J.P.tk, h _ _ (Ne.symm h3) J.P.un, J.P.ne⟩, ⟨h _ _ (Ne.symm h4) J.O.ob, h _ _ (Ne.symm h5) J.O.tk, h _ _ (Ne.symm h6) J.O.un, J.O.ne⟩, J.ap, J.bd, J.now0, J.val, J.tn, J.un, J.vn, J.tr, J.ur, J.tl, J.ul, J.vl⟩
theorem Jt.nb {M : RM} {C p t u o t2 u2 b : Addr} {lo hi mk now n : Int} {T : List Int} {V U : List (Int × Int)} {k : Nat} (J : Jt M C p t u o t2 u2 lo hi mk now T V U k) (hB : Bag M b n) : b ∉ [p, t, u, o, t2, u2] := by
  obtain ⟨ob, eb, x, y, z, rfl, _⟩ := hB
  simp only [List.mem_cons, List.not_mem_nil, or_false, not_or]
  refine ⟨fun e => ?_, fun e => ?_, fun e => ?_, fun e => ?_, fun e => ?_, fun e => ?_⟩ <;> subst e
  · rw [J.P.ob] at eb; cases eb
  · rw [J.P.tk] at eb; cases eb
  · rw [J.P.un] at eb; cases eb
  · rw [J.O.ob] at eb; cases eb
  · rw [J.O.tk] at eb; cases eb
  · rw [J.O.un] at eb; cases eb

theorem Jt.keepB {M : RM} {C p t u o t2 u2 b : Addr} {lo hi mk now n : Int} {T : List Int} {V U : List (Int × Int)} {k : Nat} {x : RO} (J : Jt M C p t u o t2 u2 lo hi mk now T V U k) (hB : Bag M b n) : Jt (R.put M b x) C p t u o t2 u2 lo hi mk now T V U k := J.keep (J.nb hB) fun y o' hy e => by rw [put_ne hy]; exact e
theorem ap_of {p t u o t2 u2 : Addr} (h : [p, t, u, o, t2, u2].Nodup) : (p ≠ t ∧ p ≠ u ∧ p ≠ o ∧ p ≠ t2 ∧ p ≠ u2) ∧ (t ≠ u ∧ t ≠ o ∧ t ≠ t2 ∧ t ≠ u2) ∧ (u ≠ o ∧ u ≠ t2 ∧ u ≠ u2) ∧ (o ≠ t2 ∧ o ≠ u2) ∧ t2 ≠ u2 := by
  simp only [List.nodup_cons, List.mem_cons, List.not_mem_nil, or_false, not_or, List.nodup_nil, and_true, not_false_eq_true] at h
  obtain ⟨⟨a1, a2, a3, a4, a5⟩, ⟨b1, b2, b3, b4⟩, ⟨c1, c2, c3⟩, ⟨d1, d2⟩, e1⟩ := h
  exact ⟨⟨a1, a2, a3, a4, a5⟩, ⟨b1, b2, b3, b4⟩, ⟨c1, c2, c3⟩, ⟨d1, d2⟩, e1⟩
theorem Bag.mono {M : RM} {b : Addr} {m n : Int} (h : Bag M b m) (l : m ≤ n) : Bag M b n := by
  obtain ⟨o, e, ho⟩ := h
  exact ⟨o, e, ho.mono l⟩

theorem Jt.fresh {M : RM} {C p t u o t2 u2 q : Addr} {lo hi mk now : Int} {T : List Int} {V U : List (Int × Int)} {k : Nat} {x : RO} (J : Jt M C p t u o t2 u2 lo hi mk now T V U k) (hq : M q = none) : Jt (R.put M q x) C p t u o t2 u2 lo hi mk now T V U k := by
  refine J.keep (b := q) ?_ fun y o' hy e => by rw [put_ne hy]; exact e
  simp only [List.mem_cons, List.not_mem_nil, or_false, not_or]
  refine ⟨fun e => ?_, fun e => ?_, fun e => ?_, fun e => ?_, fun e => ?_, fun e => ?_⟩ <;> subst e
  · rw [J.P.ob] at hq; cases hq
  · rw [J.P.tk] at hq; cases hq
  · rw [J.P.un] at hq; cases hq
  · rw [J.O.ob] at hq; cases hq
  · rw [J.O.tk] at hq; cases hq
  · rw [J.O.un] at hq; cases hq
theorem Bag.fresh {M : RM} {b q : Addr} {n : Int} {x : RO} (h : Bag M b n) (hq : M q = none) : Bag (R.put M q x) b n := Bag.other h fun e => by obtain ⟨o, eo, _⟩ := h; rw [e, eo] at hq; cases hq
theorem at_some_int' {l : List Int} {i : Int} {P : RV → Prop} (h0 : 0 ≤ i) (h1 : i < (l.map RV.int).length) (h : ∀ n ∈ l, P (.int n)) : (match atI (l.map RV.int) i with | some v => P v | none => False) := at_do h0 h1 fun v hv => by
  obtain ⟨n, hn, rfl⟩ := List.mem_map.mp hv
  exact h n hn

theorem Jt.nfresh {M : RM} {C p t u o t2 u2 q : Addr} {lo hi mk now : Int} {T : List Int} {V U : List (Int × Int)} {k : Nat} (J : Jt M C p t u o t2 u2 lo hi mk now T V U k) (hq : M q = none) : q ∉ [p, t, u, o, t2, u2] := by
  simp only [List.mem_cons, List.not_mem_nil, or_false, not_or]
  refine ⟨fun e => ?_, fun e => ?_, fun e => ?_, fun e => ?_, fun e => ?_, fun e => ?_⟩ <;> subst e
  · rw [J.P.ob] at hq; cases hq
  · rw [J.P.tk] at hq; cases hq
  · rw [J.P.un] at hq; cases hq
  · rw [J.O.ob] at hq; cases hq
  · rw [J.O.tk] at hq; cases hq
  · rw [J.O.un] at hq; cases hq
theorem Jt.putN {M : RM} {C p t u o t2 u2 q : Addr} {lo hi mk now : Int} {T : List Int} {V U : List (Int × Int)} {k : Nat} {x : RO} (J : Jt M C p t u o t2 u2 lo hi mk now T V U k) (hq : q ∉ [p, t, u, o, t2, u2]) : Jt (R.put M q x) C p t u o t2 u2 lo hi mk now T V U k := J.keep hq fun y o' hy e => by rw [put_ne hy]; exact e
theorem for_each {g : RTG} {tb : RTS} {n b c : RSt → RM → Prop} {r : RVK} (ns : List Int) (J : List Int → RSt → RM → Prop) (hs : ∀ done x rest σ M (N : RSt → RM → Prop), ns = done ++ x :: rest → J done σ M → (∀ σ' M', J (done ++ [x]) σ' M' → N σ' M') → g (.int x) σ M fun σ2 M2 => tb ⟨N, r, n, N⟩ σ2 M2) (hd : ∀ σ M, J ns σ M → n σ M) : ∀ (rest done : List Int), ns = done ++ rest → ∀ σ M, J done σ M → rForL g tb ⟨n, r, b, c⟩ (rest.map RV.int) σ M
  | [], done, e, σ, M, j => hd σ M (by rw [e, List.append_nil]; exact j)
  | x :: rest, done, e, σ, M, j => by
    refine do_forCons (hs done x rest σ M _ e j fun σ' M' j' => ?_)
    exact for_each ns J hs hd rest (done ++ [x]) (by rw [e]; simp) σ' M' j'
theorem rows_ok (U : List (Int × Int)) (l : List Int) : okR 16 (.ls (l.map (rowOf U))) = true := by
  show (l.map (rowOf U)).all (okR 15) = true
  rw [List.all_eq_true]
  intro x hx
  obtain ⟨n, _, rfl⟩ := List.mem_map.mp hx
  rfl
theorem rest_same {lo hi now : Int} {T : List Int} {V U : List (Int × Int)} (h0 : 0 ≤ now) (hv : ∀ n, valU V n = if n ∈ T then none else valU U n) (un : (U.map (·.1)).Nodup) (vn : (V.map (·.1)).Nodup) : (restF V now).map (rowOf V) = (dueF T U now).map (rowOf U) := by
  have e1 : restF V now = dueF T U now := by
    unfold restF dueF
    refine srt_filter vn un fun n => ?_
    rw [← val_mem, ← val_mem, hv n]
    by_cases e : n ∈ T
    · simp [e]
    · simp [e]
  rw [e1]
  refine List.map_congr_left fun n hn => ?_
  unfold dueF at hn
  have h2 := (List.mem_filter.mp hn).2
  simp only [Bool.and_eq_true, Bool.not_eq_true', decide_eq_false_iff_not] at h2
  unfold rowOf
  rw [hv n, if_neg h2.1]

@[irreducible] def sp__law_cell : RSp := fun rs M Q => ∃ (ns : List Int) (k : Int), rs = [.ls (ns.map RV.int), .int k] ∧ 0 ≤ k ∧ ∀ i : Int, Q (.int i) M
set_option maxHeartbeats 4000000 in
theorem fn__law_cell {f : Addr} {fd : FuncData} (F : Fun K "_law_cell" "_law_cell" s__law_cell f fd) (T : Txt P w K mg C)  : FnOk P w K mg base CX0 1 f fd ["script", "k"] (upSp K sp__law_cell) := by
  refine' rfnok F sc__law_cell (fun rs M Q h => ?len) (fun cdv A outer s H E hr => ?term) (fun rs M Q h => ?body)
  case term =>
   refine' scons ?h15 ?h16
   case' h15 => refine' sif ?h12 ?h13 ?h14
   case' h12 => refine' rtcmp olt ?h6 ?h7
   case' h6 => exact rvN 1 no__law_cell
   case' h7 => refine' rcallB clen T.b_len bt_len ?h5 (hg := gl__law_cell_len) (hdb := db_len) (hn := nn_len)
   case' h5 => refine' acons ?h3 ?h4
   case' h3 => exact rvN 0 no__law_cell
   case' h4 => exact anil
   case' h13 => refine' sone ?h11
   case' h11 => refine' sret ?h10
   case' h10 => refine' rix ?h8 ?h9
   case' h8 => exact rvN 0 no__law_cell
   case' h9 => exact rvN 1 no__law_cell
   case' h14 => exact snil
   case' h16 => refine' sone ?h2
   case' h2 => refine' sret ?h1
   case' h1 => exact ri
  case len =>
    unfold sp__law_cell at h; obtain ⟨ns, k, rfl, _⟩ := h; rfl
  case body =>
    unfold sp__law_cell at h
    obtain ⟨ns, k, rfl, h0, h⟩ := h
    simp only [R.rSeq, R.rIfS, R.rSet, R.rRet, R.rRetN, R.rTest, R.rOp, R.rVar, R.rC, R.rCons, R.rNil, R.rCall, R.rTup, R.rLsF, R.rLst, R.rIx, R.rAsg, R.rgSub, R.rgN, R.rgU, R.setAll, R.rInt0, R.rInt2, R.rAdd, R.rNext, R.rDrop, R.rIf, R.rAnd, R.rOr, R.rNot, R.rAndV, R.rOrV, R.rNotV, R.rChain, R.rUn, R.rgNeg, R.rSl, R.rPart, R.rNoP, R.rSlc, R.rForI, R.rItS, R.rItR, R.rRngI, R.rComp, R.rYes, R.rTuple, R.rLen, R.rIsi, R.rEqq, R.rNeq, R.rIs, R.rIsNot, R.rTab, R.rDispGet, R.rSetL, R.rMul, R.isN, R.keyR, R.rstart, R.is_int, R.is_bool, R.is_str, R.is_tuple, R.is_list, R.rGt, R.rMod, R.rDiv, R.rPow, R.rShr, R.rBand, R.rLt, R.rLe, R.rGe, R.rSub, List.map_cons, List.map_nil, List.set_cons_zero, List.set_cons_succ, List.length_cons, List.length_nil, List.replicate_succ, List.replicate_zero, List.cons_append, List.nil_append, List.getElem?_cons_zero, List.getElem?_cons_succ, Nat.reduceSub, Nat.reduceAdd, true_implies, Bool.false_eq_true, Bool.true_eq_false, reduceCtorEq, false_implies, and_true, true_and, Option.join_some, Nat.zero_add, decide_eq_true_eq, decide_eq_false_iff_not, List.append_nil]
    refine ⟨fun hk => ?_, fun _ => h 0⟩
    refine at_do h0 (by simpa using hk) fun v hv => ?_
    obtain ⟨i, _, rfl⟩ := List.mem_map.mp hv
    exact h i
theorem cell_do {M : RM} {ns : List Int} {k : Int} {Q : RVK} (h0 : 0 ≤ k) (h : ∀ i : Int, Q (.int i) M) : sp__law_cell [.ls (ns.map RV.int), .int k] M Q := by
  unfold sp__law_cell; exact ⟨ns, k, rfl, h0, h⟩
@[irreducible] def sp__law_take : RSp := fun rs M Q => ∃ (b : Addr) (m n : Int), rs = [.ref b, .int m] ∧ 0 < m ∧ m < 1073741824 ∧ Bag M b n ∧ n ≤ 100000 ∧ ∀ (r : Int) (o : RO), 0 ≤ r → r < m → BagO o (n + 1) → Q (.int r) (put M b o)
set_option maxHeartbeats 4000000 in
theorem fn__law_take {f : Addr} {fd : FuncData} (F : Fun K "_law_take" "_law_take" s__law_take f fd) (T : Txt P w K mg C)  : FnOk P w K mg base CX0 1 f fd ["bag", "many"] (upSp K sp__law_take) := by
  refine' rfnok F sc__law_take (fun rs M Q h => ?len) (fun cdv A outer s H E hr => ?term) (fun rs M Q h => ?body)
  case term =>
   refine' scons ?h78 ?h79
   case' h78 => refine' sif ?h75 ?h76 ?h77
   case' h75 => refine' rtcmp ogt ?h55 ?h56
   case' h55 => refine' rix ?h53 ?h54
   case' h53 => exact rvN 0 no__law_take
   case' h54 => exact ri
   case' h56 => exact ri
   case' h76 => refine' scons ?h73 ?h74
   case' h73 => refine' ssetN 4 no__law_take ?h72
   case' h72 => refine' rop omod ?h70 ?h71
   case' h70 => refine' rix ?h68 ?h69
   case' h68 => exact rvN 0 no__law_take
   case' h69 => exact ri
   case' h71 => exact rvN 1 no__law_take
   case' h74 => refine' scons ?h66 ?h67
   case' h66 => refine' sasg ?h63 (gsub ?h64 ?h65 osetl)
   case' h63 => refine' rop odiv ?h61 ?h62
   case' h61 => refine' rix ?h59 ?h60
   case' h59 => exact rvN 0 no__law_take
   case' h60 => exact ri
   case' h62 => exact rvN 1 no__law_take
   case' h64 => exact rvN 0 no__law_take
   case' h65 => exact ri
   case' h67 => refine' sone ?h58
   case' h58 => refine' sret ?h57
   case' h57 => exact rvN 4 no__law_take
   case' h77 => exact snil
   case' h79 => refine' scons ?h51 ?h52
   case' h51 => refine' sasg ?h48 (gsub ?h49 ?h50 osetl)
   case' h48 => refine' rop oadd ?h46 ?h47
   case' h46 => refine' rix ?h44 ?h45
   case' h44 => exact rvN 0 no__law_take
   case' h45 => exact ri
   case' h47 => exact ri
   case' h49 => exact rvN 0 no__law_take
   case' h50 => exact ri
   case' h52 => refine' scons ?h42 ?h43
   case' h42 => refine' ssetN 2 no__law_take ?h41
   case' h41 => exact ri
   case' h43 => refine' scons ?h39 ?h40
   case' h39 => refine' ssetN 3 no__law_take ?h38
   case' h38 => refine' rop omod ?h36 ?h37
   case' h36 => refine' rop oadd ?h34 ?h35
   case' h34 => refine' rix ?h28 ?h29
   case' h28 => exact rvN 0 no__law_take
   case' h29 => exact ri
   case' h35 => refine' rop omul ?h32 ?h33
   case' h32 => exact ri
   case' h33 => refine' rix ?h30 ?h31
   case' h30 => exact rvN 0 no__law_take
   case' h31 => exact ri
   case' h37 => exact rvN 2 no__law_take
   case' h40 => refine' scons ?h26 ?h27
   case' h26 => refine' ssetN 3 no__law_take ?h25
   case' h25 => refine' rop omod ?h23 ?h24
   case' h23 => refine' rop oadd ?h21 ?h22
   case' h21 => refine' rop oadd ?h19 ?h20
   case' h19 => refine' rop omul ?h11 ?h12
   case' h11 => exact rvN 3 no__law_take
   case' h12 => exact rvN 3 no__law_take
   case' h20 => refine' rop omul ?h17 ?h18
   case' h17 => exact ri
   case' h18 => refine' rop opow ?h15 ?h16
   case' h15 => refine' rix ?h13 ?h14
   case' h13 => exact rvN 0 no__law_take
   case' h14 => exact ri
   case' h16 => exact ri
   case' h22 => exact ri
   case' h24 => exact rvN 2 no__law_take
   case' h27 => refine' sone ?h10
   case' h10 => refine' sret ?h9
   case' h9 => refine' rop omod ?h7 ?h8
   case' h7 => refine' rop odiv ?h5 ?h6
   case' h5 => refine' rop omod ?h3 ?h4
   case' h3 => refine' rop opow ?h1 ?h2
   case' h1 => exact rvN 3 no__law_take
   case' h2 => exact ri
   case' h4 => exact rvN 2 no__law_take
   case' h6 => exact ri
   case' h8 => exact rvN 1 no__law_take
  case len =>
    unfold sp__law_take at h; obtain ⟨b, m, n, rfl, _⟩ := h; rfl
  case body =>
    unfold sp__law_take at h
    obtain ⟨b, m, n, rfl, m0, m1, ⟨o, hb, x, y, t, rfl, x0, y0, y1, t0, t1⟩, hn, h⟩ := h
    simp only [R.rSeq, R.rIfS, R.rSet, R.rRet, R.rRetN, R.rTest, R.rOp, R.rVar, R.rC, R.rCons, R.rNil, R.rCall, R.rTup, R.rLsF, R.rLst, R.rIx, R.rAsg, R.rgSub, R.rgN, R.rgU, R.setAll, R.rInt0, R.rInt2, R.rAdd, R.rNext, R.rDrop, R.rIf, R.rAnd, R.rOr, R.rNot, R.rAndV, R.rOrV, R.rNotV, R.rChain, R.rUn, R.rgNeg, R.rSl, R.rPart, R.rNoP, R.rSlc, R.rForI, R.rItS, R.rItR, R.rRngI, R.rComp, R.rYes, R.rTuple, R.rLen, R.rIsi, R.rEqq, R.rNeq, R.rIs, R.rIsNot, R.rTab, R.rDispGet, R.rSetL, R.rMul, R.isN, R.keyR, R.rstart, R.is_int, R.is_bool, R.is_str, R.is_tuple, R.is_list, R.rGt, R.rMod, R.rDiv, R.rPow, R.rShr, R.rBand, R.rLt, R.rLe, R.rGe, R.rSub, List.map_cons, List.map_nil, List.set_cons_zero, List.set_cons_succ, List.length_cons, List.length_nil, List.replicate_succ, List.replicate_zero, List.cons_append, List.nil_append, List.getElem?_cons_zero, List.getElem?_cons_succ, Nat.reduceSub, Nat.reduceAdd, true_implies, Bool.false_eq_true, Bool.true_eq_false, reduceCtorEq, false_implies, and_true, true_and, Option.join_some, Nat.zero_add, decide_eq_true_eq, decide_eq_false_iff_not, List.append_nil, hb, at0, at1, at2, ix0, ix2, R.put_same, R.put_put]
    generalize e1 : (y + 1000003 * (t + 1)) % 2305843009213693951 = a
    have a0 : 0 ≤ a ∧ a < 2305843009213693951 := by subst e1; exact ⟨Int.emod_nonneg _ (by decide), Int.emod_lt_of_pos _ (by decide)⟩
    generalize e2 : (a * a + 7919 * (t + 1) ^ Int.toNat 2 + 5) % 2305843009213693951 = c
    have c0 : 0 ≤ c ∧ c < 2305843009213693951 := by subst e2; exact ⟨Int.emod_nonneg _ (by decide), Int.emod_lt_of_pos _ (by decide)⟩
    refine ⟨fun hx => ⟨m0, ⟨m0, m1⟩, h _ _ (Int.emod_nonneg _ (by omega)) (Int.emod_lt_of_pos _ m0) ⟨x / m, y, t, rfl, Int.ediv_nonneg x0 (by omega), y0, y1, t0, by omega⟩⟩, fun hx => ⟨cmul_left (by decide) (by decide), by decide, cmul_left (by omega) (by omega), ⟨by decide, by decide, small64 (by omega) (by omega)⟩, cmul_left (by decide) (by decide), by decide, ⟨by decide, by decide, small64 (by omega) (by omega)⟩, by decide, ⟨by decide, by decide⟩, m0, h _ _ (Int.emod_nonneg _ (by omega)) (Int.emod_lt_of_pos _ m0) ⟨x, y, t + 1, rfl, x0, y0, y1, by omega, by omega⟩⟩⟩
theorem take_do {M : RM} {b : Addr} {m n : Int} {Q : RVK} (hB : Bag M b n) (m0 : 0 < m) (m1 : m < 1073741824) (hn : n ≤ 100000) (h : ∀ (r : Int) (o : RO), 0 ≤ r → r < m → BagO o (n + 1) → Q (.int r) (put M b o)) : sp__law_take [.ref b, .int m] M Q :=
  by unfold sp__law_take; exact ⟨b, m, n, rfl, m0, m1, hB, hn, h⟩
@[irreducible] def sp__law_whole : RSp := fun rs M Q => ∃ (x : RV) (b : Bool), rs = [x] ∧ wholeR x = some b ∧ Q (.bl b) M
set_option maxHeartbeats 4000000 in
theorem fn__law_whole {f : Addr} {fd : FuncData} (F : Fun K "_law_whole" "_law_whole" s__law_whole f fd) (T : Txt P w K mg C)  : FnOk P w K mg base CX0 1 f fd ["found"] (upSp K sp__law_whole) := by
  refine' rfnok F sc__law_whole (fun rs M Q h => ?len) (fun cdv A outer s H E hr => ?term) (fun rs M Q h => ?body)
  case term =>
   refine' sone ?h16
   case' h16 => refine' sret ?h15
   case' h15 => refine' randv ?h13 ?h14
   case' h13 => refine' rcallB cisi_int T.b_isinstance bt_isinstance ?h12 (hg := gl__law_whole_isinstance) (hdb := db_isinstance) (hn := nn_isinstance)
   case' h12 => refine' acons ?h10 ?h11
   case' h10 => exact rvN 0 no__law_whole
   case' h11 => refine' acons ?h8 ?h9
   case' h8 => exact rty_int T.b_int gl__law_whole_int
   case' h9 => exact anil
   case' h14 => refine' rone ?h7
   case' h7 => refine' rnotv ?h6
   case' h6 => refine' rcallB cisi_bool T.b_isinstance bt_isinstance ?h5 (hg := gl__law_whole_isinstance) (hdb := db_isinstance) (hn := nn_isinstance)
   case' h5 => refine' acons ?h3 ?h4
   case' h3 => exact rvN 0 no__law_whole
   case' h4 => refine' acons ?h1 ?h2
   case' h1 => exact rty_bool T.b_bool gl__law_whole_bool
   case' h2 => exact anil
  case len =>
    unfold sp__law_whole at h; obtain ⟨x, b, rfl, _⟩ := h; rfl
  case body =>
    unfold sp__law_whole at h
    obtain ⟨x, b, rfl, e, h⟩ := h
    cases x <;> first | (cases e; done) | (cases e; simp only [R.rSeq, R.rIfS, R.rSet, R.rRet, R.rRetN, R.rTest, R.rOp, R.rVar, R.rC, R.rCons, R.rNil, R.rCall, R.rTup, R.rLsF, R.rLst, R.rIx, R.rAsg, R.rgSub, R.rgN, R.rgU, R.setAll, R.rInt0, R.rInt2, R.rAdd, R.rNext, R.rDrop, R.rIf, R.rAnd, R.rOr, R.rNot, R.rAndV, R.rOrV, R.rNotV, R.rChain, R.rUn, R.rgNeg, R.rSl, R.rPart, R.rNoP, R.rSlc, R.rForI, R.rItS, R.rItR, R.rRngI, R.rComp, R.rYes, R.rTuple, R.rLen, R.rIsi, R.rEqq, R.rNeq, R.rIs, R.rIsNot, R.rTab, R.rDispGet, R.rSetL, R.rMul, R.isN, R.keyR, R.rstart, R.is_int, R.is_bool, R.is_str, R.is_tuple, R.is_list, R.rGt, R.rMod, R.rDiv, R.rPow, R.rShr, R.rBand, R.rLt, R.rLe, R.rGe, R.rSub, List.map_cons, List.map_nil, List.set_cons_zero, List.set_cons_succ, List.length_cons, List.length_nil, List.replicate_succ, List.replicate_zero, List.cons_append, List.nil_append, List.getElem?_cons_zero, List.getElem?_cons_succ, Nat.reduceSub, Nat.reduceAdd, true_implies, Bool.false_eq_true, Bool.true_eq_false, reduceCtorEq, false_implies, and_true, true_and, Option.join_some, Nat.zero_add, decide_eq_true_eq, decide_eq_false_iff_not, List.append_nil, Bool.not_true, Bool.not_false]; exact h)
theorem whole_do {M : RM} {x : RV} {b : Bool} {Q : RVK} (e : wholeR x = some b) (h : Q (.bl b) M) : sp__law_whole [x] M Q := by
  unfold sp__law_whole; exact ⟨x, b, rfl, e, h⟩


@[irreducible] def sp_Pool_init (C : Addr) : RSp := fun rs M Q => ∃ (p : Addr) (lo hi : Int), rs = [.ref p, .int lo, .int hi] ∧ M p = some (.ins C []) ∧ ∀ (M' : RM) (t u : Addr), PAt M' C p t u lo hi lo [] [] → M t = none → M u = none → (∀ x, x ≠ p → x ≠ t → x ≠ u → M' x = M x) → Q .non M'
theorem p_init_do {C p : Addr} {lo hi : Int} {M : RM} {Q : RVK} (e : M p = some (.ins C [])) (h : ∀ (M' : RM) (t u : Addr), PAt M' C p t u lo hi lo [] [] → M t = none → M u = none → (∀ x, x ≠ p → x ≠ t → x ≠ u → M' x = M x) → Q .non M') : (sp_Pool_init C) [.ref p, .int lo, .int hi] M Q := by unfold sp_Pool_init; exact ⟨p, lo, hi, rfl, e, h⟩
@[irreducible] def sp_Pool_has (C : Addr) : RSp := fun rs M Q => ∃ (p t u : Addr) (lo hi mk n : Int), rs = [.ref p, .int n] ∧ M p = some (.ins C (flds lo hi mk t u)) ∧ Q (.bl (decide (lo ≤ n) && decide (n ≤ hi))) M
theorem p_has_do {C p t u : Addr} {lo hi mk n : Int} {M : RM} {Q : RVK} (e : M p = some (.ins C (flds lo hi mk t u))) (h : Q (.bl (decide (lo ≤ n) && decide (n ≤ hi))) M) : (sp_Pool_has C) [.ref p, .int n] M Q := by unfold sp_Pool_has; exact ⟨p, t, u, lo, hi, mk, n, rfl, e, h⟩
@[irreducible] def sp_Pool_from_mark (C : Addr) : RSp := fun rs M Q => ∃ (p t u : Addr) (lo hi mk : Int), rs = [.ref p] ∧ M p = some (.ins C (flds lo hi mk t u)) ∧ (1 ≤ lo ∧ lo ≤ mk ∧ mk ≤ hi ∧ hi ≤ 9999 ∧ hi - lo ≤ 199) ∧ Q (.ls ((orderP lo hi mk).map RV.int)) M
theorem p_from_mark_do {C p t u : Addr} {lo hi mk : Int} {M : RM} {Q : RVK} (e : M p = some (.ins C (flds lo hi mk t u))) (hb : 1 ≤ lo ∧ lo ≤ mk ∧ mk ≤ hi ∧ hi ≤ 9999 ∧ hi - lo ≤ 199) (h : Q (.ls ((orderP lo hi mk).map RV.int)) M) : (sp_Pool_from_mark C) [.ref p] M Q := by unfold sp_Pool_from_mark; exact ⟨p, t, u, lo, hi, mk, rfl, e, hb, h⟩
@[irreducible] def sp_Pool_take (C : Addr) : RSp := fun rs M Q => ∃ (p t u : Addr) (lo hi mk : Int) (T : List Int) (U : List (Int × Int)) (n : Int), rs = [.ref p, .int n] ∧ PAt M C p t u lo hi mk T U ∧ n ∉ T ∧ T.length ≤ 900 ∧ ∀ M', PAt M' C p t u lo hi (if n = hi then lo else n + 1) (T ++ [n]) (U.filter fun q => decide (q.1 ≠ n)) → (∀ x, x ≠ p → x ≠ t → x ≠ u → M' x = M x) → Q .non M'
theorem p_take_do {C : Addr} {p t u : Addr} {lo hi mk : Int} {T : List Int} {U : List (Int × Int)} {n : Int} {M : RM} {Q : RVK} (e : PAt M C p t u lo hi mk T U) (hn : n ∉ T) (hl : T.length ≤ 900) (h : ∀ M', PAt M' C p t u lo hi (if n = hi then lo else n + 1) (T ++ [n]) (U.filter fun q => decide (q.1 ≠ n)) → (∀ x, x ≠ p → x ≠ t → x ≠ u → M' x = M x) → Q .non M') : (sp_Pool_take C) [.ref p, .int n] M Q := by unfold sp_Pool_take; exact ⟨p, t, u, lo, hi, mk, T, U, n, rfl, e, hn, hl, h⟩
@[irreducible] def sp_Pool_give (C : Addr) : RSp := fun rs M Q => ∃ (p t u : Addr) (lo hi mk : Int) (T : List Int) (U : List (Int × Int)) (n v : Int), rs = [.ref p, .int n, .int v] ∧ PAt M C p t u lo hi mk T U ∧ n ∈ T ∧ U.length ≤ 900 ∧ ∀ M', PAt M' C p t u lo hi mk (T.filter fun m => decide (m ≠ n)) (putU U n v) → (∀ x, x ≠ p → x ≠ t → x ≠ u → M' x = M x) → Q .non M'
theorem p_give_do {C : Addr} {p t u : Addr} {lo hi mk : Int} {T : List Int} {U : List (Int × Int)} {n v : Int} {M : RM} {Q : RVK} (e : PAt M C p t u lo hi mk T U) (hn : n ∈ T) (hl : U.length ≤ 900) (h : ∀ M', PAt M' C p t u lo hi mk (T.filter fun m => decide (m ≠ n)) (putU U n v) → (∀ x, x ≠ p → x ≠ t → x ≠ u → M' x = M x) → Q .non M') : (sp_Pool_give C) [.ref p, .int n, .int v] M Q := by unfold sp_Pool_give; exact ⟨p, t, u, lo, hi, mk, T, U, n, v, rfl, e, hn, hl, h⟩
@[irreducible] def sp_Pool_resting (C : Addr) : RSp := fun rs M Q => ∃ (p t u : Addr) (lo hi mk : Int) (T : List Int) (U : List (Int × Int)) (m : Int), rs = [.ref p, .int m] ∧ PAt M C p t u lo hi mk T U ∧ U.length < 64 ∧ ∀ q, M q = none → Q (.ref q) (R.put M q (.lst ((restF U m).map (rowOf U))))
theorem p_resting_do {C : Addr} {p t u : Addr} {lo hi mk : Int} {T : List Int} {U : List (Int × Int)} {m : Int} {M : RM} {Q : RVK} (e : PAt M C p t u lo hi mk T U) (hl : U.length < 64) (h : ∀ q, M q = none → Q (.ref q) (R.put M q (.lst ((restF U m).map (rowOf U))))) : (sp_Pool_resting C) [.ref p, .int m] M Q := by unfold sp_Pool_resting; exact ⟨p, t, u, lo, hi, mk, T, U, m, rfl, e, hl, h⟩
@[irreducible] def sp__law_well : RSp := fun rs M Q => ∃ (c t : Int), rs = [.int c, .int t] ∧ 0 ≤ t ∧ ∀ (p : Addr) (o : RO), M p = none → BagO o t → Q (.ref p) (R.put M p o)
theorem l_well_do {c t : Int} {M : RM} {Q : RVK} (h0 : 0 ≤ t) (h : ∀ (p : Addr) (o : RO), M p = none → BagO o t → Q (.ref p) (R.put M p o)) : sp__law_well [.int c, .int t] M Q := by unfold sp__law_well; exact ⟨c, t, rfl, h0, h⟩
@[irreducible] def sp__law_is_free : RSp := fun rs M Q => ∃ (o t u : Addr) (lo hi mk now : Int) (T : List Int) (U : List (Int × Int)) (n : Int), rs = [.ref o, .int n] ∧ OAt M o t u lo hi mk now T U ∧ Q (.bl (freeL lo hi now T U n)) M
theorem l_is_free_do {o t u : Addr} {lo hi mk now : Int} {T : List Int} {U : List (Int × Int)} {n : Int} {M : RM} {Q : RVK} (e : OAt M o t u lo hi mk now T U) (h : Q (.bl (freeL lo hi now T U n)) M) : sp__law_is_free [.ref o, .int n] M Q := by unfold sp__law_is_free; exact ⟨o, t, u, lo, hi, mk, now, T, U, n, rfl, e, h⟩
@[irreducible] def sp_Pool_is_free (C : Addr) : RSp := fun rs M Q => ∃ (p t u : Addr) (lo hi mk : Int) (T : List Int) (U : List (Int × Int)) (n m : Int), rs = [.ref p, .int n, .int m] ∧ PAt M C p t u lo hi mk T U ∧ Q (.bl (freeP lo hi m T U n)) M
theorem p_is_free_do {C : Addr} {p t u : Addr} {lo hi mk : Int} {T : List Int} {U : List (Int × Int)} {n m : Int} {M : RM} {Q : RVK} (e : PAt M C p t u lo hi mk T U) (h : Q (.bl (freeP lo hi m T U n)) M) : (sp_Pool_is_free C) [.ref p, .int n, .int m] M Q := by unfold sp_Pool_is_free; exact ⟨p, t, u, lo, hi, mk, T, U, n, m, rfl, e, h⟩
@[irreducible] def sp__law_picked : RSp := fun rs M Q => ∃ (o t u : Addr) (lo hi mk now : Int) (T : List Int) (U : List (Int × Int)) (way : Str) (d : Int), rs = [.ref o, .str way, .int d] ∧ OAt M o t u lo hi mk now T U ∧ (1 ≤ lo ∧ lo ≤ mk ∧ mk ≤ hi ∧ hi ≤ 9999 ∧ hi - lo ≤ 199) ∧ Q (pickF (freeL lo hi now T U) way d (orderL lo hi mk)) M
theorem l_picked_do {o t u : Addr} {lo hi mk now : Int} {T : List Int} {U : List (Int × Int)} {way : Str} {d : Int} {M : RM} {Q : RVK} (e : OAt M o t u lo hi mk now T U) (hb : 1 ≤ lo ∧ lo ≤ mk ∧ mk ≤ hi ∧ hi ≤ 9999 ∧ hi - lo ≤ 199) (h : Q (pickF (freeL lo hi now T U) way d (orderL lo hi mk)) M) : sp__law_picked [.ref o, .str way, .int d] M Q := by unfold sp__law_picked; exact ⟨o, t, u, lo, hi, mk, now, T, U, way, d, rfl, e, hb, h⟩
@[irreducible] def sp__law_some : RSp := fun rs M Q => ∃ (b : Addr) (k : Int) (o t u : Addr) (lo hi mk now : Int) (T : List Int) (U : List (Int × Int)), rs = [.ref b, .ref o] ∧ Bag M b k ∧ 0 ≤ k ∧ k ≤ 90000 ∧ OAt M o t u lo hi mk now T U ∧ (1 ≤ lo ∧ lo ≤ mk ∧ mk ≤ hi ∧ hi ≤ 9999 ∧ hi - lo ≤ 199) ∧ ((∀ n ∈ T, lo ≤ n ∧ n ≤ hi) ∧ (∀ n ∈ U.map (·.1), lo ≤ n ∧ n ≤ hi) ∧ T.length < 64 ∧ U.length < 64) ∧ ∀ (n : Int) (M' : RM), 1 ≤ n → n ≤ 9999 → Bag M' b (k + 6) → (∀ x o', x ≠ b → M x = some o' → M' x = some o') → Q (.int n) M'
theorem l_some_do {b : Addr} {k : Int} {o t u : Addr} {lo hi mk now : Int} {T : List Int} {U : List (Int × Int)} {M : RM} {Q : RVK} (hB : Bag M b k) (k0 : 0 ≤ k) (k1 : k ≤ 90000) (e : OAt M o t u lo hi mk now T U) (hb : 1 ≤ lo ∧ lo ≤ mk ∧ mk ≤ hi ∧ hi ≤ 9999 ∧ hi - lo ≤ 199) (hr : (∀ n ∈ T, lo ≤ n ∧ n ≤ hi) ∧ (∀ n ∈ U.map (·.1), lo ≤ n ∧ n ≤ hi) ∧ T.length < 64 ∧ U.length < 64) (h : ∀ (n : Int) (M' : RM), 1 ≤ n → n ≤ 9999 → Bag M' b (k + 6) → (∀ x o', x ≠ b → M x = some o' → M' x = some o') → Q (.int n) M') : sp__law_some [.ref b, .ref o] M Q := by unfold sp__law_some; exact ⟨b, k, o, t, u, lo, hi, mk, now, T, U, rfl, hB, k0, k1, e, hb, hr, h⟩
@[irreducible] def sp_Pool_picked (C : Addr) : RSp := fun rs M Q => ∃ (p t u : Addr) (lo hi mk : Int) (T : List Int) (U : List (Int × Int)) (way : Str) (d m : Int), rs = [.ref p, .str way, .int d, .int m] ∧ PAt M C p t u lo hi mk T U ∧ (1 ≤ lo ∧ lo ≤ mk ∧ mk ≤ hi ∧ hi ≤ 9999 ∧ hi - lo ≤ 199) ∧ Q (pickF (freeP lo hi m T U) way d (orderP lo hi mk)) M
theorem p_picked_do {C : Addr} {p t u : Addr} {lo hi mk : Int} {T : List Int} {U : List (Int × Int)} {way : Str} {d m : Int} {M : RM} {Q : RVK} (e : PAt M C p t u lo hi mk T U) (hb : 1 ≤ lo ∧ lo ≤ mk ∧ mk ≤ hi ∧ hi ≤ 9999 ∧ hi - lo ≤ 199) (h : Q (pickF (freeP lo hi m T U) way d (orderP lo hi mk)) M) : (sp_Pool_picked C) [.ref p, .str way, .int d, .int m] M Q := by unfold sp_Pool_picked; exact ⟨p, t, u, lo, hi, mk, T, U, way, d, m, rfl, e, hb, h⟩
@[irreducible] def sp_Pool_many_free (C : Addr) : RSp := fun rs M Q => ∃ (p t u : Addr) (lo hi mk : Int) (T : List Int) (U : List (Int × Int)) (m : Int), rs = [.ref p, .int m] ∧ PAt M C p t u lo hi mk T U ∧ (1 ≤ lo ∧ lo ≤ mk ∧ mk ≤ hi ∧ hi ≤ 9999 ∧ hi - lo ≤ 199) ∧ Q (.int ((nrs lo (hi + 1 - lo).toNat).filter (freeP lo hi m T U)).length) M
theorem p_many_free_do {C : Addr} {p t u : Addr} {lo hi mk : Int} {T : List Int} {U : List (Int × Int)} {m : Int} {M : RM} {Q : RVK} (e : PAt M C p t u lo hi mk T U) (hb : 1 ≤ lo ∧ lo ≤ mk ∧ mk ≤ hi ∧ hi ≤ 9999 ∧ hi - lo ≤ 199) (h : Q (.int ((nrs lo (hi + 1 - lo).toNat).filter (freeP lo hi m T U)).length) M) : (sp_Pool_many_free C) [.ref p, .int m] M Q := by unfold sp_Pool_many_free; exact ⟨p, t, u, lo, hi, mk, T, U, m, rfl, e, hb, h⟩
@[irreducible] def sp__law_a_deed (C : Addr) : RSp := fun rs M Q => ∃ (b p t u o t2 u2 : Addr) (lo hi mk now nb : Int) (T : List Int) (V U : List (Int × Int)) (k : Nat), rs = [.ref b, .ref o, .ref p] ∧ (Jt M C p t u o t2 u2 lo hi mk now T V U k ∧ Bag M b nb ∧ 0 ≤ nb ∧ nb ≤ 80000 ∧ k < 63) ∧ ∀ (M' : RM) (mk' now' : Int) (T' : List Int) (V' U' : List (Int × Int)), Jt M' C p t u o t2 u2 lo hi mk' now' T' V' U' (k + 1) → Bag M' b (nb + 40) → Q (.bl true) M'
theorem l_a_deed_do {C b p t u o t2 u2 : Addr} {lo hi mk now nb : Int} {T : List Int} {V U : List (Int × Int)} {k : Nat} {M : RM} {Q : RVK} (hJ : Jt M C p t u o t2 u2 lo hi mk now T V U k ∧ Bag M b nb ∧ 0 ≤ nb ∧ nb ≤ 80000 ∧ k < 63) (h : ∀ (M' : RM) (mk' now' : Int) (T' : List Int) (V' U' : List (Int × Int)), Jt M' C p t u o t2 u2 lo hi mk' now' T' V' U' (k + 1) → Bag M' b (nb + 40) → Q (.bl true) M') : (sp__law_a_deed C) [.ref b, .ref o, .ref p] M Q := by unfold sp__law_a_deed; exact ⟨b, p, t, u, o, t2, u2, lo, hi, mk, now, nb, T, V, U, k, rfl, hJ, h⟩
@[irreducible] def sp__law_looked (C : Addr) : RSp := fun rs M Q => ∃ (b p t u o t2 u2 : Addr) (lo hi mk now nb : Int) (T : List Int) (V U : List (Int × Int)) (k : Nat), rs = [.ref b, .ref o, .ref p] ∧ (Jt M C p t u o t2 u2 lo hi mk now T V U k ∧ Bag M b nb ∧ 0 ≤ nb ∧ nb ≤ 80000 ∧ k < 64) ∧ ∀ (M' : RM), Jt M' C p t u o t2 u2 lo hi mk now T V U k → Q (.bl true) M'
theorem l_looked_do {C b p t u o t2 u2 : Addr} {lo hi mk now nb : Int} {T : List Int} {V U : List (Int × Int)} {k : Nat} {M : RM} {Q : RVK} (hJ : Jt M C p t u o t2 u2 lo hi mk now T V U k ∧ Bag M b nb ∧ 0 ≤ nb ∧ nb ≤ 80000 ∧ k < 64) (h : ∀ (M' : RM), Jt M' C p t u o t2 u2 lo hi mk now T V U k → Q (.bl true) M') : (sp__law_looked C) [.ref b, .ref o, .ref p] M Q := by unfold sp__law_looked; exact ⟨b, p, t, u, o, t2, u2, lo, hi, mk, now, nb, T, V, U, k, rfl, hJ, h⟩
@[irreducible] def sp_law : RSp := fun rs M Q => ∃ ns : List Int, rs = [.ls (ns.map RV.int)] ∧ ns.length ≤ 63 ∧ ∀ M', Q (.bl true) M'
theorem law_start (ns : List Int) (h : ns.length ≤ 63) : sp_law [.ls (ns.map RV.int)] (fun _ => none) (fun v _ => v = .bl true) := by
  unfold sp_law; exact ⟨ns, rfl, h, fun _ => rfl⟩
set_option maxHeartbeats 40000000 in
def pk_Pool_init (T : Txt P w K mg C)  : {t : RTS // ∀ (f : Addr) (cdv : Value) (A : Around) (outer : List Env) (s : Shared) (H : Hp) (E : XK), Room 0 (A.deeper (envOfC "Pool.__init__" (defScope s_Pool_init) s.heap.objs.size f cdv)) → RPSs (cxOf CX0 P w K mg base N_Pool_init "Pool.__init__" (defScope s_Pool_init) f cdv A outer s H E).nox (defBody s_Pool_init) t} := by
  refine' ⟨?t, fun f cdv A outer s H E hr => ?term⟩
  case term =>
   refine' scons ?h18 ?h19
   case' h18 => refine' sfld T.cl T.n_low ?h16 ?h17
   case' h16 => exact rvN 0 no_Pool_init
   case' h17 => exact rvN 1 no_Pool_init
   case' h19 => refine' scons ?h14 ?h15
   case' h14 => refine' sfld T.cl T.n_high ?h12 ?h13
   case' h12 => exact rvN 0 no_Pool_init
   case' h13 => exact rvN 2 no_Pool_init
   case' h15 => refine' scons ?h10 ?h11
   case' h10 => refine' sfld T.cl T.n_mark ?h8 ?h9
   case' h8 => exact rvN 0 no_Pool_init
   case' h9 => exact rvN 1 no_Pool_init
   case' h11 => refine' scons ?h6 ?h7
   case' h6 => refine' sfld T.cl T.n_taken ?h4 ?h5
   case' h4 => exact rvN 0 no_Pool_init
   case' h5 => exact rdnew
   case' h7 => refine' sone ?h3
   case' h3 => refine' sfld T.cl T.n_until ?h1 ?h2
   case' h1 => exact rvN 0 no_Pool_init
   case' h2 => exact rdnew

set_option maxHeartbeats 40000000 in
theorem rd_Pool_init (T : Txt P w K mg C)  {rs : List RV} {M : RM} {Q : RVK} (h : (sp_Pool_init C) rs M Q) : (pk_Pool_init (base := base) T ).1 { nx := fun _ M' => Q .non M', rt := Q } (rstart N_Pool_init rs) M := by
    unfold sp_Pool_init at h
    unfold pk_Pool_init
    dsimp only
    obtain ⟨p, lo, hi, rfl, e, h⟩ := h
    walk_at "rs"
    refine do_ksfld e rfl ?_
    walk_at "rs"
    refine do_ksfld put_same rfl ?_
    rw [put_put]
    walk_at "rs"
    refine do_ksfld put_same rfl ?_
    rw [put_put]
    walk_at "rs"
    refine do_dnew fun t ht => ?_
    have nt : p ≠ t := fun z => by rw [← z, put_same] at ht; cases ht
    have mt : M t = none := by rw [put_ne nt.symm] at ht; exact ht
    walk_at "rs"
    refine do_ksfld (put_at put_same nt) rfl ?_
    walk_at "rs"
    refine do_dnew fun u hu => ?_
    have nu : p ≠ u := fun z => by rw [← z, put_same] at hu; cases hu
    rw [put_ne nu.symm] at hu
    have ntu : t ≠ u := fun z => by rw [← z, put_same] at hu; cases hu
    have mu : M u = none := by rw [put_ne ntu.symm, put_ne nu.symm] at hu; exact hu
    walk_at "rs"
    refine do_ksfld (put_at put_same nu) rfl ?_
    refine h _ t u ⟨?_, ?_, ?_, ntu⟩ mt mu fun x h1 h2 h3 => ?_
    · rw [put_same, fp_all]
    · rw [put_ne nt.symm, put_ne ntu, put_ne nt.symm, put_same]; rfl
    · rw [put_ne nu.symm, put_same]; rfl
    · rw [put_ne h1, put_ne h3, put_ne h1, put_ne h2, put_ne h1]
set_option maxHeartbeats 40000000 in
theorem fn_Pool_init {f : Addr} {fd : FuncData} (F : Fun K "__init__" "Pool.__init__" s_Pool_init f fd) (T : Txt P w K mg C)  : FnOk P w K mg base CX0 1 f fd ["self", "low", "high"] (upSp K (sp_Pool_init C)) := by
  refine' rfnok F sc_Pool_init (fun rs M Q h => ?len) (fun cdv A outer s H E hr => (pk_Pool_init (base := base) T ).2 f cdv A outer s H E hr) (fun rs M Q h => rd_Pool_init T  h)
  unfold sp_Pool_init at h; obtain ⟨p, lo, hi, rfl, _⟩ := h; rfl
set_option maxHeartbeats 40000000 in
def pk_Pool_has (T : Txt P w K mg C)  : {t : RTS // ∀ (f : Addr) (cdv : Value) (A : Around) (outer : List Env) (s : Shared) (H : Hp) (E : XK), Room 0 (A.deeper (envOfC "Pool.has" (defScope s_Pool_has) s.heap.objs.size f cdv)) → RPSs (cxOf CX0 P w K mg base N_Pool_has "Pool.has" (defScope s_Pool_has) f cdv A outer s H E).nox (defBody s_Pool_has) t} := by
  refine' ⟨?t, fun f cdv A outer s H E hr => ?term⟩
  case term =>
   refine' sone ?h7
   case' h7 => refine' sret ?h6
   case' h6 => refine' rchain ole ole ?h3 ?h4 ?h5
   case' h3 => refine' rfld T.cl T.n_low ?h1
   case' h1 => exact rvN 0 no_Pool_has
   case' h4 => exact rvN 1 no_Pool_has
   case' h5 => refine' rfld T.cl T.n_high ?h2
   case' h2 => exact rvN 0 no_Pool_has

set_option maxHeartbeats 40000000 in
theorem rd_Pool_has (T : Txt P w K mg C)  {rs : List RV} {M : RM} {Q : RVK} (h : (sp_Pool_has C) rs M Q) : (pk_Pool_has (base := base) T ).1 { nx := fun _ M' => Q .non M', rt := Q } (rstart N_Pool_has rs) M := by
    unfold sp_Pool_has at h
    unfold pk_Pool_has
    dsimp only
    obtain ⟨p, t, u, lo, hi, mk, n, rfl, e, h⟩ := h
    walk_at "rs"
    refine do_kfld e fl_low ?_
    walk_at "rs"
    refine do_kch (fun e1 => ?_) fun e1 => ?_
    · walk_at "rs"
      refine do_kfld e fl_high ?_
      walk_at "rs"
      exact andT h e1
    · exact andF h e1
set_option maxHeartbeats 40000000 in
theorem fn_Pool_has {f : Addr} {fd : FuncData} (F : Fun K "has" "Pool.has" s_Pool_has f fd) (T : Txt P w K mg C)  : FnOk P w K mg base CX0 1 f fd ["self", "number"] (upSp K (sp_Pool_has C)) := by
  refine' rfnok F sc_Pool_has (fun rs M Q h => ?len) (fun cdv A outer s H E hr => (pk_Pool_has (base := base) T ).2 f cdv A outer s H E hr) (fun rs M Q h => rd_Pool_has T  h)
  unfold sp_Pool_has at h; obtain ⟨p, t, u, lo, hi, mk, n, rfl, _⟩ := h; rfl
set_option maxHeartbeats 40000000 in
def pk_Pool_from_mark (T : Txt P w K mg C)  : {t : RTS // ∀ (f : Addr) (cdv : Value) (A : Around) (outer : List Env) (s : Shared) (H : Hp) (E : XK), Room 0 (A.deeper (envOfC "Pool.from_mark" (defScope s_Pool_from_mark) s.heap.objs.size f cdv)) → RPSs (cxOf CX0 P w K mg base N_Pool_from_mark "Pool.from_mark" (defScope s_Pool_from_mark) f cdv A outer s H E).nox (defBody s_Pool_from_mark) t} := by
  refine' ⟨?t, fun f cdv A outer s H E hr => ?term⟩
  case term =>
   refine' sone ?h14
   case' h14 => refine' sret ?h13
   case' h13 => refine' rop oadd ?h11 ?h12
   case' h11 => refine' rlistr T.b_list T.b_range rfl ?h5 ?h6 gl_Pool_from_mark_list gl_Pool_from_mark_range
   case' h5 => refine' rfld T.cl T.n_mark ?h1
   case' h1 => exact rvN 0 no_Pool_from_mark
   case' h6 => refine' rop oadd ?h3 ?h4
   case' h3 => refine' rfld T.cl T.n_high ?h2
   case' h2 => exact rvN 0 no_Pool_from_mark
   case' h4 => exact ri
   case' h12 => refine' rlistr T.b_list T.b_range rfl ?h9 ?h10 gl_Pool_from_mark_list gl_Pool_from_mark_range
   case' h9 => refine' rfld T.cl T.n_low ?h7
   case' h7 => exact rvN 0 no_Pool_from_mark
   case' h10 => refine' rfld T.cl T.n_mark ?h8
   case' h8 => exact rvN 0 no_Pool_from_mark

set_option maxHeartbeats 40000000 in
theorem rd_Pool_from_mark (T : Txt P w K mg C)  {rs : List RV} {M : RM} {Q : RVK} (h : (sp_Pool_from_mark C) rs M Q) : (pk_Pool_from_mark (base := base) T ).1 { nx := fun _ M' => Q .non M', rt := Q } (rstart N_Pool_from_mark rs) M := by
    unfold sp_Pool_from_mark at h
    unfold pk_Pool_from_mark
    dsimp only
    obtain ⟨p, t, u, lo, hi, mk, rfl, e, ⟨b1, b2, b3, b4, b5⟩, h⟩ := h
    walk_at "rs"
    refine do_kfld e fl_mark ?_
    walk_at "rs"
    refine do_kfld e fl_high ?_
    walk_at "rs"
    refine do_kLR (by omega) (by omega) (by omega) (by omega) (by omega) ?_
    walk_at "rs"
    refine do_kfld e fl_low ?_
    walk_at "rs"
    refine do_kfld e fl_mark ?_
    walk_at "rs"
    refine do_kLR (by omega) (by omega) (by omega) (by omega) (by omega) ?_
    walk_at "rs"
    refine do_addL' (szl (by rw [numsFrom_len, numsFrom_len]; omega)) ?_
    rw [nums_nrs, nums_nrs, ← List.map_append]
    exact h
set_option maxHeartbeats 40000000 in
theorem fn_Pool_from_mark {f : Addr} {fd : FuncData} (F : Fun K "from_mark" "Pool.from_mark" s_Pool_from_mark f fd) (T : Txt P w K mg C)  : FnOk P w K mg base CX0 1 f fd ["self"] (upSp K (sp_Pool_from_mark C)) := by
  refine' rfnok F sc_Pool_from_mark (fun rs M Q h => ?len) (fun cdv A outer s H E hr => (pk_Pool_from_mark (base := base) T ).2 f cdv A outer s H E hr) (fun rs M Q h => rd_Pool_from_mark T  h)
  unfold sp_Pool_from_mark at h; obtain ⟨p, t, u, lo, hi, mk, rfl, _⟩ := h; rfl
set_option maxHeartbeats 40000000 in
def pk_Pool_take (T : Txt P w K mg C)  : {t : RTS // ∀ (f : Addr) (cdv : Value) (A : Around) (outer : List Env) (s : Shared) (H : Hp) (E : XK), Room 0 (A.deeper (envOfC "Pool.take" (defScope s_Pool_take) s.heap.objs.size f cdv)) → RPSs (cxOf CX0 P w K mg base N_Pool_take "Pool.take" (defScope s_Pool_take) f cdv A outer s H E).nox (defBody s_Pool_take) t} := by
  refine' ⟨?t, fun f cdv A outer s H E hr => ?term⟩
  case term =>
   refine' scons ?h29 ?h30
   case' h29 => refine' sdput (hu_of hr) ?h26 ?h27 ?h28
   case' h26 => refine' rfld T.cl T.n_taken ?h25
   case' h25 => exact rvN 0 no_Pool_take
   case' h27 => exact rvN 1 no_Pool_take
   case' h28 => exact rb
   case' h30 => refine' scons ?h23 ?h24
   case' h23 => refine' sif ?h20 ?h21 ?h22
   case' h20 => refine' rtdin (hu_of hr) ?h14 ?h15
   case' h14 => exact rvN 1 no_Pool_take
   case' h15 => refine' rfld T.cl T.n_until ?h13
   case' h13 => exact rvN 0 no_Pool_take
   case' h21 => refine' sone ?h19
   case' h19 => refine' sddel ?h17 ?h18
   case' h17 => refine' rfld T.cl T.n_until ?h16
   case' h16 => exact rvN 0 no_Pool_take
   case' h18 => exact rvN 1 no_Pool_take
   case' h22 => exact snil
   case' h24 => refine' sone ?h12
   case' h12 => refine' sfld T.cl T.n_mark ?h10 ?h11
   case' h10 => exact rvN 0 no_Pool_take
   case' h11 => refine' rif ?h7 ?h8 ?h9
   case' h7 => refine' rtcmp (oeq hr.units) ?h2 ?h3
   case' h2 => exact rvN 1 no_Pool_take
   case' h3 => refine' rfld T.cl T.n_high ?h1
   case' h1 => exact rvN 0 no_Pool_take
   case' h8 => refine' rfld T.cl T.n_low ?h4
   case' h4 => exact rvN 0 no_Pool_take
   case' h9 => refine' rop oadd ?h5 ?h6
   case' h5 => exact rvN 1 no_Pool_take
   case' h6 => exact ri

set_option maxHeartbeats 40000000 in
theorem rd_Pool_take (T : Txt P w K mg C)  {rs : List RV} {M : RM} {Q : RVK} (h : (sp_Pool_take C) rs M Q) : (pk_Pool_take (base := base) T ).1 { nx := fun _ M' => Q .non M', rt := Q } (rstart N_Pool_take rs) M := by
    unfold sp_Pool_take at h
    unfold pk_Pool_take
    dsimp only
    obtain ⟨p, t, u, lo, hi, mk, T, U, n, rfl, P, hn, hl, h⟩ := h
    obtain ⟨npt, npu⟩ := P.ne1
    walk_at "rs"
    refine do_kfld P.ob fl_taken ?_
    walk_at "rs"
    refine do_atKey P.tk rfl ⟨by rw [show (tk T).length = T.length by simp [tk]]; exact Nat.lt_of_le_of_lt hl (by decide), ?_⟩
    rw [put_tk hn]
    have e1 : R.put M t (.dk (tk (T ++ [n]))) p = some (.ins C (flds lo hi mk t u)) := by rw [put_ne npt]; exact P.ob
    have e2 : R.put M t (.dk (tk (T ++ [n]))) u = some (.dk (uk U)) := by rw [put_ne P.ne.symm]; exact P.un
    walk_at "rs"
    refine do_kfld e1 fl_until ?_
    refine do_atKey e2 rfl ?_
    rw [show (if false = true then !(lookK (uk U) (Sum.inl n)).isSome else (lookK (uk U) (Sum.inl n)).isSome) = (valU U n).isSome by rw [look_uk]; simp]
    walk_at "rs"
    refine do_kB (fun e => ?_) fun e => ?_
    · walk_at "rs"
      refine do_kfld e1 fl_until ?_
      walk_at "rs"
      refine do_atKey e2 rfl ⟨by rw [look_uk, Option.isSome_map]; exact e, ?_⟩
      rw [drop_uk]
      have e3 : R.put (R.put M t (.dk (tk (T ++ [n])))) u (.dk (uk (U.filter fun q => decide (q.1 ≠ n)))) p = some (.ins C (flds lo hi mk t u)) := by rw [put_ne npu]; exact e1
      have e4 : R.put (R.put M t (.dk (tk (T ++ [n])))) u (.dk (uk (U.filter fun q => decide (q.1 ≠ n)))) t = some (.dk (tk (T ++ [n]))) := by rw [put_ne P.ne, put_same]
      have e5 : R.put (R.put M t (.dk (tk (T ++ [n])))) u (.dk (uk (U.filter fun q => decide (q.1 ≠ n)))) u = some (.dk (uk (U.filter fun q => decide (q.1 ≠ n)))) := put_same
      have e6 : ∀ x, x ≠ p → x ≠ t → x ≠ u → R.put (R.put M t (.dk (tk (T ++ [n])))) u (.dk (uk (U.filter fun q => decide (q.1 ≠ n)))) x = M x := fun x h1 h2 h3 => by rw [put_ne h3, put_ne h2]
      walk_at "rs"
      refine do_kfld e3 fl_high ?_
      walk_at "rs"
      refine do_kB (fun eh => ?_) fun eh => ?_
      · have eh' : n = hi := by simpa [eqR] using eh
        walk_at "rs"
        refine do_kfld e3 fl_low ?_
        walk_at "rs"
        refine do_ksfld e3 rfl ?_
        rw [fp_mark]
        walk_at "rs"
        rw [if_pos eh'] at h
        exact h _ ⟨put_same, by rw [put_ne npt.symm]; exact e4, by rw [put_ne npu.symm]; exact e5, P.ne⟩ fun x h1 h2 h3 => by rw [put_ne h1]; exact e6 x h1 h2 h3
      · have eh' : ¬ n = hi := by simpa [eqR] using eh
        walk_at "rs"
        refine do_ksfld e3 rfl ?_
        rw [fp_mark]
        walk_at "rs"
        rw [if_neg eh'] at h
        exact h _ ⟨put_same, by rw [put_ne npt.symm]; exact e4, by rw [put_ne npu.symm]; exact e5, P.ne⟩ fun x h1 h2 h3 => by rw [put_ne h1]; exact e6 x h1 h2 h3
    · have eU : U = U.filter fun q => decide (q.1 ≠ n) := by
        symm
        rw [List.filter_eq_self]
        intro q hq
        refine decide_eq_true fun z => ?_
        have := val_mem.mpr (List.mem_map.mpr ⟨q, hq, z⟩)
        rw [e] at this; cases this
      have e3 := e1
      have e4 : R.put M t (.dk (tk (T ++ [n]))) t = some (.dk (tk (T ++ [n]))) := put_same
      have e5 : R.put M t (.dk (tk (T ++ [n]))) u = some (.dk (uk (U.filter fun q => decide (q.1 ≠ n)))) := by rw [← eU]; exact e2
      have e6 : ∀ x, x ≠ p → x ≠ t → x ≠ u → R.put M t (.dk (tk (T ++ [n]))) x = M x := fun x h1 h2 h3 => by rw [put_ne h2]
      walk_at "rs"
      refine do_kfld e3 fl_high ?_
      walk_at "rs"
      refine do_kB (fun eh => ?_) fun eh => ?_
      · have eh' : n = hi := by simpa [eqR] using eh
        walk_at "rs"
        refine do_kfld e3 fl_low ?_
        walk_at "rs"
        refine do_ksfld e3 rfl ?_
        rw [fp_mark]
        walk_at "rs"
        rw [if_pos eh'] at h
        exact h _ ⟨put_same, by rw [put_ne npt.symm]; exact e4, by rw [put_ne npu.symm]; exact e5, P.ne⟩ fun x h1 h2 h3 => by rw [put_ne h1]; exact e6 x h1 h2 h3
      · have eh' : ¬ n = hi := by simpa [eqR] using eh
        walk_at "rs"
        refine do_ksfld e3 rfl ?_
        rw [fp_mark]
        walk_at "rs"
        rw [if_neg eh'] at h
        exact h _ ⟨put_same, by rw [put_ne npt.symm]; exact e4, by rw [put_ne npu.symm]; exact e5, P.ne⟩ fun x h1 h2 h3 => by rw [put_ne h1]; exact e6 x h1 h2 h3
set_option maxHeartbeats 40000000 in
theorem fn_Pool_take {f : Addr} {fd : FuncData} (F : Fun K "take" "Pool.take" s_Pool_take f fd) (T : Txt P w K mg C)  : FnOk P w K mg base CX0 1 f fd ["self", "number"] (upSp K (sp_Pool_take C)) := by
  refine' rfnok F sc_Pool_take (fun rs M Q h => ?len) (fun cdv A outer s H E hr => (pk_Pool_take (base := base) T ).2 f cdv A outer s H E hr) (fun rs M Q h => rd_Pool_take T  h)
  unfold sp_Pool_take at h; obtain ⟨p, t, u, lo, hi, mk, T, U, n, rfl, _⟩ := h; rfl
set_option maxHeartbeats 40000000 in
def pk_Pool_give (T : Txt P w K mg C)  : {t : RTS // ∀ (f : Addr) (cdv : Value) (A : Around) (outer : List Env) (s : Shared) (H : Hp) (E : XK), Room 0 (A.deeper (envOfC "Pool.give" (defScope s_Pool_give) s.heap.objs.size f cdv)) → RPSs (cxOf CX0 P w K mg base N_Pool_give "Pool.give" (defScope s_Pool_give) f cdv A outer s H E).nox (defBody s_Pool_give) t} := by
  refine' ⟨?t, fun f cdv A outer s H E hr => ?term⟩
  case term =>
   refine' scons ?h9 ?h10
   case' h9 => refine' sddel ?h7 ?h8
   case' h7 => refine' rfld T.cl T.n_taken ?h6
   case' h6 => exact rvN 0 no_Pool_give
   case' h8 => exact rvN 1 no_Pool_give
   case' h10 => refine' sone ?h5
   case' h5 => refine' sdput (hu_of hr) ?h2 ?h3 ?h4
   case' h2 => refine' rfld T.cl T.n_until ?h1
   case' h1 => exact rvN 0 no_Pool_give
   case' h3 => exact rvN 1 no_Pool_give
   case' h4 => exact rvN 2 no_Pool_give

set_option maxHeartbeats 40000000 in
theorem rd_Pool_give (T : Txt P w K mg C)  {rs : List RV} {M : RM} {Q : RVK} (h : (sp_Pool_give C) rs M Q) : (pk_Pool_give (base := base) T ).1 { nx := fun _ M' => Q .non M', rt := Q } (rstart N_Pool_give rs) M := by
    unfold sp_Pool_give at h
    unfold pk_Pool_give
    dsimp only
    obtain ⟨p, t, u, lo, hi, mk, T, U, n, v, rfl, P, hn, hl, h⟩ := h
    obtain ⟨npt, npu⟩ := P.ne1
    walk_at "rs"
    refine do_kfld P.ob fl_taken ?_
    walk_at "rs"
    refine do_atKey P.tk rfl ⟨by rw [some_tk]; exact decide_eq_true hn, ?_⟩
    rw [drop_tk]
    have e1 : R.put M t (.dk (tk (T.filter fun m => decide (m ≠ n)))) p = some (.ins C (flds lo hi mk t u)) := by rw [put_ne npt]; exact P.ob
    have e2 : R.put M t (.dk (tk (T.filter fun m => decide (m ≠ n)))) u = some (.dk (uk U)) := by rw [put_ne P.ne.symm]; exact P.un
    walk_at "rs"
    refine do_kfld e1 fl_until ?_
    walk_at "rs"
    refine do_atKey e2 rfl ⟨by rw [show (uk U).length = U.length by simp [uk]]; exact Nat.lt_of_le_of_lt hl (by decide), ?_⟩
    rw [put_uk]
    walk_at "rs"
    exact h _ ⟨by rw [put_ne npu]; exact e1, by rw [put_ne P.ne, put_same], put_same, P.ne⟩ fun x h1 h2 h3 => by rw [put_ne h3, put_ne h2]
set_option maxHeartbeats 40000000 in
theorem fn_Pool_give {f : Addr} {fd : FuncData} (F : Fun K "give" "Pool.give" s_Pool_give f fd) (T : Txt P w K mg C)  : FnOk P w K mg base CX0 1 f fd ["self", "number", "until"] (upSp K (sp_Pool_give C)) := by
  refine' rfnok F sc_Pool_give (fun rs M Q h => ?len) (fun cdv A outer s H E hr => (pk_Pool_give (base := base) T ).2 f cdv A outer s H E hr) (fun rs M Q h => rd_Pool_give T  h)
  unfold sp_Pool_give at h; obtain ⟨p, t, u, lo, hi, mk, T, U, n, v, rfl, _⟩ := h; rfl
set_option maxHeartbeats 40000000 in
def pk_Pool_resting (T : Txt P w K mg C)  : {t : RTS // ∀ (f : Addr) (cdv : Value) (A : Around) (outer : List Env) (s : Shared) (H : Hp) (E : XK), Room 0 (A.deeper (envOfC "Pool.resting" (defScope s_Pool_resting) s.heap.objs.size f cdv)) → RPSs (cxOf CX0 P w K mg base N_Pool_resting "Pool.resting" (defScope s_Pool_resting) f cdv A outer s H E).nox (defBody s_Pool_resting) t} := by
  refine' ⟨?t, fun f cdv A outer s H E hr => ?term⟩
  case term =>
   refine' sone ?h24
   case' h24 => refine' sret ?h23
   case' h23 => refine' MU.rcompN [(0, "self"), (1, "moment")] (osc := defScope s_Pool_resting) (oN := N_Pool_resting) rfl ?h20 (fun cl C s H fp vb => ?h21) (fun cl C s H fp vb => ?h22) rfl rfl (by decide +kernel) (by decide +kernel) (by decide +kernel) rfl (by decide +kernel) (by decide +kernel) (by decide +kernel) (by decide +kernel)
   case' h20 => refine' iseq ?h5
   case' h5 => refine' rcallB (csortedD rfl) T.b_sorted bt_sorted ?h4 (hg := gl_Pool_resting_sorted) (hdb := db_sorted) (hn := nn_sorted)
   case' h4 => refine' acons ?h2 ?h3
   case' h2 => refine' rfld T.cl T.n_until ?h1
   case' h1 => exact rvN 0 no_Pool_resting
   case' h3 => exact anil
   case' h21 => refine' tone ?h19
   case' h19 => refine' rtcmp ogt ?h17 ?h18
   case' h17 => refine' rdget (hu_of hr) ?h15 ?h16
   case' h15 => refine' rfld T.cl T.n_until ?h14
   case' h14 => exact rvB 1 vb
   case' h16 => exact rvB 0 vb
   case' h18 => exact rvB 2 vb
   case' h22 => refine' rtup ?h13
   case' h13 => refine' acons ?h11 ?h12
   case' h11 => exact rvB 0 vb
   case' h12 => refine' acons ?h9 ?h10
   case' h9 => refine' rdget (hu_of hr) ?h7 ?h8
   case' h7 => refine' rfld T.cl T.n_until ?h6
   case' h6 => exact rvB 1 vb
   case' h8 => exact rvB 0 vb
   case' h10 => exact anil

set_option maxHeartbeats 40000000 in
theorem rd_Pool_resting (T : Txt P w K mg C)  {rs : List RV} {M : RM} {Q : RVK} (h : (sp_Pool_resting C) rs M Q) : (pk_Pool_resting (base := base) T ).1 { nx := fun _ M' => Q .non M', rt := Q } (rstart N_Pool_resting rs) M := by
    unfold sp_Pool_resting at h
    unfold pk_Pool_resting
    dsimp only
    obtain ⟨p, t, u, lo, hi, mk, T, U, m, rfl, P, hl, h⟩ := h
    walk_at "rs"
    refine do_kfld P.ob fl_until ?_
    walk_at "rs"
    refine do_sortD (ns := U.map (·.1)) P.un (keys_uk U) (by rw [List.length_map]; exact hl) fun ns' hp ho => ?_
    have es := srt_eq hp ho
    subst es
    have hlen : (srt (U.map (·.1))).length < 64 := by rw [(srt_perm _).length_eq, List.length_map]; exact hl
    walk_at "rs"
    refine ⟨by rw [List.length_map]; exact Nat.lt_trans hlen (by decide), ?_⟩
    refine compM_filter (p := fun v => match v with | .int n => decide (m < (valU U n).getD 0) | _ => false) (f := fun v => match v with | .int n => rowOf U n | _ => .non) _ _ (fun y hy Q' hq => ?_) (fun y hy hp Q' hq => ?_) fun q hq => ?_
    · obtain ⟨n, hn, rfl⟩ := List.mem_map.mp hy
      obtain ⟨v, ev⟩ := Option.isSome_iff_exists.mp (val_mem.mpr ((srt_perm _).mem_iff.mp hn))
      walk_at "rs"
      refine do_kfld P.ob fl_until ?_
      walk_at "rs"
      refine do_atKey P.un rfl ⟨.int v, by rw [look_uk, ev]; rfl, ?_⟩
      walk_at "rs"
      have e2 : (valU U n).getD 0 = v := by rw [ev]; rfl
      rw [show (match RV.int n with | .int n => decide (m < (valU U n).getD 0) | _ => false) = decide (m < v) by show decide (m < (valU U n).getD 0) = _; rw [e2]] at hq
      exact hq
    · obtain ⟨n, hn, rfl⟩ := List.mem_map.mp hy
      obtain ⟨v, ev⟩ := Option.isSome_iff_exists.mp (val_mem.mpr ((srt_perm _).mem_iff.mp hn))
      walk_at "rs"
      refine do_kfld P.ob fl_until ?_
      walk_at "rs"
      refine do_atKey P.un rfl ⟨.int v, by rw [look_uk, ev]; rfl, ?_⟩
      walk_at "rs"
      have e2 : rowOf U n = .tup [.int n, .int v] := by unfold rowOf; rw [ev]; rfl
      rw [show (match RV.int n with | .int n => rowOf U n | _ => .non) = RV.tup [.int n, .int v] from e2] at hq
      exact hq
    · have := h q hq
      rw [show ([] ++ (((srt (U.map (·.1))).map RV.int).filter fun v => match v with | .int n => decide (m < (valU U n).getD 0) | _ => false).map fun v => (match v with | .int n => rowOf U n | _ => .non : RV)) = (restF U m).map (rowOf U) by
        rw [List.nil_append, List.filter_map, List.map_map]; rfl]
      exact this
set_option maxHeartbeats 40000000 in
theorem fn_Pool_resting {f : Addr} {fd : FuncData} (F : Fun K "resting" "Pool.resting" s_Pool_resting f fd) (T : Txt P w K mg C)  : FnOk P w K mg base CX0 1 f fd ["self", "moment"] (upSp K (sp_Pool_resting C)) := by
  refine' rfnok F sc_Pool_resting (fun rs M Q h => ?len) (fun cdv A outer s H E hr => (pk_Pool_resting (base := base) T ).2 f cdv A outer s H E hr) (fun rs M Q h => rd_Pool_resting T  h)
  unfold sp_Pool_resting at h; obtain ⟨p, t, u, lo, hi, mk, T, U, m, rfl, _⟩ := h; rfl
set_option maxHeartbeats 40000000 in
def pk__law_well (T : Txt P w K mg C)  : {t : RTS // ∀ (f : Addr) (cdv : Value) (A : Around) (outer : List Env) (s : Shared) (H : Hp) (E : XK), Room 0 (A.deeper (envOfC "_law_well" (defScope s__law_well) s.heap.objs.size f cdv)) → RPSs (cxOf CX0 P w K mg base N__law_well "_law_well" (defScope s__law_well) f cdv A outer s H E).nox (defBody s__law_well) t} := by
  refine' ⟨?t, fun f cdv A outer s H E hr => ?term⟩
  case term =>
   refine' scons ?h34 ?h35
   case' h34 => refine' sif ?h31 ?h32 ?h33
   case' h31 => refine' rtcmp oge ?h14 ?h15
   case' h14 => exact rvN 0 no__law_well
   case' h15 => refine' rop opow ?h12 ?h13
   case' h12 => exact ri
   case' h13 => exact ri
   case' h32 => refine' sone ?h30
   case' h30 => refine' sret ?h29
   case' h29 => refine' rlst ?h28
   case' h28 => refine' acons ?h26 ?h27
   case' h26 => refine' rop osub ?h24 ?h25
   case' h24 => exact rvN 0 no__law_well
   case' h25 => refine' rop opow ?h22 ?h23
   case' h22 => exact ri
   case' h23 => exact ri
   case' h27 => refine' acons ?h20 ?h21
   case' h20 => refine' rop omod ?h18 ?h19
   case' h18 => exact rvN 0 no__law_well
   case' h19 => exact ri
   case' h21 => refine' acons ?h16 ?h17
   case' h16 => exact rvN 1 no__law_well
   case' h17 => exact anil
   case' h33 => exact snil
   case' h35 => refine' sone ?h11
   case' h11 => refine' sret ?h10
   case' h10 => refine' rlst ?h9
   case' h9 => refine' acons ?h7 ?h8
   case' h7 => exact ri
   case' h8 => refine' acons ?h5 ?h6
   case' h5 => refine' rop omod ?h3 ?h4
   case' h3 => exact rvN 0 no__law_well
   case' h4 => exact ri
   case' h6 => refine' acons ?h1 ?h2
   case' h1 => exact rvN 1 no__law_well
   case' h2 => exact anil

set_option maxHeartbeats 40000000 in
theorem rd__law_well (T : Txt P w K mg C)  {rs : List RV} {M : RM} {Q : RVK} (h : sp__law_well rs M Q) : (pk__law_well (base := base) T ).1 { nx := fun _ M' => Q .non M', rt := Q } (rstart N__law_well rs) M := by
    unfold sp__law_well at h
    unfold pk__law_well
    dsimp only
    obtain ⟨c, t, rfl, t0, h⟩ := h
    simp only [R.rSeq, R.rIfS, R.rSet, R.rRet, R.rRetN, R.rTest, R.rOp, R.rVar, R.rC, R.rCons, R.rNil, R.rCall, R.rTup, R.rLsF, R.rLst, R.rIx, R.rAsg, R.rgSub, R.rgN, R.rgU, R.setAll, R.rInt0, R.rInt2, R.rAdd, R.rNext, R.rDrop, R.rIf, R.rAnd, R.rOr, R.rNot, R.rAndV, R.rOrV, R.rNotV, R.rChain, R.rUn, R.rgNeg, R.rSl, R.rPart, R.rNoP, R.rSlc, R.rForI, R.rItS, R.rItR, R.rRngI, R.rComp, R.rYes, R.rTuple, R.rLen, R.rIsi, R.rEqq, R.rNeq, R.rIs, R.rIsNot, R.rTab, R.rDispGet, R.rSetL, R.rMul, R.isN, R.keyR, R.rstart, R.is_int, R.is_bool, R.is_str, R.is_tuple, R.is_list, R.rGt, R.rMod, R.rDiv, R.rPow, R.rShr, R.rBand, R.rLt, R.rLe, R.rGe, R.rSub, List.map_cons, List.map_nil, List.set_cons_zero, List.set_cons_succ, List.length_cons, List.length_nil, List.replicate_succ, List.replicate_zero, List.cons_append, List.nil_append, List.getElem?_cons_zero, List.getElem?_cons_succ, Nat.reduceSub, Nat.reduceAdd, true_implies, Bool.false_eq_true, Bool.true_eq_false, reduceCtorEq, false_implies, and_true, true_and, Option.join_some, Nat.zero_add, decide_eq_true_eq, decide_eq_false_iff_not, List.append_nil]
    have e18 : (10 : Int) ^ Int.toNat 18 = 1000000000000000000 := by decide
    rw [e18]
    refine ⟨⟨by decide, by decide, by decide⟩, fun hc => ⟨⟨by decide, by decide, by decide⟩, by decide, szl, fun p hp => ?_⟩, fun _ => ⟨by decide, szl, fun p hp => ?_⟩⟩
    · exact h p _ hp ⟨_, _, t, rfl, by omega, Int.emod_nonneg _ (by decide), Int.emod_lt_of_pos _ (by decide), t0, Int.le_refl _⟩
    · exact h p _ hp ⟨_, _, t, rfl, by decide, Int.emod_nonneg _ (by decide), Int.emod_lt_of_pos _ (by decide), t0, Int.le_refl _⟩
set_option maxHeartbeats 40000000 in
theorem fn__law_well {f : Addr} {fd : FuncData} (F : Fun K "_law_well" "_law_well" s__law_well f fd) (T : Txt P w K mg C)  : FnOk P w K mg base CX0 1 f fd ["cell", "turn"] (upSp K sp__law_well) := by
  refine' rfnok F sc__law_well (fun rs M Q h => ?len) (fun cdv A outer s H E hr => (pk__law_well (base := base) T ).2 f cdv A outer s H E hr) (fun rs M Q h => rd__law_well T  h)
  unfold sp__law_well at h; obtain ⟨c, t, rfl, _⟩ := h; rfl
set_option maxHeartbeats 40000000 in
def pk__law_is_free (T : Txt P w K mg C)  : {t : RTS // ∀ (f : Addr) (cdv : Value) (A : Around) (outer : List Env) (s : Shared) (H : Hp) (E : XK), Room 0 (A.deeper (envOfC "_law_is_free" (defScope s__law_is_free) s.heap.objs.size f cdv)) → RPSs (cxOf CX0 P w K mg base N__law_is_free "_law_is_free" (defScope s__law_is_free) f cdv A outer s H E).nox (defBody s__law_is_free) t} := by
  refine' ⟨?t, fun f cdv A outer s H E hr => ?term⟩
  case term =>
   refine' scons ?h35 ?h36
   case' h35 => refine' sif ?h32 ?h33 ?h34
   case' h32 => refine' rtw ?h29
   case' h29 => refine' ror ?h27 ?h28
   case' h27 => refine' rtcmp olt ?h25 ?h26
   case' h25 => exact rvN 1 no__law_is_free
   case' h26 => refine' rdget (hu_of hr) ?h23 ?h24
   case' h23 => exact rvN 0 no__law_is_free
   case' h24 => exact rs
   case' h28 => refine' ror ?h21 ?h22
   case' h21 => refine' rtcmp ogt ?h19 ?h20
   case' h19 => exact rvN 1 no__law_is_free
   case' h20 => refine' rdget (hu_of hr) ?h17 ?h18
   case' h17 => exact rvN 0 no__law_is_free
   case' h18 => exact rs
   case' h22 => refine' ror1 ?h16
   case' h16 => refine' rtdin (hu_of hr) ?h14 ?h15
   case' h14 => exact rvN 1 no__law_is_free
   case' h15 => refine' rdget (hu_of hr) ?h12 ?h13
   case' h12 => exact rvN 0 no__law_is_free
   case' h13 => exact rs
   case' h33 => refine' sone ?h31
   case' h31 => refine' sret ?h30
   case' h30 => exact rb
   case' h34 => exact snil
   case' h36 => refine' sone ?h11
   case' h11 => refine' sret ?h10
   case' h10 => refine' rcmp ole ?h8 ?h9
   case' h8 => refine' rdget2 (hu_of hr) ?h3 ?h4 ?h5
   case' h3 => refine' rdget (hu_of hr) ?h1 ?h2
   case' h1 => exact rvN 0 no__law_is_free
   case' h2 => exact rs
   case' h4 => exact rvN 1 no__law_is_free
   case' h5 => exact ri
   case' h9 => refine' rdget (hu_of hr) ?h6 ?h7
   case' h6 => exact rvN 0 no__law_is_free
   case' h7 => exact rs

set_option maxHeartbeats 40000000 in
theorem rd__law_is_free (T : Txt P w K mg C)  {rs : List RV} {M : RM} {Q : RVK} (h : sp__law_is_free rs M Q) : (pk__law_is_free (base := base) T ).1 { nx := fun _ M' => Q .non M', rt := Q } (rstart N__law_is_free rs) M := by
    unfold sp__law_is_free at h
    unfold pk__law_is_free
    dsimp only
    obtain ⟨o, t, u, lo, hi, mk, now, T, U, n, rfl, P, h⟩ := h
    walk_at "rs"
    refine do_atKey P.ob rfl ⟨_, ow_low, ?_⟩
    walk_at "rs"
    refine do_kB (fun e1 => ?_) fun e1 => ?_
    · walk_at "rs"
      exact blE h (by unfold freeL; rw [show decide (n < lo) = true from e1]; rfl)
    walk_at "rs"
    refine do_atKey P.ob rfl ⟨_, ow_high, ?_⟩
    walk_at "rs"
    refine do_kB (fun e2 => ?_) fun e2 => ?_
    · walk_at "rs"
      exact blE h (by unfold freeL; rw [show decide (hi < n) = true from e2]; simp)
    walk_at "rs"
    refine do_atKey P.ob rfl ⟨_, ow_taken, ?_⟩
    refine do_atKey P.tk rfl ?_
    rw [show (if false = true then !(lookK (tk T) (Sum.inl n)).isSome else (lookK (tk T) (Sum.inl n)).isSome) = decide (n ∈ T) from some_tk T n]
    walk_at "rs"
    refine do_kB (fun e3 => ?_) fun e3 => ?_
    · walk_at "rs"
      exact blE h (by unfold freeL; rw [e3]; simp)
    replace h := blE h (show freeL lo hi now T U n = decide ((valU U n).getD 0 ≤ now) by unfold freeL; rw [show decide (n < lo) = false from e1, show decide (hi < n) = false from e2, e3]; rfl)
    walk_at "rs"
    refine do_atKey P.ob rfl ⟨_, ow_until, ?_⟩
    refine ⟨⟨_, P.un⟩, ?_⟩
    walk_at "rs"
    refine do_atKey P.un rfl ?_
    rw [show (lookK (uk U) (Sum.inl n)).getD (.int 0) = .int ((valU U n).getD 0) by rw [look_uk]; cases valU U n <;> rfl]
    walk_at "rs"
    refine do_atKey P.ob rfl ⟨_, ow_now, ?_⟩
    walk_at "rs"
    exact h
set_option maxHeartbeats 40000000 in
theorem fn__law_is_free {f : Addr} {fd : FuncData} (F : Fun K "_law_is_free" "_law_is_free" s__law_is_free f fd) (T : Txt P w K mg C)  : FnOk P w K mg base CX0 1 f fd ["own", "number"] (upSp K sp__law_is_free) := by
  refine' rfnok F sc__law_is_free (fun rs M Q h => ?len) (fun cdv A outer s H E hr => (pk__law_is_free (base := base) T ).2 f cdv A outer s H E hr) (fun rs M Q h => rd__law_is_free T  h)
  unfold sp__law_is_free at h; obtain ⟨o, t, u, lo, hi, mk, now, T, U, n, rfl, _⟩ := h; rfl
set_option maxHeartbeats 40000000 in
def pk_Pool_is_free (T : Txt P w K mg C) (F_Pool_has : RMt P w K mg base C 1 "has" ["self", "number"] (sp_Pool_has C)) : {t : RTS // ∀ (f : Addr) (cdv : Value) (A : Around) (outer : List Env) (s : Shared) (H : Hp) (E : XK), Room 1 (A.deeper (envOfC "Pool.is_free" (defScope s_Pool_is_free) s.heap.objs.size f cdv)) → RPSs (cxOf CX0 P w K mg base N_Pool_is_free "Pool.is_free" (defScope s_Pool_is_free) f cdv A outer s H E).nox (defBody s_Pool_is_free) t} := by
  refine' ⟨?t, fun f cdv A outer s H E hr => ?term⟩
  case term =>
   refine' scons ?h32 ?h33
   case' h32 => refine' sif ?h29 ?h30 ?h31
   case' h29 => refine' rtw ?h26
   case' h26 => refine' ror ?h24 ?h25
   case' h24 => refine' rtnot ?h23
   case' h23 => refine' rtval ?h22
   case' h22 => refine' rmethF F_Pool_has T.cl (hr.mono (by decide)) ?h20 ?h21
   case' h20 => exact rvN 0 no_Pool_is_free
   case' h21 => refine' acons ?h18 ?h19
   case' h18 => exact rvN 1 no_Pool_is_free
   case' h19 => exact anil
   case' h25 => refine' ror1 ?h17
   case' h17 => refine' rtdin (hu_of hr) ?h15 ?h16
   case' h15 => exact rvN 1 no_Pool_is_free
   case' h16 => refine' rfld T.cl T.n_taken ?h14
   case' h14 => exact rvN 0 no_Pool_is_free
   case' h30 => refine' sone ?h28
   case' h28 => refine' sret ?h27
   case' h27 => exact rb
   case' h31 => exact snil
   case' h33 => refine' sone ?h13
   case' h13 => refine' sret ?h12
   case' h12 => refine' rorv ?h10 ?h11
   case' h10 => refine' rdnotin (hu_of hr) ?h8 ?h9
   case' h8 => exact rvN 1 no_Pool_is_free
   case' h9 => refine' rfld T.cl T.n_until ?h7
   case' h7 => exact rvN 0 no_Pool_is_free
   case' h11 => refine' rone ?h6
   case' h6 => refine' rcmp ole ?h4 ?h5
   case' h4 => refine' rdget (hu_of hr) ?h2 ?h3
   case' h2 => refine' rfld T.cl T.n_until ?h1
   case' h1 => exact rvN 0 no_Pool_is_free
   case' h3 => exact rvN 1 no_Pool_is_free
   case' h5 => exact rvN 2 no_Pool_is_free

set_option maxHeartbeats 40000000 in
theorem rd_Pool_is_free (T : Txt P w K mg C) (F_Pool_has : RMt P w K mg base C 1 "has" ["self", "number"] (sp_Pool_has C)) {rs : List RV} {M : RM} {Q : RVK} (h : (sp_Pool_is_free C) rs M Q) : (pk_Pool_is_free (base := base) T F_Pool_has).1 { nx := fun _ M' => Q .non M', rt := Q } (rstart N_Pool_is_free rs) M := by
    unfold sp_Pool_is_free at h
    unfold pk_Pool_is_free
    dsimp only
    obtain ⟨p, t, u, lo, hi, mk, T, U, n, m, rfl, P, h⟩ := h
    walk_at "rs"
    refine do_kmeth P.ob fl_has ?_
    walk_at "rs"
    refine p_has_do P.ob ?_
    walk_at "rs"
    refine do_kB (fun e => ?_) fun e => ?_
    · walk_at "rs"
      exact andF h (notT e)
    replace h := andT h (notF e)
    walk_at "rs"
    refine do_kfld P.ob fl_taken ?_
    refine do_atKey P.tk rfl ?_
    rw [show (if false = true then !(lookK (tk T) (Sum.inl n)).isSome else (lookK (tk T) (Sum.inl n)).isSome) = decide (n ∈ T) from some_tk T n]
    walk_at "rs"
    refine do_kB (fun e2 => ?_) fun e2 => ?_
    · walk_at "rs"
      exact andF h (by rw [e2]; rfl)
    replace h := andT h (by rw [e2]; rfl)
    walk_at "rs"
    refine do_kfld P.ob fl_until ?_
    refine do_atKey P.un rfl ?_
    rw [show (if true = true then !(lookK (uk U) (Sum.inl n)).isSome else (lookK (uk U) (Sum.inl n)).isSome) = !(valU U n).isSome by rw [look_uk]; simp]
    cases q : valU U n with
    | none =>
      rw [q] at h
      exact do_korT h
    | some v =>
      rw [q] at h
      refine do_korF ?_
      walk_at "rs"
      refine do_kfld P.ob fl_until ?_
      walk_at "rs"
      refine do_atKey P.un rfl ⟨.int v, by rw [look_uk, q]; rfl, ?_⟩
      walk_at "rs"
      exact h
set_option maxHeartbeats 40000000 in
theorem fn_Pool_is_free {f : Addr} {fd : FuncData} (F : Fun K "is_free" "Pool.is_free" s_Pool_is_free f fd) (T : Txt P w K mg C) (F_Pool_has : RMt P w K mg base C 1 "has" ["self", "number"] (sp_Pool_has C)) : FnOk P w K mg base CX0 2 f fd ["self", "number", "moment"] (upSp K (sp_Pool_is_free C)) := by
  refine' rfnok F sc_Pool_is_free (fun rs M Q h => ?len) (fun cdv A outer s H E hr => (pk_Pool_is_free (base := base) T F_Pool_has).2 f cdv A outer s H E hr) (fun rs M Q h => rd_Pool_is_free T F_Pool_has h)
  unfold sp_Pool_is_free at h; obtain ⟨p, t, u, lo, hi, mk, T, U, n, m, rfl, _⟩ := h; rfl
set_option maxHeartbeats 40000000 in
def pk__law_picked (T : Txt P w K mg C) (F__law_is_free : RFn P w K mg base 1 "_law_is_free" ["own", "number"] sp__law_is_free) : {t : RTS // ∀ (f : Addr) (cdv : Value) (A : Around) (outer : List Env) (s : Shared) (H : Hp) (E : XK), Room 1 (A.deeper (envOfC "_law_picked" (defScope s__law_picked) s.heap.objs.size f cdv)) → RPSs (cxOf CX0 P w K mg base N__law_picked "_law_picked" (defScope s__law_picked) f cdv A outer s H E).nox (defBody s__law_picked) t} := by
  refine' ⟨?t, fun f cdv A outer s H E hr => ?term⟩
  case term =>
   refine' scons ?h66 ?h67
   case' h66 => refine' sif ?h63 ?h64 ?h65
   case' h63 => refine' rtw ?h60
   case' h60 => refine' rand ?h58 ?h59
   case' h58 => refine' rtcmp (oeq hr.units) ?h56 ?h57
   case' h56 => exact rvN 1 no__law_picked
   case' h57 => exact rs
   case' h59 => refine' rand1 ?h55
   case' h55 => refine' rtval ?h54
   case' h54 => refine' rcallF F__law_is_free (hr.mono (by decide)) ?h53 (hg := gl__law_picked__law_is_free) (hdb := db__law_is_free)
   case' h53 => refine' acons ?h51 ?h52
   case' h51 => exact rvN 0 no__law_picked
   case' h52 => refine' acons ?h49 ?h50
   case' h49 => exact rvN 2 no__law_picked
   case' h50 => exact anil
   case' h64 => refine' sone ?h62
   case' h62 => refine' sret ?h61
   case' h61 => exact rvN 2 no__law_picked
   case' h65 => exact snil
   case' h67 => refine' scons ?h47 ?h48
   case' h47 => refine' ssetN 3 no__law_picked ?h46
   case' h46 => refine' rop oadd ?h44 ?h45
   case' h44 => refine' rop osub ?h42 ?h43
   case' h42 => refine' rdget (hu_of hr) ?h38 ?h39
   case' h38 => exact rvN 0 no__law_picked
   case' h39 => exact rs
   case' h43 => refine' rdget (hu_of hr) ?h40 ?h41
   case' h40 => exact rvN 0 no__law_picked
   case' h41 => exact rs
   case' h45 => exact ri
   case' h48 => refine' scons ?h36 ?h37
   case' h36 => refine' sfor PassesOwn.never rfl ?h33 ?h34 ?h35
   case' h33 => refine' irange T.b_range ?h3 (hgl := gl__law_picked_range)
   case' h3 => exact rvN 3 no__law_picked
   case' h34 => exact gnameN 4 no__law_picked
   case' h35 => refine' scons ?h31 ?h32
   case' h31 => refine' ssetN 5 no__law_picked ?h30
   case' h30 => refine' rop oadd ?h28 ?h29
   case' h28 => refine' rdget (hu_of hr) ?h16 ?h17
   case' h16 => exact rvN 0 no__law_picked
   case' h17 => exact rs
   case' h29 => refine' rop omod ?h26 ?h27
   case' h26 => refine' rop oadd ?h24 ?h25
   case' h24 => refine' rop osub ?h22 ?h23
   case' h22 => refine' rdget (hu_of hr) ?h18 ?h19
   case' h18 => exact rvN 0 no__law_picked
   case' h19 => exact rs
   case' h23 => refine' rdget (hu_of hr) ?h20 ?h21
   case' h20 => exact rvN 0 no__law_picked
   case' h21 => exact rs
   case' h25 => exact rvN 4 no__law_picked
   case' h27 => exact rvN 3 no__law_picked
   case' h32 => refine' sone ?h15
   case' h15 => refine' sif ?h12 ?h13 ?h14
   case' h12 => refine' rtval ?h9
   case' h9 => refine' rcallF F__law_is_free (hr.mono (by decide)) ?h8 (hg := gl__law_picked__law_is_free) (hdb := db__law_is_free)
   case' h8 => refine' acons ?h6 ?h7
   case' h6 => exact rvN 0 no__law_picked
   case' h7 => refine' acons ?h4 ?h5
   case' h4 => exact rvN 5 no__law_picked
   case' h5 => exact anil
   case' h13 => refine' sone ?h11
   case' h11 => refine' sret ?h10
   case' h10 => exact rvN 5 no__law_picked
   case' h14 => exact snil
   case' h37 => refine' sone ?h2
   case' h2 => refine' sret ?h1
   case' h1 => exact rn


theorem find_loopR {g : RTG} {tb : RTS} {n b c : RSt → RM → Prop} {r : RVK} {M : RM} (v : Int → Int) (f : Int → Bool) : ∀ (ks : List Nat) (J : RSt → Prop), (∀ (k : Int) σ (N : RSt → RM → Prop), J σ → (f (v k) = true → r (.int (v k)) M) → (f (v k) = false → ∀ σ', J σ' → N σ' M) → g (.int k) σ M fun σ2 M2 => tb ⟨N, r, n, N⟩ σ2 M2) →
    (∀ m, (ks.map fun (k : Nat) => v (k : Int)).find? f = some m → r (.int m) M) → ((ks.map fun (k : Nat) => v (k : Int)).find? f = none → ∀ σ, J σ → n σ M) → ∀ σ, J σ → rForL g tb ⟨n, r, b, c⟩ (ks.map fun (i : Nat) => RV.int (i : Int)) σ M
  | [], J, hs, h1, h2, σ, j => h2 rfl σ j
  | k :: ks, J, hs, h1, h2, σ, j => by
    refine do_forCons (hs (k : Int) σ _ j (fun e => h1 _ (by rw [List.map_cons, List.find?_cons, e])) fun e σ' j' => ?_)
    exact find_loopR v f ks J hs (fun m hm => h1 m (by rw [List.map_cons, List.find?_cons, e]; exact hm)) (fun hm => h2 (by rw [List.map_cons, List.find?_cons, e]; exact hm)) σ' j'

set_option maxHeartbeats 40000000 in
theorem rd__law_picked (T : Txt P w K mg C) (F__law_is_free : RFn P w K mg base 1 "_law_is_free" ["own", "number"] sp__law_is_free) {rs : List RV} {M : RM} {Q : RVK} (h : sp__law_picked rs M Q) : (pk__law_picked (base := base) T F__law_is_free).1 { nx := fun _ M' => Q .non M', rt := Q } (rstart N__law_picked rs) M := by
    unfold sp__law_picked at h
    unfold pk__law_picked
    dsimp only
    obtain ⟨o, t, u, lo, hi, mk, now, T, U, way, d, rfl, P, hb, h⟩ := h
    obtain ⟨b1, b2, b3, b4, b5⟩ := id hb
    refine do_start (τ' := [some (.ref o), some (.str way), some (.int d), none, none, none]) rfl ?_
    have tail : (¬ (eqR (.str way) (.str "keep") = true ∧ freeL lo hi now T U d = true)) → Q (match (orderL lo hi mk).find? (freeL lo hi now T U) with | some n => .int n | none => .non) M := fun hn => by
      unfold pickF at h; rw [if_neg hn] at h; exact h
    walk_at "rs"
    refine do_kB (fun e => ?_) fun e => ?_
    · walk_at "rs"
      refine l_is_free_do P ?_
      walk_at "rs"
      refine do_kB (fun e2 => ?_) fun e2 => ?_
      · walk_at "rs"
        unfold pickF at h
        rw [if_pos ⟨e, e2⟩] at h
        exact h
      · replace h := tail fun z => by rw [e2] at z; exact Bool.false_ne_true z.2
        walk_at "rs"
        refine do_atKey P.ob rfl ⟨_, ow_high, ?_⟩
        walk_at "rs"
        refine do_atKey P.ob rfl ⟨_, ow_low, ?_⟩
        walk_at "rs"
        refine do_rng (by omega) (by omega) ?_
        refine find_loopR (fun k => lo + (mk - lo + k) % (hi - lo + 1)) (freeL lo hi now T U) (List.range (hi - lo + 1).toNat) (fun σ => ∃ a b, σ = [some (.ref o), some (.str way), some (.int d), some (.int (hi - lo + 1)), a, b]) ?_ ?_ ?_ _ ⟨_, _, rfl⟩
        · rintro k σ N ⟨a, b, rfl⟩ hN1 hN2
          walk_at "rs"
          refine do_atKey P.ob rfl ⟨_, ow_low, ?_⟩
          walk_at "rs"
          refine do_atKey P.ob rfl ⟨_, ow_mark, ?_⟩
          walk_at "rs"
          refine do_atKey P.ob rfl ⟨_, ow_low, ?_⟩
          walk_at "rs"
          refine do_int2 (show (0 : Int) < hi - lo + 1 by omega) ?_
          walk_at "rs"
          refine l_is_free_do P ?_
          walk_at "rs"
          refine do_kB (fun e3 => ?_) fun e3 => ?_
          · walk_at "rs"
            exact hN1 e3
          · walk_at "rs"
            exact hN2 e3 _ ⟨_, _, rfl⟩
        · intro n hf
          rw [show orderL lo hi mk = (List.range (hi - lo + 1).toNat).map (fun (k : Nat) => lo + (mk - lo + (k : Int)) % (hi - lo + 1)) from rfl, hf] at h
          exact h
        · rintro hf σ ⟨a, b, rfl⟩
          rw [show orderL lo hi mk = (List.range (hi - lo + 1).toNat).map (fun (k : Nat) => lo + (mk - lo + (k : Int)) % (hi - lo + 1)) from rfl, hf] at h
          walk_at "rs"
          exact h
    · replace h := tail fun z => by rw [show eqR (.str way) (.str "keep") = false from e] at z; exact Bool.false_ne_true z.1
      walk_at "rs"
      refine do_atKey P.ob rfl ⟨_, ow_high, ?_⟩
      walk_at "rs"
      refine do_atKey P.ob rfl ⟨_, ow_low, ?_⟩
      walk_at "rs"
      refine do_rng (by omega) (by omega) ?_
      refine find_loopR (fun k => lo + (mk - lo + k) % (hi - lo + 1)) (freeL lo hi now T U) (List.range (hi - lo + 1).toNat) (fun σ => ∃ a b, σ = [some (.ref o), some (.str way), some (.int d), some (.int (hi - lo + 1)), a, b]) ?_ ?_ ?_ _ ⟨_, _, rfl⟩
      · rintro k σ N ⟨a, b, rfl⟩ hN1 hN2
        walk_at "rs"
        refine do_atKey P.ob rfl ⟨_, ow_low, ?_⟩
        walk_at "rs"
        refine do_atKey P.ob rfl ⟨_, ow_mark, ?_⟩
        walk_at "rs"
        refine do_atKey P.ob rfl ⟨_, ow_low, ?_⟩
        walk_at "rs"
        refine do_int2 (show (0 : Int) < hi - lo + 1 by omega) ?_
        walk_at "rs"
        refine l_is_free_do P ?_
        walk_at "rs"
        refine do_kB (fun e3 => ?_) fun e3 => ?_
        · walk_at "rs"
          exact hN1 e3
        · walk_at "rs"
          exact hN2 e3 _ ⟨_, _, rfl⟩
      · intro n hf
        rw [show orderL lo hi mk = (List.range (hi - lo + 1).toNat).map (fun (k : Nat) => lo + (mk - lo + (k : Int)) % (hi - lo + 1)) from rfl, hf] at h
        exact h
      · rintro hf σ ⟨a, b, rfl⟩
        rw [show orderL lo hi mk = (List.range (hi - lo + 1).toNat).map (fun (k : Nat) => lo + (mk - lo + (k : Int)) % (hi - lo + 1)) from rfl, hf] at h
        walk_at "rs"
        exact h
set_option maxHeartbeats 40000000 in
theorem fn__law_picked {f : Addr} {fd : FuncData} (F : Fun K "_law_picked" "_law_picked" s__law_picked f fd) (T : Txt P w K mg C) (F__law_is_free : RFn P w K mg base 1 "_law_is_free" ["own", "number"] sp__law_is_free) : FnOk P w K mg base CX0 2 f fd ["own", "way", "door"] (upSp K sp__law_picked) := by
  refine' rfnok F sc__law_picked (fun rs M Q h => ?len) (fun cdv A outer s H E hr => (pk__law_picked (base := base) T F__law_is_free).2 f cdv A outer s H E hr) (fun rs M Q h => rd__law_picked T F__law_is_free h)
  unfold sp__law_picked at h; obtain ⟨o, t, u, lo, hi, mk, now, T, U, way, d, rfl, _⟩ := h; rfl
set_option maxHeartbeats 40000000 in
def pk__law_some (T : Txt P w K mg C) (F__law_take : RFn P w K mg base 1 "_law_take" ["bag", "many"] sp__law_take) : {t : RTS // ∀ (f : Addr) (cdv : Value) (A : Around) (outer : List Env) (s : Shared) (H : Hp) (E : XK), Room 1 (A.deeper (envOfC "_law_some" (defScope s__law_some) s.heap.objs.size f cdv)) → RPSs (cxOf CX0 P w K mg base N__law_some "_law_some" (defScope s__law_some) f cdv A outer s H E).nox (defBody s__law_some) t} := by
  refine' ⟨?t, fun f cdv A outer s H E hr => ?term⟩
  case term =>
   refine' scons ?h96 ?h97
   case' h96 => refine' ssetN 2 no__law_some ?h95
   case' h95 => refine' rop oadd ?h93 ?h94
   case' h93 => refine' rcallB (csortedD rfl) T.b_sorted bt_sorted ?h87 (hg := gl__law_some_sorted) (hdb := db_sorted) (hn := nn_sorted)
   case' h87 => refine' acons ?h85 ?h86
   case' h85 => refine' rdget (hu_of hr) ?h83 ?h84
   case' h83 => exact rvN 1 no__law_some
   case' h84 => exact rs
   case' h86 => exact anil
   case' h94 => refine' rcallB (csortedD rfl) T.b_sorted bt_sorted ?h92 (hg := gl__law_some_sorted) (hdb := db_sorted) (hn := nn_sorted)
   case' h92 => refine' acons ?h90 ?h91
   case' h90 => refine' rdget (hu_of hr) ?h88 ?h89
   case' h88 => exact rvN 1 no__law_some
   case' h89 => exact rs
   case' h91 => exact anil
   case' h97 => refine' scons ?h81 ?h82
   case' h81 => refine' ssetN 3 no__law_some ?h80
   case' h80 => refine' rop oadd ?h78 ?h79
   case' h78 => refine' rop osub ?h76 ?h77
   case' h76 => refine' rdget (hu_of hr) ?h72 ?h73
   case' h72 => exact rvN 1 no__law_some
   case' h73 => exact rs
   case' h77 => refine' rdget (hu_of hr) ?h74 ?h75
   case' h74 => exact rvN 1 no__law_some
   case' h75 => exact rs
   case' h79 => exact ri
   case' h82 => refine' scons ?h70 ?h71
   case' h70 => refine' ssetN 4 no__law_some ?h69
   case' h69 => refine' rlsf ?h68
   case' h68 => refine' acons ?h66 ?h67
   case' h66 => refine' rop oadd ?h64 ?h65
   case' h64 => refine' rdget (hu_of hr) ?h57 ?h58
   case' h57 => exact rvN 1 no__law_some
   case' h58 => exact rs
   case' h65 => refine' rcallF F__law_take (hr.mono (by decide)) ?h63 (hg := gl__law_some__law_take) (hdb := db__law_take)
   case' h63 => refine' acons ?h61 ?h62
   case' h61 => exact rvN 0 no__law_some
   case' h62 => refine' acons ?h59 ?h60
   case' h59 => exact rvN 3 no__law_some
   case' h60 => exact anil
   case' h67 => refine' acons ?h55 ?h56
   case' h55 => refine' rop oadd ?h53 ?h54
   case' h53 => exact ri
   case' h54 => refine' rcallF F__law_take (hr.mono (by decide)) ?h52 (hg := gl__law_some__law_take) (hdb := db__law_take)
   case' h52 => refine' acons ?h50 ?h51
   case' h50 => exact rvN 0 no__law_some
   case' h51 => refine' acons ?h48 ?h49
   case' h48 => exact ri
   case' h49 => exact anil
   case' h56 => refine' acons ?h46 ?h47
   case' h46 => refine' rdget (hu_of hr) ?h44 ?h45
   case' h44 => exact rvN 1 no__law_some
   case' h45 => exact rs
   case' h47 => refine' acons ?h42 ?h43
   case' h42 => refine' rdget (hu_of hr) ?h40 ?h41
   case' h40 => exact rvN 1 no__law_some
   case' h41 => exact rs
   case' h43 => exact anil
   case' h71 => refine' scons ?h38 ?h39
   case' h38 => refine' sif ?h35 ?h36 ?h37
   case' h35 => refine' rtcmp (one hr.units) ?h14 ?h15
   case' h14 => exact rvN 2 no__law_some
   case' h15 => refine' rlsf ?h13
   case' h13 => exact anil
   case' h36 => refine' sone ?h34
   case' h34 => refine' ssetN 4 no__law_some ?h33
   case' h33 => refine' rop oadd ?h31 ?h32
   case' h31 => exact rvN 4 no__law_some
   case' h32 => refine' rop omul ?h29 ?h30
   case' h29 => refine' rlst ?h28
   case' h28 => refine' acons ?h26 ?h27
   case' h26 => refine' rix ?h24 ?h25
   case' h24 => exact rvN 2 no__law_some
   case' h25 => refine' rcallF F__law_take (hr.mono (by decide)) ?h23 (hg := gl__law_some__law_take) (hdb := db__law_take)
   case' h23 => refine' acons ?h21 ?h22
   case' h21 => exact rvN 0 no__law_some
   case' h22 => refine' acons ?h19 ?h20
   case' h19 => refine' rcallB clen T.b_len bt_len ?h18 (hg := gl__law_some_len) (hdb := db_len) (hn := nn_len)
   case' h18 => refine' acons ?h16 ?h17
   case' h16 => exact rvN 2 no__law_some
   case' h17 => exact anil
   case' h20 => exact anil
   case' h27 => exact anil
   case' h30 => exact ri
   case' h37 => exact snil
   case' h39 => refine' sone ?h12
   case' h12 => refine' sret ?h11
   case' h11 => refine' rix ?h9 ?h10
   case' h9 => exact rvN 4 no__law_some
   case' h10 => refine' rcallF F__law_take (hr.mono (by decide)) ?h8 (hg := gl__law_some__law_take) (hdb := db__law_take)
   case' h8 => refine' acons ?h6 ?h7
   case' h6 => exact rvN 0 no__law_some
   case' h7 => refine' acons ?h4 ?h5
   case' h4 => refine' rcallB clen T.b_len bt_len ?h3 (hg := gl__law_some_len) (hdb := db_len) (hn := nn_len)
   case' h3 => refine' acons ?h1 ?h2
   case' h1 => exact rvN 4 no__law_some
   case' h2 => exact anil
   case' h5 => exact anil


theorem ints_ok (l : List Int) : okR 16 (.ls (l.map RV.int)) = true := by
  show (l.map RV.int).all (okR 15) = true
  rw [List.all_eq_true]
  intro x hx
  obtain ⟨n, _, rfl⟩ := List.mem_map.mp hx
  rfl
theorem at_some_int {l : List Int} {i : Int} {P : RV → Prop} (h0 : 0 ≤ i) (h1 : i < (l.map RV.int).length) (h : ∀ n ∈ l, P (.int n)) : (match atI (l.map RV.int) i with | some v => P v | none => False) := at_do h0 h1 fun v hv => by
  obtain ⟨n, hn, rfl⟩ := List.mem_map.mp hv
  exact h n hn

set_option maxHeartbeats 40000000 in
theorem rd__law_some (T : Txt P w K mg C) (F__law_take : RFn P w K mg base 1 "_law_take" ["bag", "many"] sp__law_take) {rs : List RV} {M : RM} {Q : RVK} (h : sp__law_some rs M Q) : (pk__law_some (base := base) T F__law_take).1 { nx := fun _ M' => Q .non M', rt := Q } (rstart N__law_some rs) M := by
    unfold sp__law_some at h
    unfold pk__law_some
    dsimp only
    obtain ⟨b, k, o, t, u, lo, hi, mk, now, T, U, rfl, hB, k0, k1, P, hb, ⟨hT, hU, lT, lU⟩, h⟩ := h
    obtain ⟨b1, b2, b3, b4, b5⟩ := id hb
    refine do_start (τ' := [some (.ref b), some (.ref o), none, none, none]) rfl ?_
    obtain ⟨ob, eb, hob⟩ := id hB
    have nbo : b ≠ o := fun z => by rw [z, P.ob] at eb; cases eb; obtain ⟨_, _, _, z2, _⟩ := hob; cases z2
    have nbt : b ≠ t := fun z => by rw [z, P.tk] at eb; cases eb; obtain ⟨_, _, _, z2, _⟩ := hob; cases z2
    have nbu : b ≠ u := fun z => by rw [z, P.un] at eb; cases eb; obtain ⟨_, _, _, z2, _⟩ := hob; cases z2
    have OP : ∀ (x : RO), OAt (R.put M b x) o t u lo hi mk now T U := fun x => ⟨by rw [put_ne nbo.symm]; exact P.ob, by rw [put_ne nbt.symm]; exact P.tk, by rw [put_ne nbu.symm]; exact P.un, P.ne⟩
    walk_at "rs"
    refine do_atKey P.ob rfl ⟨_, ow_taken, ?_⟩
    walk_at "rs"
    refine do_sortD (ns := T) P.tk (keys_tk T) lT fun s1 hp1 ho1 => ?_
    walk_at "rs"
    refine do_atKey P.ob rfl ⟨_, ow_until, ?_⟩
    walk_at "rs"
    refine do_sortD (ns := U.map (·.1)) P.un (keys_uk U) (by rw [List.length_map]; exact lU) fun s2 hp2 ho2 => ?_
    have l1 : s1.length < 64 := by rw [hp1.length_eq]; exact lT
    have l2 : s2.length < 64 := by rw [hp2.length_eq, List.length_map]; exact lU
    walk_at "rs"
    refine do_addL' (szl (by rw [List.length_map, List.length_map]; omega)) ?_
    rw [← List.map_append]
    walk_at "rs"
    refine do_atKey P.ob rfl ⟨_, ow_high, ?_⟩
    walk_at "rs"
    refine do_atKey P.ob rfl ⟨_, ow_low, ?_⟩
    walk_at "rs"
    refine do_atKey P.ob rfl ⟨_, ow_low, ?_⟩
    walk_at "rs"
    refine take_do hB (by omega) (by omega) (by omega) fun r1 o1 ra1 rb1 ho1 => ?_
    walk_at "rs"
    refine take_do (Bag.put ho1) (by decide) (by decide) (by omega) fun r2 o2 ra2 rb2 ho2 => ?_
    walk_at "rs"
    rw [R.put_put]
    refine do_atKey (OP _).ob rfl ⟨_, ow_low, ?_⟩
    walk_at "rs"
    refine do_atKey (OP _).ob rfl ⟨_, ow_high, ?_⟩
    have hzr : ∀ n ∈ s1 ++ s2, lo ≤ n ∧ n ≤ hi := fun n hn => by
      rcases List.mem_append.mp hn with hn | hn
      · exact hT n (hp1.mem_iff.mp hn)
      · exact hU n (hp2.mem_iff.mp hn)
    have hzl : (s1 ++ s2).length ≤ 126 := by rw [List.length_append]; omega
    generalize s1 ++ s2 = zs at hzr hzl ⊢
    cases zs with
    | nil =>
      walk_at "rd"
      refine take_do (Bag.put ho2) (by show _ < _; simp only [List.length_cons, List.length_nil]; decide) (by show _ < _; simp only [List.length_cons, List.length_nil]; decide) (by omega) fun r3 o3 ra3 rb3 ho3 => ?_
      walk_at "rs"
      refine at_ints 1 9999 ra3 fun n n0 n1 => ?_
      rw [R.put_put]
      exact h n _ n0 n1 (Bag.put (ho3.mono (by omega))) fun x o' hx e => by rw [put_ne hx]; exact e
    | cons z zs =>
      walk_at "rs"
      refine do_ne (ints_ok _) rfl ?_
      walk_at "rd"
      refine take_do (Bag.put ho2) (by first | (simp only [List.length_map, List.length_cons]; omega) | (show _ < _; simp only [List.length_map, List.length_cons] at hzl ⊢; omega)) (by first | (simp only [List.length_map, List.length_cons]; omega) | (show _ < _; simp only [List.length_map, List.length_cons] at hzl ⊢; omega)) (by omega) fun r3 o3 ra3 rb3 ho3 => ?_
      walk_at "rs"
      refine at_some_int ra3 (by rw [List.length_map]; rw [List.length_map] at rb3; exact rb3) fun v hv => ?_
      obtain ⟨v0, v1⟩ := hzr v hv
      walk_at "rs"
      intro q hq
      rw [R.put_put] at hq ⊢
      have nqb : q ≠ b := fun e => by rw [e, put_same] at hq; cases hq
      walk_at "rs"
      refine do_mulL put_same (by decide) (by decide) rfl ?_
      walk_at "rs"
      refine take_do (Bag.other (Bag.put ho3) nqb) (by show _ < _; first | decide | (exact Int.lt_of_le_of_lt (Int.le_refl 8) (by decide)) | exact (by decide : (0 : Int) < 8)) (by show _ < _; first | decide | (exact Int.lt_of_le_of_lt (Int.le_refl 8) (by decide)) | exact (by decide : (0 : Int) < 8)) (by omega) fun r4 o4 ra4 rb4 ho4 => ?_
      walk_at "rs"
      refine at_ints 1 9999 ra4 (fun n n0 n1 => ?_) (h1 := rb4) (ha := by show AllI 1 9999 [.int _, .int _, .int _, .int _, .int v, .int v, .int v, .int v]; simp only [AllI, and_true]; omega)
      exact h n _ n0 n1 (Bag.put (ho4.mono (by omega))) fun x o' hx e => by
        have hxq : x ≠ q := fun e2 => by subst e2; rw [put_ne hx, e] at hq; cases hq
        rw [put_ne hx, put_ne hxq, put_ne hx]; exact e
set_option maxHeartbeats 40000000 in
theorem fn__law_some {f : Addr} {fd : FuncData} (F : Fun K "_law_some" "_law_some" s__law_some f fd) (T : Txt P w K mg C) (F__law_take : RFn P w K mg base 1 "_law_take" ["bag", "many"] sp__law_take) : FnOk P w K mg base CX0 2 f fd ["bag", "own"] (upSp K sp__law_some) := by
  refine' rfnok F sc__law_some (fun rs M Q h => ?len) (fun cdv A outer s H E hr => (pk__law_some (base := base) T F__law_take).2 f cdv A outer s H E hr) (fun rs M Q h => rd__law_some T F__law_take h)
  unfold sp__law_some at h; obtain ⟨b, k, o, t, u, lo, hi, mk, now, T, U, rfl, _⟩ := h; rfl
set_option maxHeartbeats 40000000 in
def pk_Pool_picked (T : Txt P w K mg C) (F_Pool_from_mark : RMt P w K mg base C 1 "from_mark" ["self"] (sp_Pool_from_mark C)) (F_Pool_is_free : RMt P w K mg base C 2 "is_free" ["self", "number", "moment"] (sp_Pool_is_free C)) : {t : RTS // ∀ (f : Addr) (cdv : Value) (A : Around) (outer : List Env) (s : Shared) (H : Hp) (E : XK), Room 2 (A.deeper (envOfC "Pool.picked" (defScope s_Pool_picked) s.heap.objs.size f cdv)) → RPSs (cxOf CX0 P w K mg base N_Pool_picked "Pool.picked" (defScope s_Pool_picked) f cdv A outer s H E).nox (defBody s_Pool_picked) t} := by
  refine' ⟨?t, fun f cdv A outer s H E hr => ?term⟩
  case term =>
   refine' scons ?h41 ?h42
   case' h41 => refine' sif ?h38 ?h39 ?h40
   case' h38 => refine' rtw ?h35
   case' h35 => refine' rand ?h33 ?h34
   case' h33 => refine' rtcmp (oeq hr.units) ?h31 ?h32
   case' h31 => exact rvN 1 no_Pool_picked
   case' h32 => exact rs
   case' h34 => refine' rand1 ?h30
   case' h30 => refine' rtval ?h29
   case' h29 => refine' rmethF F_Pool_is_free T.cl (hr.mono (by decide)) ?h27 ?h28
   case' h27 => exact rvN 0 no_Pool_picked
   case' h28 => refine' acons ?h25 ?h26
   case' h25 => exact rvN 2 no_Pool_picked
   case' h26 => refine' acons ?h23 ?h24
   case' h23 => exact rvN 3 no_Pool_picked
   case' h24 => exact anil
   case' h39 => refine' sone ?h37
   case' h37 => refine' sret ?h36
   case' h36 => exact rvN 2 no_Pool_picked
   case' h40 => exact snil
   case' h42 => refine' scons ?h21 ?h22
   case' h21 => refine' sfor PassesOwn.never rfl ?h18 ?h19 ?h20
   case' h18 => refine' iseq ?h4
   case' h4 => refine' rmethF0 F_Pool_from_mark T.cl (hr.mono (by decide)) ?h3
   case' h3 => exact rvN 0 no_Pool_picked
   case' h19 => exact gnameN 4 no_Pool_picked
   case' h20 => refine' sone ?h17
   case' h17 => refine' sif ?h14 ?h15 ?h16
   case' h14 => refine' rtval ?h11
   case' h11 => refine' rmethF F_Pool_is_free T.cl (hr.mono (by decide)) ?h9 ?h10
   case' h9 => exact rvN 0 no_Pool_picked
   case' h10 => refine' acons ?h7 ?h8
   case' h7 => exact rvN 4 no_Pool_picked
   case' h8 => refine' acons ?h5 ?h6
   case' h5 => exact rvN 3 no_Pool_picked
   case' h6 => exact anil
   case' h15 => refine' sone ?h13
   case' h13 => refine' sret ?h12
   case' h12 => exact rvN 4 no_Pool_picked
   case' h16 => exact snil
   case' h22 => refine' sone ?h2
   case' h2 => refine' sret ?h1
   case' h1 => exact rn


/-- a loop that hands back the first number that will do -/
theorem find_loop {g : RTG} {tb : RTS} {n b c : RSt → RM → Prop} {r : RVK} {M : RM} (f : Int → Bool) : ∀ (ns : List Int) (J : RSt → Prop), (∀ m σ (N : RSt → RM → Prop), J σ → (f m = true → r (.int m) M) → (f m = false → ∀ σ', J σ' → N σ' M) → g (.int m) σ M fun σ2 M2 => tb ⟨N, r, n, N⟩ σ2 M2) →
    (∀ m, ns.find? f = some m → r (.int m) M) → (ns.find? f = none → ∀ σ, J σ → n σ M) → ∀ σ, J σ → rForL g tb ⟨n, r, b, c⟩ (ns.map RV.int) σ M
  | [], J, hs, h1, h2, σ, j => h2 rfl σ j
  | m :: ns, J, hs, h1, h2, σ, j => by
    refine do_forCons (hs m σ _ j (fun e => h1 m (by rw [List.find?_cons, e])) fun e σ' j' => ?_)
    exact find_loop f ns J hs (fun k hk => h1 k (by rw [List.find?_cons, e]; exact hk)) (fun hk => h2 (by rw [List.find?_cons, e]; exact hk)) σ' j'

set_option maxHeartbeats 40000000 in
theorem rd_Pool_picked (T : Txt P w K mg C) (F_Pool_from_mark : RMt P w K mg base C 1 "from_mark" ["self"] (sp_Pool_from_mark C)) (F_Pool_is_free : RMt P w K mg base C 2 "is_free" ["self", "number", "moment"] (sp_Pool_is_free C)) {rs : List RV} {M : RM} {Q : RVK} (h : (sp_Pool_picked C) rs M Q) : (pk_Pool_picked (base := base) T F_Pool_from_mark F_Pool_is_free).1 { nx := fun _ M' => Q .non M', rt := Q } (rstart N_Pool_picked rs) M := by
    unfold sp_Pool_picked at h
    unfold pk_Pool_picked
    dsimp only
    obtain ⟨p, t, u, lo, hi, mk, T, U, way, d, m, rfl, P, hb, h⟩ := h
    refine do_start (τ' := [some (.ref p), some (.str way), some (.int d), some (.int m), none]) rfl ?_
    have loop : ∀ (N : RVK) (h2 : N (match (orderP lo hi mk).find? (freeP lo hi m T U) with | some n => .int n | none => .non) M), True := fun _ _ => trivial
    have tail : (¬ (eqR (.str way) (.str "keep") = true ∧ freeP lo hi m T U d = true)) → Q (match (orderP lo hi mk).find? (freeP lo hi m T U) with | some n => .int n | none => .non) M := fun hn => by
      unfold pickF at h; rw [if_neg hn] at h; exact h
    walk_at "rs"
    refine do_kB (fun e => ?_) fun e => ?_
    · walk_at "rs"
      refine do_kmeth P.ob fl_is_free ?_
      walk_at "rs"
      refine p_is_free_do P ?_
      walk_at "rs"
      refine do_kB (fun e2 => ?_) fun e2 => ?_
      · walk_at "rs"
        unfold pickF at h
        rw [if_pos ⟨e, e2⟩] at h
        exact h
      · replace h := tail fun z => by rw [e2] at z; exact Bool.false_ne_true z.2
        walk_at "rs"
        refine do_kmeth P.ob fl_from_mark ?_
        walk_at "rs"
        refine p_from_mark_do P.ob hb ?_
        walk_at "rs"
        refine find_loop (fun n => freeP lo hi m T U n) (orderP lo hi mk) (fun σ => ∃ a, σ = [some (.ref p), some (.str way), some (.int d), some (.int m), a]) ?_ ?_ ?_ _ ⟨_, rfl⟩
        · rintro n σ N ⟨a, rfl⟩ hN1 hN2
          walk_at "rs"
          refine do_kmeth P.ob fl_is_free ?_
          walk_at "rs"
          refine p_is_free_do P ?_
          walk_at "rs"
          refine do_kB (fun e3 => ?_) fun e3 => ?_
          · walk_at "rs"
            exact hN1 e3
          · walk_at "rs"
            exact hN2 e3 _ ⟨_, rfl⟩
        · intro n hf
          rw [hf] at h
          exact h
        · rintro hf σ ⟨a, rfl⟩
          rw [hf] at h
          walk_at "rs"
          exact h
    · replace h := tail fun z => by rw [show eqR (.str way) (.str "keep") = false from e] at z; exact Bool.false_ne_true z.1
      walk_at "rs"
      refine do_kmeth P.ob fl_from_mark ?_
      walk_at "rs"
      refine p_from_mark_do P.ob hb ?_
      walk_at "rs"
      refine find_loop (fun n => freeP lo hi m T U n) (orderP lo hi mk) (fun σ => ∃ a, σ = [some (.ref p), some (.str way), some (.int d), some (.int m), a]) ?_ ?_ ?_ _ ⟨_, rfl⟩
      · rintro n σ N ⟨a, rfl⟩ hN1 hN2
        walk_at "rs"
        refine do_kmeth P.ob fl_is_free ?_
        walk_at "rs"
        refine p_is_free_do P ?_
        walk_at "rs"
        refine do_kB (fun e3 => ?_) fun e3 => ?_
        · walk_at "rs"
          exact hN1 e3
        · walk_at "rs"
          exact hN2 e3 _ ⟨_, rfl⟩
      · intro n hf
        rw [hf] at h
        exact h
      · rintro hf σ ⟨a, rfl⟩
        rw [hf] at h
        walk_at "rs"
        exact h
set_option maxHeartbeats 40000000 in
theorem fn_Pool_picked {f : Addr} {fd : FuncData} (F : Fun K "picked" "Pool.picked" s_Pool_picked f fd) (T : Txt P w K mg C) (F_Pool_from_mark : RMt P w K mg base C 1 "from_mark" ["self"] (sp_Pool_from_mark C)) (F_Pool_is_free : RMt P w K mg base C 2 "is_free" ["self", "number", "moment"] (sp_Pool_is_free C)) : FnOk P w K mg base CX0 3 f fd ["self", "pick", "door", "moment"] (upSp K (sp_Pool_picked C)) := by
  refine' rfnok F sc_Pool_picked (fun rs M Q h => ?len) (fun cdv A outer s H E hr => (pk_Pool_picked (base := base) T F_Pool_from_mark F_Pool_is_free).2 f cdv A outer s H E hr) (fun rs M Q h => rd_Pool_picked T F_Pool_from_mark F_Pool_is_free h)
  unfold sp_Pool_picked at h; obtain ⟨p, t, u, lo, hi, mk, T, U, way, d, m, rfl, _⟩ := h; rfl
set_option maxHeartbeats 40000000 in
def pk_Pool_many_free (T : Txt P w K mg C) (F_Pool_is_free : RMt P w K mg base C 2 "is_free" ["self", "number", "moment"] (sp_Pool_is_free C)) : {t : RTS // ∀ (f : Addr) (cdv : Value) (A : Around) (outer : List Env) (s : Shared) (H : Hp) (E : XK), Room 2 (A.deeper (envOfC "Pool.many_free" (defScope s_Pool_many_free) s.heap.objs.size f cdv)) → RPSs (cxOf CX0 P w K mg base N_Pool_many_free "Pool.many_free" (defScope s_Pool_many_free) f cdv A outer s H E).nox (defBody s_Pool_many_free) t} := by
  refine' ⟨?t, fun f cdv A outer s H E hr => ?term⟩
  case term =>
   refine' sone ?h22
   case' h22 => refine' sret ?h21
   case' h21 => refine' rcallB clen T.b_len bt_len ?h20 (hg := gl_Pool_many_free_len) (hdb := db_len) (hn := nn_len)
   case' h20 => refine' acons ?h18 ?h19
   case' h18 => refine' rcompN [(1, "moment"), (0, "self")] (osc := defScope s_Pool_many_free) (oN := N_Pool_many_free) rfl ?h15 (fun cl C s H fp vb => ?h16) (fun cl C s H fp vb => ?h17) rfl rfl (by decide +kernel) (by decide +kernel) (by decide +kernel) rfl (by decide +kernel) (by decide +kernel) (by decide +kernel) (by decide +kernel)
   case' h15 => refine' irange2 T.b_range ?h5 ?h6 (hgl := gl_Pool_many_free_range)
   case' h5 => refine' rfld T.cl T.n_low ?h1
   case' h1 => exact rvN 0 no_Pool_many_free
   case' h6 => refine' rop oadd ?h3 ?h4
   case' h3 => refine' rfld T.cl T.n_high ?h2
   case' h2 => exact rvN 0 no_Pool_many_free
   case' h4 => exact ri
   case' h16 => refine' tone ?h14
   case' h14 => refine' rtval ?h13
   case' h13 => refine' rmethF F_Pool_is_free T.cl (hr.mono (by decide)) ?h11 ?h12
   case' h11 => exact rvB 2 vb
   case' h12 => refine' acons ?h9 ?h10
   case' h9 => exact rvB 0 vb
   case' h10 => refine' acons ?h7 ?h8
   case' h7 => exact rvB 1 vb
   case' h8 => exact anil
   case' h17 => exact rvB 0 vb
   case' h19 => exact anil

set_option maxHeartbeats 40000000 in
theorem rd_Pool_many_free (T : Txt P w K mg C) (F_Pool_is_free : RMt P w K mg base C 2 "is_free" ["self", "number", "moment"] (sp_Pool_is_free C)) {rs : List RV} {M : RM} {Q : RVK} (h : (sp_Pool_many_free C) rs M Q) : (pk_Pool_many_free (base := base) T F_Pool_is_free).1 { nx := fun _ M' => Q .non M', rt := Q } (rstart N_Pool_many_free rs) M := by
    unfold sp_Pool_many_free at h
    unfold pk_Pool_many_free
    dsimp only
    obtain ⟨p, t, u, lo, hi, mk, T, U, m, rfl, P, hb, h⟩ := h
    obtain ⟨b1, b2, b3, b4, b5⟩ := id hb
    walk_at "rs"
    refine do_kfld P.ob fl_low ?_
    walk_at "rs"
    refine do_kfld P.ob fl_high ?_
    walk_at "rs"
    refine do_rng2 (by omega) (by omega) (by omega) (by omega) ?_
    refine ⟨by rw [numsFrom_len]; exact Nat.lt_of_le_of_lt (show _ ≤ 1000 by omega) (by decide), ?_⟩
    rw [nums_nrs]
    refine comp_filter (p := fun v => match v with | .int n => freeP lo hi m T U n | _ => false) (f := fun v => v) _ _ (fun y hy Q' hq => ?_) (fun y hy Q' hq => ?_) ?_
    · obtain ⟨n, hn, rfl⟩ := List.mem_map.mp hy
      walk_at "rs"
      refine do_kmeth P.ob fl_is_free ?_
      walk_at "rs"
      refine p_is_free_do P ?_
      walk_at "rs"
      exact hq
    · obtain ⟨n, hn, rfl⟩ := List.mem_map.mp hy
      walk_at "rs"
      exact hq
    · rw [show ([] ++ ((((nrs lo (hi + 1 - lo).toNat).map RV.int).filter fun v => match v with | .int n => freeP lo hi m T U n | _ => false).map fun v => v)) = ((nrs lo (hi + 1 - lo).toNat).filter (freeP lo hi m T U)).map RV.int by
        rw [List.nil_append, List.map_id', List.filter_map]; rfl]
      walk_at "rs"
      rw [List.length_map]
      exact h
set_option maxHeartbeats 40000000 in
theorem fn_Pool_many_free {f : Addr} {fd : FuncData} (F : Fun K "many_free" "Pool.many_free" s_Pool_many_free f fd) (T : Txt P w K mg C) (F_Pool_is_free : RMt P w K mg base C 2 "is_free" ["self", "number", "moment"] (sp_Pool_is_free C)) : FnOk P w K mg base CX0 3 f fd ["self", "moment"] (upSp K (sp_Pool_many_free C)) := by
  refine' rfnok F sc_Pool_many_free (fun rs M Q h => ?len) (fun cdv A outer s H E hr => (pk_Pool_many_free (base := base) T F_Pool_is_free).2 f cdv A outer s H E hr) (fun rs M Q h => rd_Pool_many_free T F_Pool_is_free h)
  unfold sp_Pool_many_free at h; obtain ⟨p, t, u, lo, hi, mk, T, U, m, rfl, _⟩ := h; rfl
set_option maxHeartbeats 40000000 in
def pk__law_a_deed (T : Txt P w K mg C) (F_Pool_give : RMt P w K mg base C 1 "give" ["self", "number", "until"] (sp_Pool_give C)) (F_Pool_picked : RMt P w K mg base C 3 "picked" ["self", "pick", "door", "moment"] (sp_Pool_picked C)) (F_Pool_take : RMt P w K mg base C 1 "take" ["self", "number"] (sp_Pool_take C)) (F__law_take : RFn P w K mg base 1 "_law_take" ["bag", "many"] sp__law_take) (F__law_picked : RFn P w K mg base 2 "_law_picked" ["own", "way", "door"] sp__law_picked) (F__law_some : RFn P w K mg base 2 "_law_some" ["bag", "own"] sp__law_some) : {t : RTS // ∀ (f : Addr) (cdv : Value) (A : Around) (outer : List Env) (s : Shared) (H : Hp) (E : XK), Room 3 (A.deeper (envOfC "_law_a_deed" (defScope s__law_a_deed) s.heap.objs.size f cdv)) → RPSs (cxOf CX0 P w K mg base N__law_a_deed "_law_a_deed" (defScope s__law_a_deed) f cdv A outer s H E).nox (defBody s__law_a_deed) t} := by
  refine' ⟨?t, fun f cdv A outer s H E hr => ?term⟩
  case term =>
   refine' scons ?h252 ?h253
   case' h252 => refine' ssetN 3 no__law_a_deed ?h251
   case' h251 => refine' rcallF F__law_take (hr.mono (by decide)) ?h250 (hg := gl__law_a_deed__law_take) (hdb := db__law_take)
   case' h250 => refine' acons ?h248 ?h249
   case' h248 => exact rvN 0 no__law_a_deed
   case' h249 => refine' acons ?h246 ?h247
   case' h246 => exact ri
   case' h247 => exact anil
   case' h253 => refine' scons ?h244 ?h245
   case' h244 => refine' sif ?h241 ?h242 ?h243
   case' h241 => refine' rtcmp olt ?h3 ?h4
   case' h3 => exact rvN 3 no__law_a_deed
   case' h4 => exact ri
   case' h242 => refine' scons ?h116 ?h117
   case' h116 => refine' ssetN 4 no__law_a_deed ?h115
   case' h115 => refine' rix ?h113 ?h114
   case' h113 => refine' rlsf ?h107
   case' h107 => refine' acons ?h105 ?h106
   case' h105 => exact rs
   case' h106 => refine' acons ?h103 ?h104
   case' h103 => exact rs
   case' h104 => exact anil
   case' h114 => refine' rcallF F__law_take (hr.mono (by decide)) ?h112 (hg := gl__law_a_deed__law_take) (hdb := db__law_take)
   case' h112 => refine' acons ?h110 ?h111
   case' h110 => exact rvN 0 no__law_a_deed
   case' h111 => refine' acons ?h108 ?h109
   case' h108 => exact ri
   case' h109 => exact anil
   case' h117 => refine' scons ?h101 ?h102
   case' h101 => refine' ssetN 5 no__law_a_deed ?h100
   case' h100 => refine' rcallF F__law_some (hr.mono (by decide)) ?h99 (hg := gl__law_a_deed__law_some) (hdb := db__law_some)
   case' h99 => refine' acons ?h97 ?h98
   case' h97 => exact rvN 0 no__law_a_deed
   case' h98 => refine' acons ?h95 ?h96
   case' h95 => exact rvN 1 no__law_a_deed
   case' h96 => exact anil
   case' h102 => refine' scons ?h93 ?h94
   case' h93 => refine' ssetN 6 no__law_a_deed ?h92
   case' h92 => refine' rcallF F__law_picked (hr.mono (by decide)) ?h91 (hg := gl__law_a_deed__law_picked) (hdb := db__law_picked)
   case' h91 => refine' acons ?h89 ?h90
   case' h89 => exact rvN 1 no__law_a_deed
   case' h90 => refine' acons ?h87 ?h88
   case' h87 => exact rvN 4 no__law_a_deed
   case' h88 => refine' acons ?h85 ?h86
   case' h85 => exact rvN 5 no__law_a_deed
   case' h86 => exact anil
   case' h94 => refine' scons ?h83 ?h84
   case' h83 => refine' ssetN 7 no__law_a_deed ?h82
   case' h82 => refine' rmethF F_Pool_picked T.cl (hr.mono (by decide)) ?h80 ?h81
   case' h80 => exact rvN 2 no__law_a_deed
   case' h81 => refine' acons ?h78 ?h79
   case' h78 => exact rvN 4 no__law_a_deed
   case' h79 => refine' acons ?h76 ?h77
   case' h76 => exact rvN 5 no__law_a_deed
   case' h77 => refine' acons ?h74 ?h75
   case' h74 => refine' rdget (hu_of hr) ?h72 ?h73
   case' h72 => exact rvN 1 no__law_a_deed
   case' h73 => exact rs
   case' h75 => exact anil
   case' h84 => refine' scons ?h70 ?h71
   case' h70 => refine' sif ?h67 ?h68 ?h69
   case' h67 => refine' rtw ?h64
   case' h64 => refine' ror ?h62 ?h63
   case' h62 => refine' rtcmp (one hr.units) ?h60 ?h61
   case' h60 => exact rvN 7 no__law_a_deed
   case' h61 => exact rvN 6 no__law_a_deed
   case' h63 => refine' ror1 ?h59
   case' h59 => refine' rtval ?h58
   case' h58 => refine' rcallB cisi_bool T.b_isinstance bt_isinstance ?h57 (hg := gl__law_a_deed_isinstance) (hdb := db_isinstance) (hn := nn_isinstance)
   case' h57 => refine' acons ?h55 ?h56
   case' h55 => exact rvN 7 no__law_a_deed
   case' h56 => refine' acons ?h53 ?h54
   case' h53 => exact rty_bool T.b_bool gl__law_a_deed_bool
   case' h54 => exact anil
   case' h68 => refine' sone ?h66
   case' h66 => refine' sret ?h65
   case' h65 => exact rb
   case' h69 => exact snil
   case' h71 => refine' sone ?h52
   case' h52 => refine' sif ?h49 ?h50 ?h51
   case' h49 => refine' rtw ?h17
   case' h17 => refine' rand ?h15 ?h16
   case' h15 => refine' rtcmp oisnot ?h13 ?h14
   case' h13 => exact rvN 6 no__law_a_deed
   case' h14 => exact rn
   case' h16 => refine' rand1 ?h12
   case' h12 => refine' rtcmp ogt ?h10 ?h11
   case' h10 => refine' rcallF F__law_take (hr.mono (by decide)) ?h9 (hg := gl__law_a_deed__law_take) (hdb := db__law_take)
   case' h9 => refine' acons ?h7 ?h8
   case' h7 => exact rvN 0 no__law_a_deed
   case' h8 => refine' acons ?h5 ?h6
   case' h5 => exact ri
   case' h6 => exact anil
   case' h11 => exact ri
   case' h50 => refine' scons ?h47 ?h48
   case' h47 => refine' sdput (hu_of hr) ?h44 ?h45 ?h46
   case' h44 => refine' rdget (hu_of hr) ?h42 ?h43
   case' h42 => exact rvN 1 no__law_a_deed
   case' h43 => exact rs
   case' h45 => exact rvN 6 no__law_a_deed
   case' h46 => exact rb
   case' h48 => refine' scons ?h40 ?h41
   case' h40 => refine' sdput (hu_of hr) ?h37 ?h38 ?h39
   case' h37 => exact rvN 1 no__law_a_deed
   case' h38 => exact rs
   case' h39 => refine' rif ?h34 ?h35 ?h36
   case' h34 => refine' rtcmp (oeq hr.units) ?h28 ?h29
   case' h28 => exact rvN 6 no__law_a_deed
   case' h29 => refine' rdget (hu_of hr) ?h26 ?h27
   case' h26 => exact rvN 1 no__law_a_deed
   case' h27 => exact rs
   case' h35 => refine' rdget (hu_of hr) ?h30 ?h31
   case' h30 => exact rvN 1 no__law_a_deed
   case' h31 => exact rs
   case' h36 => refine' rop oadd ?h32 ?h33
   case' h32 => exact rvN 6 no__law_a_deed
   case' h33 => exact ri
   case' h41 => refine' sone ?h25
   case' h25 => refine' sret ?h24
   case' h24 => refine' rcmp ois ?h22 ?h23
   case' h22 => refine' rmethF F_Pool_take T.cl (hr.mono (by decide)) ?h20 ?h21
   case' h20 => exact rvN 2 no__law_a_deed
   case' h21 => refine' acons ?h18 ?h19
   case' h18 => exact rvN 7 no__law_a_deed
   case' h19 => exact anil
   case' h23 => exact rn
   case' h51 => exact snil
   case' h243 => refine' sone ?h240
   case' h240 => refine' sif ?h237 ?h238 ?h239
   case' h237 => refine' rtw ?h127
   case' h127 => refine' rand ?h125 ?h126
   case' h125 => refine' rtcmp olt ?h123 ?h124
   case' h123 => exact rvN 3 no__law_a_deed
   case' h124 => exact ri
   case' h126 => refine' rand1 ?h122
   case' h122 => refine' rtcmp (odne hr.units) ?h120 ?h121
   case' h120 => refine' rdget (hu_of hr) ?h118 ?h119
   case' h118 => exact rvN 1 no__law_a_deed
   case' h119 => exact rs
   case' h121 => exact rdnew
   case' h238 => refine' scons ?h203 ?h204
   case' h203 => refine' ssetN 8 no__law_a_deed ?h202
   case' h202 => refine' rix ?h200 ?h201
   case' h200 => refine' rcallB (csortedD rfl) T.b_sorted bt_sorted ?h189 (hg := gl__law_a_deed_sorted) (hdb := db_sorted) (hn := nn_sorted)
   case' h189 => refine' acons ?h187 ?h188
   case' h187 => refine' rdget (hu_of hr) ?h185 ?h186
   case' h185 => exact rvN 1 no__law_a_deed
   case' h186 => exact rs
   case' h188 => exact anil
   case' h201 => refine' rcallF F__law_take (hr.mono (by decide)) ?h199 (hg := gl__law_a_deed__law_take) (hdb := db__law_take)
   case' h199 => refine' acons ?h197 ?h198
   case' h197 => exact rvN 0 no__law_a_deed
   case' h198 => refine' acons ?h195 ?h196
   case' h195 => refine' rcallB clenD T.b_len bt_len ?h194 (hg := gl__law_a_deed_len) (hdb := db_len) (hn := nn_len)
   case' h194 => refine' acons ?h192 ?h193
   case' h192 => refine' rdget (hu_of hr) ?h190 ?h191
   case' h190 => exact rvN 1 no__law_a_deed
   case' h191 => exact rs
   case' h193 => exact anil
   case' h196 => exact anil
   case' h204 => refine' scons ?h183 ?h184
   case' h183 => refine' ssetN 9 no__law_a_deed ?h182
   case' h182 => refine' rop oadd ?h180 ?h181
   case' h180 => refine' rdget (hu_of hr) ?h152 ?h153
   case' h152 => exact rvN 1 no__law_a_deed
   case' h153 => exact rs
   case' h181 => refine' rix ?h178 ?h179
   case' h178 => refine' rlsf ?h172
   case' h172 => refine' acons ?h170 ?h171
   case' h170 => exact ri
   case' h171 => refine' acons ?h168 ?h169
   case' h168 => exact ri
   case' h169 => refine' acons ?h166 ?h167
   case' h166 => refine' rcallF F__law_take (hr.mono (by decide)) ?h165 (hg := gl__law_a_deed__law_take) (hdb := db__law_take)
   case' h165 => refine' acons ?h163 ?h164
   case' h163 => exact rvN 0 no__law_a_deed
   case' h164 => refine' acons ?h161 ?h162
   case' h161 => exact ri
   case' h162 => exact anil
   case' h167 => refine' acons ?h159 ?h160
   case' h159 => refine' rcallF F__law_take (hr.mono (by decide)) ?h158 (hg := gl__law_a_deed__law_take) (hdb := db__law_take)
   case' h158 => refine' acons ?h156 ?h157
   case' h156 => exact rvN 0 no__law_a_deed
   case' h157 => refine' acons ?h154 ?h155
   case' h154 => exact ri
   case' h155 => exact anil
   case' h160 => exact anil
   case' h179 => refine' rcallF F__law_take (hr.mono (by decide)) ?h177 (hg := gl__law_a_deed__law_take) (hdb := db__law_take)
   case' h177 => refine' acons ?h175 ?h176
   case' h175 => exact rvN 0 no__law_a_deed
   case' h176 => refine' acons ?h173 ?h174
   case' h173 => exact ri
   case' h174 => exact anil
   case' h184 => refine' scons ?h150 ?h151
   case' h150 => refine' sexpr ?h149
   case' h149 => refine' rdpop ?h147 ?h148
   case' h147 => refine' rdget (hu_of hr) ?h145 ?h146
   case' h145 => exact rvN 1 no__law_a_deed
   case' h146 => exact rs
   case' h148 => exact rvN 8 no__law_a_deed
   case' h151 => refine' scons ?h143 ?h144
   case' h143 => refine' sdput (hu_of hr) ?h140 ?h141 ?h142
   case' h140 => refine' rdget (hu_of hr) ?h138 ?h139
   case' h138 => exact rvN 1 no__law_a_deed
   case' h139 => exact rs
   case' h141 => exact rvN 8 no__law_a_deed
   case' h142 => exact rvN 9 no__law_a_deed
   case' h144 => refine' sone ?h137
   case' h137 => refine' sret ?h136
   case' h136 => refine' rcmp ois ?h134 ?h135
   case' h134 => refine' rmethF F_Pool_give T.cl (hr.mono (by decide)) ?h132 ?h133
   case' h132 => exact rvN 2 no__law_a_deed
   case' h133 => refine' acons ?h130 ?h131
   case' h130 => exact rvN 8 no__law_a_deed
   case' h131 => refine' acons ?h128 ?h129
   case' h128 => exact rvN 9 no__law_a_deed
   case' h129 => exact anil
   case' h135 => exact rn
   case' h239 => refine' sone ?h236
   case' h236 => refine' sdput (hu_of hr) ?h233 ?h234 ?h235
   case' h233 => exact rvN 1 no__law_a_deed
   case' h234 => exact rs
   case' h235 => refine' rop oadd ?h231 ?h232
   case' h231 => refine' rdget (hu_of hr) ?h205 ?h206
   case' h205 => exact rvN 1 no__law_a_deed
   case' h206 => exact rs
   case' h232 => refine' rix ?h229 ?h230
   case' h229 => refine' rlsf ?h223
   case' h223 => refine' acons ?h221 ?h222
   case' h221 => exact ri
   case' h222 => refine' acons ?h219 ?h220
   case' h219 => refine' rcallF F__law_take (hr.mono (by decide)) ?h218 (hg := gl__law_a_deed__law_take) (hdb := db__law_take)
   case' h218 => refine' acons ?h216 ?h217
   case' h216 => exact rvN 0 no__law_a_deed
   case' h217 => refine' acons ?h214 ?h215
   case' h214 => exact ri
   case' h215 => exact anil
   case' h220 => refine' acons ?h212 ?h213
   case' h212 => refine' rcallF F__law_take (hr.mono (by decide)) ?h211 (hg := gl__law_a_deed__law_take) (hdb := db__law_take)
   case' h211 => refine' acons ?h209 ?h210
   case' h209 => exact rvN 0 no__law_a_deed
   case' h210 => refine' acons ?h207 ?h208
   case' h207 => exact ri
   case' h208 => exact anil
   case' h213 => exact anil
   case' h230 => refine' rcallF F__law_take (hr.mono (by decide)) ?h228 (hg := gl__law_a_deed__law_take) (hdb := db__law_take)
   case' h228 => refine' acons ?h226 ?h227
   case' h226 => exact rvN 0 no__law_a_deed
   case' h227 => refine' acons ?h224 ?h225
   case' h224 => exact ri
   case' h225 => exact anil
   case' h245 => refine' sone ?h2
   case' h2 => refine' sret ?h1
   case' h1 => exact rb


theorem take_J {M : RM} {C p t u o t2 u2 b : Addr} {lo hi mk now n m : Int} {T : List Int} {V U : List (Int × Int)} {k : Nat} {Q : RVK} (J : Jt M C p t u o t2 u2 lo hi mk now T V U k) (hB : Bag M b n) (m0 : 0 < m) (m1 : m < 1073741824) (hn : n ≤ 100000) (h : ∀ (r : Int) (M' : RM), 0 ≤ r → r < m → Jt M' C p t u o t2 u2 lo hi mk now T V U k → Bag M' b (n + 1) → Q (.int r) M') : sp__law_take [.ref b, .int m] M Q :=
  take_do hB m0 m1 hn fun r x r0 r1 hx => h r _ r0 r1 (J.keepB hB) (Bag.put hx)
theorem some_J {M : RM} {C p t u o t2 u2 b : Addr} {lo hi mk now n : Int} {T : List Int} {V U : List (Int × Int)} {k : Nat} {Q : RVK} (J : Jt M C p t u o t2 u2 lo hi mk now T V U k) (hk : k < 64) (hB : Bag M b n) (n0 : 0 ≤ n) (n1 : n ≤ 90000) (h : ∀ (r : Int) (M' : RM), Jt M' C p t u o t2 u2 lo hi mk now T V U k → Bag M' b (n + 6) → Q (.int r) M') : sp__law_some [.ref b, .ref o] M Q :=
  l_some_do hB n0 n1 J.O J.bd ⟨J.tr, J.ur, Nat.lt_of_le_of_lt J.tl hk, Nat.lt_of_le_of_lt J.ul hk⟩ fun r M' _ _ hB' hf => h r M' (J.keep (J.nb hB) hf) hB'
theorem pick_same {M : RM} {C p t u o t2 u2 : Addr} {lo hi mk now : Int} {T : List Int} {V U : List (Int × Int)} {k : Nat} (J : Jt M C p t u o t2 u2 lo hi mk now T V U k) (way : Str) (d : Int) : pickF (freeP lo hi now T V) way d (orderP lo hi mk) = pickF (freeL lo hi now T U) way d (orderL lo hi mk) := by
  rw [order_same J.bd.2.1 J.bd.2.2.1, show freeP lo hi now T V = freeL lo hi now T U from funext fun n => free_same J.now0 J.val n]
theorem pick_cases (f : Int → Bool) (way : Str) (d : Int) (l : List Int) : pickF f way d l = .non ∨ ∃ n, pickF f way d l = .int n ∧ f n = true := by
  unfold pickF
  by_cases hc : eqR (.str way) (.str "keep") = true ∧ f d = true
  · rw [if_pos hc]; exact .inr ⟨d, rfl, hc.2⟩
  · rw [if_neg hc]
    cases hf : l.find? f with
    | none => exact .inl rfl
    | some n => exact .inr ⟨n, rfl, List.find?_some hf⟩
theorem freeL_of {lo hi now n : Int} {T : List Int} {U : List (Int × Int)} (h : freeL lo hi now T U n = true) : lo ≤ n ∧ n ≤ hi ∧ n ∉ T := by
  unfold freeL at h
  simp only [Bool.and_eq_true, Bool.not_eq_true', decide_eq_false_iff_not] at h
  obtain ⟨⟨h1, h2, h3⟩, _⟩ := h
  exact ⟨by omega, by omega, h3⟩
theorem filt_nodup {U : List (Int × Int)} (n : Int) (h : (U.map (·.1)).Nodup) : ((U.filter fun q => decide (q.1 ≠ n)).map (·.1)).Nodup := h.sublist (List.filter_sublist.map _)
theorem Jt.waited {M : RM} {C p t u o t2 u2 : Addr} {lo hi mk now now' : Int} {T : List Int} {V U : List (Int × Int)} {k : Nat} (J : Jt M C p t u o t2 u2 lo hi mk now T V U k) (h0 : 0 ≤ now') : Jt (R.put M o (.dk (ownK lo hi mk now' t2 u2))) C p t u o t2 u2 lo hi mk now' T V U k := by
  obtain ⟨⟨a1, a2, a3, a4, a5⟩, ⟨b1, b2, b3, b4⟩, ⟨c1, c2, c3⟩, ⟨d1, d2⟩, e1⟩ := ap_of J.ap
  exact ⟨⟨put_at J.P.ob a3, put_at J.P.tk b2, put_at J.P.un c1, J.P.ne⟩, ⟨put_same, put_at J.O.tk d1.symm, put_at J.O.un d2.symm, J.O.ne⟩, J.ap, J.bd, h0, J.val, J.tn, J.un, J.vn, J.tr, J.ur, J.tl, J.ul, J.vl⟩
theorem Jt.up {M : RM} {C p t u o t2 u2 : Addr} {lo hi mk now : Int} {T : List Int} {V U : List (Int × Int)} {k : Nat} (J : Jt M C p t u o t2 u2 lo hi mk now T V U k) : Jt M C p t u o t2 u2 lo hi mk now T V U (k + 1) := ⟨J.P, J.O, J.ap, J.bd, J.now0, J.val, J.tn, J.un, J.vn, J.tr, J.ur, Nat.le_succ_of_le J.tl, Nat.le_succ_of_le J.ul, Nat.le_succ_of_le J.vl⟩
theorem Jt.took {M M' : RM} {C p t u o t2 u2 : Addr} {lo hi mk mk' now n : Int} {T : List Int} {V U : List (Int × Int)} {k : Nat} (J : Jt M C p t u o t2 u2 lo hi mk now T V U k) (n0 : lo ≤ n) (n1 : n ≤ hi) (nT : n ∉ T) (hm : mk' = if n = hi then lo else n + 1)
    (P' : PAt M' C p t u lo hi mk' (T ++ [n]) (V.filter fun q => decide (q.1 ≠ n))) (O' : OAt M' o t2 u2 lo hi mk' now (T ++ [n]) U) : Jt M' C p t u o t2 u2 lo hi mk' now (T ++ [n]) (V.filter fun q => decide (q.1 ≠ n)) U (k + 1) := by
  obtain ⟨b1, b2, b3, b4, b5⟩ := J.bd
  refine ⟨P', O', J.ap, ?_, J.now0, fun m => ?_, ?_, J.un, filt_nodup n J.vn, ?_, J.ur, ?_, Nat.le_succ_of_le J.ul, ?_⟩
  · rw [hm]; by_cases e : n = hi
    · rw [if_pos e]; omega
    · rw [if_neg e]; omega
  · rw [val_drop, J.val m]
    by_cases e : m = n
    · rw [if_pos e, if_pos (by rw [e]; simp)]
    · rw [if_neg e]
      by_cases e2 : m ∈ T
      · rw [if_pos e2, if_pos (List.mem_append_left _ e2)]
      · rw [if_neg e2, if_neg (by simp [e2, e])]
  · exact List.nodup_append.mpr ⟨J.tn, by simp, fun a ha b hb => by rw [List.mem_singleton] at hb; rw [hb]; exact fun e => nT (e ▸ ha)⟩
  · intro m hm'
    rcases List.mem_append.mp hm' with h | h
    · exact J.tr m h
    · rw [List.mem_singleton.mp h]; exact ⟨n0, n1⟩
  · rw [List.length_append]; exact Nat.succ_le_succ J.tl
  · exact Nat.le_trans (List.length_filter_le _ _) (Nat.le_succ_of_le J.vl)
theorem putU_len (U : List (Int × Int)) (n v : Int) : (putU U n v).length ≤ U.length + 1 := by
  unfold putU
  by_cases h : (U.any fun q => decide (q.1 = n)) = true
  · rw [if_pos h, List.length_map]; exact Nat.le_succ _
  · rw [if_neg h, List.length_append]; exact Nat.le_refl _
theorem putU_keys {U : List (Int × Int)} {n v : Int} : (putU U n v).map (·.1) = if n ∈ U.map (·.1) then U.map (·.1) else U.map (·.1) ++ [n] := by
  unfold putU
  have ha : (U.any fun q => decide (q.1 = n)) = true ↔ n ∈ U.map (·.1) := by
    rw [List.any_eq_true, List.mem_map]
    exact ⟨fun ⟨q, h1, h2⟩ => ⟨q, h1, of_decide_eq_true h2⟩, fun ⟨q, h1, h2⟩ => ⟨q, h1, decide_eq_true h2⟩⟩
  by_cases h : (U.any fun q => decide (q.1 = n)) = true
  · rw [if_pos h, if_pos (ha.mp h), List.map_map]
    refine List.map_congr_left fun q _ => ?_
    by_cases e : q.1 = n
    · simp [e]
    · simp [e]
  · rw [if_neg h, if_neg (fun z => h (ha.mpr z)), List.map_append]; rfl
theorem putU_nodup {U : List (Int × Int)} {n v : Int} (h : (U.map (·.1)).Nodup) : ((putU U n v).map (·.1)).Nodup := by
  rw [putU_keys]
  by_cases e : n ∈ U.map (·.1)
  · rw [if_pos e]; exact h
  · rw [if_neg e]
    exact List.nodup_append.mpr ⟨h, by simp, fun a ha b hb => by rw [List.mem_singleton] at hb; rw [hb]; exact fun z => e (z ▸ ha)⟩
theorem Jt.gave {M M' : RM} {C p t u o t2 u2 : Addr} {lo hi mk now n v : Int} {T : List Int} {V U : List (Int × Int)} {k : Nat} (J : Jt M C p t u o t2 u2 lo hi mk now T V U k) (nT : n ∈ T)
    (P' : PAt M' C p t u lo hi mk (T.filter fun m => decide (m ≠ n)) (putU V n v)) (O' : OAt M' o t2 u2 lo hi mk now (T.filter fun m => decide (m ≠ n)) (putU U n v)) : Jt M' C p t u o t2 u2 lo hi mk now (T.filter fun m => decide (m ≠ n)) (putU V n v) (putU U n v) (k + 1) := by
  refine ⟨P', O', J.ap, J.bd, J.now0, fun m => ?_, J.tn.filter _, putU_nodup J.un, putU_nodup J.vn, fun m hm => J.tr m (List.mem_filter.mp hm).1, fun m hm => ?_, Nat.le_trans (List.length_filter_le _ _) (Nat.le_succ_of_le J.tl), Nat.le_trans (putU_len _ _ _) (Nat.succ_le_succ J.ul), Nat.le_trans (putU_len _ _ _) (Nat.succ_le_succ J.vl)⟩
  · rw [val_put, val_put, J.val m]
    by_cases e : m = n
    · rw [if_pos e, if_pos e, if_neg (by simp [e])]
    · rw [if_neg e, if_neg e]
      by_cases e2 : m ∈ T
      · rw [if_pos e2, if_pos (List.mem_filter.mpr ⟨e2, decide_eq_true e⟩)]
      · rw [if_neg e2, if_neg (fun z => e2 (List.mem_filter.mp z).1)]
  · rw [putU_keys] at hm
    by_cases e : n ∈ U.map (·.1)
    · rw [if_pos e] at hm; exact J.ur m hm
    · rw [if_neg e] at hm
      rcases List.mem_append.mp hm with h | h
      · exact J.ur m h
      · rw [List.mem_singleton.mp h]; exact J.tr n nT

set_option maxHeartbeats 40000000 in
theorem rd__law_a_deed (T : Txt P w K mg C) (F_Pool_give : RMt P w K mg base C 1 "give" ["self", "number", "until"] (sp_Pool_give C)) (F_Pool_picked : RMt P w K mg base C 3 "picked" ["self", "pick", "door", "moment"] (sp_Pool_picked C)) (F_Pool_take : RMt P w K mg base C 1 "take" ["self", "number"] (sp_Pool_take C)) (F__law_take : RFn P w K mg base 1 "_law_take" ["bag", "many"] sp__law_take) (F__law_picked : RFn P w K mg base 2 "_law_picked" ["own", "way", "door"] sp__law_picked) (F__law_some : RFn P w K mg base 2 "_law_some" ["bag", "own"] sp__law_some) {rs : List RV} {M : RM} {Q : RVK} (h : (sp__law_a_deed C) rs M Q) : (pk__law_a_deed (base := base) T F_Pool_give F_Pool_picked F_Pool_take F__law_take F__law_picked F__law_some).1 { nx := fun _ M' => Q .non M', rt := Q } (rstart N__law_a_deed rs) M := by
    unfold sp__law_a_deed at h
    unfold pk__law_a_deed
    dsimp only
    obtain ⟨b, p, t, u, o, t2, u2, lo, hi, mk, now, nb, T, V, U, k, rfl, ⟨J, hB, nb0, nb1, hk⟩, h⟩ := h
    obtain ⟨⟨a1, a2, a3, a4, a5⟩, ⟨b1, b2, b3, b4⟩, ⟨c1, c2, c3⟩, ⟨d1, d2⟩, e1⟩ := ap_of J.ap
    refine do_start (τ' := [some (.ref b), some (.ref o), some (.ref p), none, none, none, none, none, none, none]) rfl ?_
    walk_at "rs"
    refine take_J J hB (by decide) (by decide) (by omega) fun r1 M1 ra1 rb1 J1 B1 => ?_
    walk_at "rs"
    refine do_kB (fun e => ?_) fun e => ?_
    · walk_at "rs"
      refine take_J J1 B1 (by decide) (by decide) (by omega) fun r2 M2 ra2 rb2 J2 B2 => ?_
      walk_at "rs"
      refine at_strs (fun _ => True) ra2 ⟨trivial, trivial, trivial⟩ fun way _ => ?_
      walk_at "rs"
      refine some_J J2 (by omega) B2 (by omega) (by omega) fun d M3 J3 B3 => ?_
      walk_at "rs"
      refine l_picked_do J3.O J3.bd ?_
      walk_at "rs"
      refine do_kmeth J3.P.ob fl_picked ?_
      walk_at "rs"
      refine do_atKey J3.O.ob rfl ⟨_, ow_now, ?_⟩
      walk_at "rs"
      refine p_picked_do J3.P J3.bd ?_
      rw [pick_same J3 way d]
      rcases pick_cases (freeL lo hi now T U) way d (orderL lo hi mk) with ev | ⟨n, ev, hn⟩
      · rw [ev]
        walk_at "rd"
        exact h _ _ _ _ _ _ J3.up (B3.mono (by omega))
      rw [ev]
      obtain ⟨n0, n1, nT⟩ := freeL_of hn
      walk_at "rs"
      refine do_kF' (by simp [eqR]) ?_
      walk_at "rd"
      refine take_J J3 B3 (by decide) (by decide) (by omega) fun r4 M4 ra4 rb4 J4 B4 => ?_
      walk_at "rs"
      refine do_kB (fun e4 => ?_) fun e4 => ?_
      · walk_at "rs"
        refine do_atKey J4.O.ob rfl ⟨_, ow_taken, ?_⟩
        walk_at "rs"
        refine do_atKey J4.O.tk rfl ⟨by rw [show (tk T).length = T.length by simp [tk]]; exact Nat.lt_of_le_of_lt (show T.length ≤ 900 by have := J4.tl; omega) (by decide), ?_⟩
        rw [put_tk nT]
        have f1 : R.put M4 t2 (.dk (tk (T ++ [n]))) o = some (.dk (ownK lo hi mk now t2 u2)) := put_at J4.O.ob d1
        have fB : ∀ (x y : RO), Bag (R.put (R.put M4 t2 x) o y) b (nb + 1 + 1 + 6 + 1) := fun x y => Bag.other (Bag.other B4 (fun z => J4.nb B4 (by simp [z]))) (fun z => J4.nb B4 (by simp [z]))
        have fP : ∀ (x y : RO), PAt (R.put (R.put M4 t2 x) o y) C p t u lo hi mk T V := fun x y => ⟨put_at (put_at J4.P.ob a4) a3, put_at (put_at J4.P.tk b3) b2, put_at (put_at J4.P.un c2) c1, J4.P.ne⟩
        have fin : ∀ M', PAt M' C p t u lo hi (if n = hi then lo else n + 1) (T ++ [n]) (V.filter fun q => decide (q.1 ≠ n)) → (∀ x, x ≠ p → x ≠ t → x ≠ u → M' x = R.put (R.put M4 t2 (.dk (tk (T ++ [n])))) o (.dk (ownK lo hi (if n = hi then lo else n + 1) now t2 u2)) x) → Q (.bl true) M' := fun M' P' hx => by
          refine h M' _ now (T ++ [n]) (V.filter fun q => decide (q.1 ≠ n)) U (J4.took n0 n1 nT rfl P' ⟨?_, ?_, ?_, J4.O.ne⟩) ?_
          · rw [hx o a3.symm b2.symm c1.symm, put_same]
          · rw [hx t2 a4.symm b3.symm c2.symm, put_ne d1.symm, put_same]
          · rw [hx u2 a5.symm b4.symm c3.symm, put_ne d2.symm, put_ne e1.symm]; exact J4.O.un
          · obtain ⟨ob, eb, hob⟩ := fB (.dk (tk (T ++ [n]))) (.dk (ownK lo hi (if n = hi then lo else n + 1) now t2 u2))
            have nb' := J4.nb B4
            simp only [List.mem_cons, List.not_mem_nil, or_false, not_or] at nb'
            exact ⟨ob, by rw [hx b nb'.1 nb'.2.1 nb'.2.2.1]; exact eb, hob.mono (by omega)⟩
        walk_at "rs"
        refine do_atKey f1 rfl ⟨_, ow_high, ?_⟩
        walk_at "rs"
        refine do_kB (fun eh => ?_) fun eh => ?_
        · have eh' : n = hi := by simpa [eqR] using eh
          walk_at "rs"
          refine do_atKey f1 rfl ⟨_, ow_low, ?_⟩
          walk_at "rs"
          refine do_atKey f1 rfl ⟨(by decide : 6 < sizeLine), ?_⟩
          rw [op_mark]
          walk_at "rs"
          refine do_kmeth (fP _ _).ob fl_take ?_
          walk_at "rs"
          refine p_take_do (fP _ _) nT (by have := J4.tl; omega) fun M' P' hx => ?_
          rw [if_pos eh'] at P' fin
          walk_at "rd"
          exact fin M' P' hx
        · have eh' : ¬ n = hi := by simpa [eqR] using eh
          walk_at "rs"
          refine do_atKey f1 rfl ⟨(by decide : 6 < sizeLine), ?_⟩
          rw [op_mark]
          walk_at "rs"
          refine do_kmeth (fP _ _).ob fl_take ?_
          walk_at "rs"
          refine p_take_do (fP _ _) nT (by have := J4.tl; omega) fun M' P' hx => ?_
          rw [if_neg eh'] at P' fin
          walk_at "rd"
          exact fin M' P' hx
      · walk_at "rs"
        exact h _ _ _ _ _ _ J4.up (B4.mono (by omega))
    walk_at "rs"
    refine do_kB (fun e2 => ?_) fun e2 => ?_
    · walk_at "rs"
      refine do_atKey J1.O.ob rfl ⟨_, ow_taken, ?_⟩
      walk_at "rs"
      refine do_dnew fun q hq => ?_
      have J2 := J1.fresh (x := .dk []) hq
      have B2 := Bag.fresh (x := .dk []) B1 hq
      refine do_dne J2.O.tk put_same ?_
      generalize R.put M1 q (.dk []) = M2 at J2 B2 ⊢
      walk_at "rs"
      refine do_kB (fun e3 => ?_) fun e3 => ?_
      · have hT : 0 < T.length := by
          cases T with
          | nil => cases e3
          | cons z zs => exact Nat.succ_pos _
        have hT2 : T.length ≤ 64 := Nat.le_trans J2.tl (by omega)
        walk_at "rs"
        refine do_atKey J2.O.ob rfl ⟨_, ow_taken, ?_⟩
        walk_at "rs"
        refine do_sortD (ns := T) J2.O.tk (keys_tk T) (by have := J2.tl; omega) fun s1 hp ho => ?_
        walk_at "rs"
        refine do_atKey J2.O.ob rfl ⟨_, ow_taken, ?_⟩
        walk_at "rs"
        refine do_lenD J2.O.tk ?_
        rw [show (tk T).length = T.length by simp [tk]]
        walk_at "rs"
        refine take_J J2 B2 (by omega) (by omega) (by omega) fun r3 M3 ra3 rb3 J3 B3 => ?_
        walk_at "rs"
        refine at_some_int' ra3 (by rw [List.length_map, hp.length_eq]; exact rb3) fun n hn => ?_
        have nT : n ∈ T := hp.mem_iff.mp hn
        walk_at "rs"
        refine do_atKey J3.O.ob rfl ⟨_, ow_now, ?_⟩
        walk_at "rs"
        refine take_J J3 B3 (by decide) (by decide) (by omega) fun r4 M4 ra4 rb4 J4 B4 => ?_
        walk_at "rs"
        refine take_J J4 B4 (by decide) (by decide) (by omega) fun r5 M5 ra5 rb5 J5 B5 => ?_
        walk_at "rs"
        refine take_J J5 B5 (by decide) (by decide) (by omega) fun r6 M6 ra6 rb6 J6 B6 => ?_
        walk_at "rs"
        refine at_ints 0 1000001 ra6 fun x x0 x1 => ?_
        walk_at "rs"
        refine do_atKey J6.O.ob rfl ⟨_, ow_taken, ?_⟩
        walk_at "rs"
        refine ⟨⟨_, J6.O.tk⟩, ?_⟩
        walk_at "rs"
        refine do_atKey J6.O.tk rfl ⟨.bl true, by rw [look_tk, if_pos nT], ?_⟩
        rw [drop_tk]
        walk_at "rs"
        refine do_atKey (put_at J6.O.ob d1) rfl ⟨_, ow_until, ?_⟩
        walk_at "rs"
        refine do_atKey (put_at J6.O.un e1.symm) rfl ⟨by rw [show (uk U).length = U.length by simp [uk]]; exact Nat.lt_of_le_of_lt (show U.length ≤ 900 by have := J6.ul; omega) (by decide), ?_⟩
        rw [put_uk]
        have fB : ∀ (x y : RO), Bag (R.put (R.put M6 t2 x) u2 y) b (nb + 1 + 1 + 1 + 1 + 1) := fun x y => Bag.other (Bag.other B6 (fun z => J6.nb B6 (by simp [z]))) (fun z => J6.nb B6 (by simp [z]))
        have fP : ∀ (x y : RO), PAt (R.put (R.put M6 t2 x) u2 y) C p t u lo hi mk T V := fun x y => ⟨put_at (put_at J6.P.ob a4) a5, put_at (put_at J6.P.tk b3) b4, put_at (put_at J6.P.un c2) c3, J6.P.ne⟩
        walk_at "rs"
        refine do_kmeth (fP _ _).ob fl_give ?_
        walk_at "rs"
        refine p_give_do (fP _ _) nT (by have := J6.vl; omega) fun M' P' hx => ?_
        walk_at "rd"
        refine h M' _ now _ _ _ (J6.gave nT P' ⟨?_, ?_, ?_, J6.O.ne⟩) ?_
        · rw [hx o a3.symm b2.symm c1.symm, put_ne d2, put_ne d1]; exact J6.O.ob
        · rw [hx t2 a4.symm b3.symm c2.symm, put_ne e1, put_same]
        · rw [hx u2 a5.symm b4.symm c3.symm, put_same]
        · obtain ⟨ob, eb, hob⟩ := fB (.dk (tk (T.filter fun m => decide (m ≠ n)))) (.dk (uk (putU U n (now + x))))
          have nb' := J6.nb B6
          simp only [List.mem_cons, List.not_mem_nil, or_false, not_or] at nb'
          exact ⟨ob, by rw [hx b nb'.1 nb'.2.1 nb'.2.2.1]; exact eb, hob.mono (by omega)⟩
      · walk_at "rs"
        refine do_atKey J2.O.ob rfl ⟨_, ow_now, ?_⟩
        walk_at "rs"
        refine take_J J2 B2 (by decide) (by decide) (by omega) fun r7 M7 ra7 rb7 J7 B7 => ?_
        walk_at "rs"
        refine take_J J7 B7 (by decide) (by decide) (by omega) fun r8 M8 ra8 rb8 J8 B8 => ?_
        walk_at "rs"
        refine take_J J8 B8 (by decide) (by decide) (by omega) fun r9 M9 ra9 rb9 J9 B9 => ?_
        walk_at "rs"
        refine at_ints 0 1000001 ra9 fun x x0 x1 => ?_
        walk_at "rs"
        refine do_atKey J9.O.ob rfl ⟨(by decide : 6 < sizeLine), ?_⟩
        rw [op_now]
        walk_at "rs"
        exact h _ _ _ _ _ _ (J9.waited (by have := J9.now0; omega)).up ((Bag.other B9 (fun z => J9.nb B9 (by simp [z]))).mono (by omega))
    · walk_at "rs"
      refine do_atKey J1.O.ob rfl ⟨_, ow_now, ?_⟩
      walk_at "rs"
      refine take_J J1 B1 (by decide) (by decide) (by omega) fun r7 M7 ra7 rb7 J7 B7 => ?_
      walk_at "rs"
      refine take_J J7 B7 (by decide) (by decide) (by omega) fun r8 M8 ra8 rb8 J8 B8 => ?_
      walk_at "rs"
      refine take_J J8 B8 (by decide) (by decide) (by omega) fun r9 M9 ra9 rb9 J9 B9 => ?_
      walk_at "rs"
      refine at_ints 0 1000001 ra9 fun x x0 x1 => ?_
      walk_at "rs"
      refine do_atKey J9.O.ob rfl ⟨(by decide : 6 < sizeLine), ?_⟩
      rw [op_now]
      walk_at "rs"
      exact h _ _ _ _ _ _ (J9.waited (by have := J9.now0; omega)).up ((Bag.other B9 (fun z => J9.nb B9 (by simp [z]))).mono (by omega))
set_option maxHeartbeats 40000000 in
theorem fn__law_a_deed {f : Addr} {fd : FuncData} (F : Fun K "_law_a_deed" "_law_a_deed" s__law_a_deed f fd) (T : Txt P w K mg C) (F_Pool_give : RMt P w K mg base C 1 "give" ["self", "number", "until"] (sp_Pool_give C)) (F_Pool_picked : RMt P w K mg base C 3 "picked" ["self", "pick", "door", "moment"] (sp_Pool_picked C)) (F_Pool_take : RMt P w K mg base C 1 "take" ["self", "number"] (sp_Pool_take C)) (F__law_take : RFn P w K mg base 1 "_law_take" ["bag", "many"] sp__law_take) (F__law_picked : RFn P w K mg base 2 "_law_picked" ["own", "way", "door"] sp__law_picked) (F__law_some : RFn P w K mg base 2 "_law_some" ["bag", "own"] sp__law_some) : FnOk P w K mg base CX0 4 f fd ["bag", "own", "pool"] (upSp K (sp__law_a_deed C)) := by
  refine' rfnok F sc__law_a_deed (fun rs M Q h => ?len) (fun cdv A outer s H E hr => (pk__law_a_deed (base := base) T F_Pool_give F_Pool_picked F_Pool_take F__law_take F__law_picked F__law_some).2 f cdv A outer s H E hr) (fun rs M Q h => rd__law_a_deed T F_Pool_give F_Pool_picked F_Pool_take F__law_take F__law_picked F__law_some h)
  unfold sp__law_a_deed at h; obtain ⟨b, p, t, u, o, t2, u2, lo, hi, mk, now, nb, T, V, U, k, rfl, _⟩ := h; rfl
set_option maxHeartbeats 40000000 in
def pk__law_looked (T : Txt P w K mg C) (F_Pool_is_free : RMt P w K mg base C 2 "is_free" ["self", "number", "moment"] (sp_Pool_is_free C)) (F_Pool_many_free : RMt P w K mg base C 3 "many_free" ["self", "moment"] (sp_Pool_many_free C)) (F_Pool_resting : RMt P w K mg base C 1 "resting" ["self", "moment"] (sp_Pool_resting C)) (F__law_whole : RFn P w K mg base 1 "_law_whole" ["found"] sp__law_whole) (F__law_is_free : RFn P w K mg base 1 "_law_is_free" ["own", "number"] sp__law_is_free) (F__law_some : RFn P w K mg base 2 "_law_some" ["bag", "own"] sp__law_some) : {t : RTS // ∀ (f : Addr) (cdv : Value) (A : Around) (outer : List Env) (s : Shared) (H : Hp) (E : XK), Room 3 (A.deeper (envOfC "_law_looked" (defScope s__law_looked) s.heap.objs.size f cdv)) → RPSs (cxOf CX0 P w K mg base N__law_looked "_law_looked" (defScope s__law_looked) f cdv A outer s H E).nox (defBody s__law_looked) t} := by
  refine' ⟨?t, fun f cdv A outer s H E hr => ?term⟩
  case term =>
   refine' scons ?h206 ?h207
   case' h206 => refine' sfor PassesOwn.never rfl ?h203 ?h204 ?h205
   case' h203 => refine' irange T.b_range ?h159 (hgl := gl__law_looked_range)
   case' h159 => exact ri
   case' h204 => exact gnameN 3 no__law_looked
   case' h205 => refine' scons ?h201 ?h202
   case' h201 => refine' ssetN 5 no__law_looked ?h200
   case' h200 => refine' rcallF F__law_some (hr.mono (by decide)) ?h199 (hg := gl__law_looked__law_some) (hdb := db__law_some)
   case' h199 => refine' acons ?h197 ?h198
   case' h197 => exact rvN 0 no__law_looked
   case' h198 => refine' acons ?h195 ?h196
   case' h195 => exact rvN 1 no__law_looked
   case' h196 => exact anil
   case' h202 => refine' scons ?h193 ?h194
   case' h193 => refine' ssetN 6 no__law_looked ?h192
   case' h192 => refine' rmethF F_Pool_is_free T.cl (hr.mono (by decide)) ?h190 ?h191
   case' h190 => exact rvN 2 no__law_looked
   case' h191 => refine' acons ?h188 ?h189
   case' h188 => exact rvN 5 no__law_looked
   case' h189 => refine' acons ?h186 ?h187
   case' h186 => refine' rdget (hu_of hr) ?h184 ?h185
   case' h184 => exact rvN 1 no__law_looked
   case' h185 => exact rs
   case' h187 => exact anil
   case' h194 => refine' sone ?h183
   case' h183 => refine' sif ?h180 ?h181 ?h182
   case' h180 => refine' rtw ?h177
   case' h177 => refine' ror ?h175 ?h176
   case' h175 => refine' rtnot ?h174
   case' h174 => refine' rtval ?h173
   case' h173 => refine' rcallB cisi_bool T.b_isinstance bt_isinstance ?h172 (hg := gl__law_looked_isinstance) (hdb := db_isinstance) (hn := nn_isinstance)
   case' h172 => refine' acons ?h170 ?h171
   case' h170 => exact rvN 6 no__law_looked
   case' h171 => refine' acons ?h168 ?h169
   case' h168 => exact rty_bool T.b_bool gl__law_looked_bool
   case' h169 => exact anil
   case' h176 => refine' ror1 ?h167
   case' h167 => refine' rtcmp (oneM hr.units) ?h165 ?h166
   case' h165 => exact rvN 6 no__law_looked
   case' h166 => refine' rcallF F__law_is_free (hr.mono (by decide)) ?h164 (hg := gl__law_looked__law_is_free) (hdb := db__law_is_free)
   case' h164 => refine' acons ?h162 ?h163
   case' h162 => exact rvN 1 no__law_looked
   case' h163 => refine' acons ?h160 ?h161
   case' h160 => exact rvN 5 no__law_looked
   case' h161 => exact anil
   case' h181 => refine' sone ?h179
   case' h179 => refine' sret ?h178
   case' h178 => exact rb
   case' h182 => exact snil
   case' h207 => refine' scons ?h157 ?h158
   case' h157 => refine' ssetN 4 no__law_looked ?h156
   case' h156 => refine' rlst ?h155
   case' h155 => exact anil
   case' h158 => refine' scons ?h153 ?h154
   case' h153 => refine' sfor PassesOwn.never rfl ?h150 ?h151 ?h152
   case' h150 => refine' iseq ?h114
   case' h114 => refine' rcallB (csortedD rfl) T.b_sorted bt_sorted ?h113 (hg := gl__law_looked_sorted) (hdb := db_sorted) (hn := nn_sorted)
   case' h113 => refine' acons ?h111 ?h112
   case' h111 => refine' rdget (hu_of hr) ?h109 ?h110
   case' h109 => exact rvN 1 no__law_looked
   case' h110 => exact rs
   case' h112 => exact anil
   case' h151 => exact gnameN 5 no__law_looked
   case' h152 => refine' sone ?h149
   case' h149 => refine' sif ?h146 ?h147 ?h148
   case' h146 => refine' rtw ?h130
   case' h130 => refine' rand ?h128 ?h129
   case' h128 => refine' rtdnotin (hu_of hr) ?h126 ?h127
   case' h126 => exact rvN 5 no__law_looked
   case' h127 => refine' rdget (hu_of hr) ?h124 ?h125
   case' h124 => exact rvN 1 no__law_looked
   case' h125 => exact rs
   case' h129 => refine' rand1 ?h123
   case' h123 => refine' rtcmp ogt ?h121 ?h122
   case' h121 => refine' rdget (hu_of hr) ?h117 ?h118
   case' h117 => refine' rdget (hu_of hr) ?h115 ?h116
   case' h115 => exact rvN 1 no__law_looked
   case' h116 => exact rs
   case' h118 => exact rvN 5 no__law_looked
   case' h122 => refine' rdget (hu_of hr) ?h119 ?h120
   case' h119 => exact rvN 1 no__law_looked
   case' h120 => exact rs
   case' h147 => refine' sone ?h145
   case' h145 => refine' sexpr ?h144
   case' h144 => refine' rappend ?h142 ?h143
   case' h142 => exact rvN 4 no__law_looked
   case' h143 => refine' acons ?h140 ?h141
   case' h140 => refine' rtup ?h139
   case' h139 => refine' acons ?h137 ?h138
   case' h137 => exact rvN 5 no__law_looked
   case' h138 => refine' acons ?h135 ?h136
   case' h135 => refine' rdget (hu_of hr) ?h133 ?h134
   case' h133 => refine' rdget (hu_of hr) ?h131 ?h132
   case' h131 => exact rvN 1 no__law_looked
   case' h132 => exact rs
   case' h134 => exact rvN 5 no__law_looked
   case' h136 => exact anil
   case' h141 => exact anil
   case' h148 => exact snil
   case' h154 => refine' scons ?h107 ?h108
   case' h107 => refine' ssetN 6 no__law_looked ?h106
   case' h106 => refine' rmethF F_Pool_resting T.cl (hr.mono (by decide)) ?h104 ?h105
   case' h104 => exact rvN 2 no__law_looked
   case' h105 => refine' acons ?h102 ?h103
   case' h102 => refine' rdget (hu_of hr) ?h100 ?h101
   case' h100 => exact rvN 1 no__law_looked
   case' h101 => exact rs
   case' h103 => exact anil
   case' h108 => refine' scons ?h98 ?h99
   case' h98 => refine' sif ?h95 ?h96 ?h97
   case' h95 => refine' rtw ?h92
   case' h92 => refine' ror ?h90 ?h91
   case' h90 => refine' rtnot ?h89
   case' h89 => refine' rtval ?h88
   case' h88 => refine' rcallB cisi_listM T.b_isinstance bt_isinstance ?h87 (hg := gl__law_looked_isinstance) (hdb := db_isinstance) (hn := nn_isinstance)
   case' h87 => refine' acons ?h85 ?h86
   case' h85 => exact rvN 6 no__law_looked
   case' h86 => refine' acons ?h83 ?h84
   case' h83 => exact rty_list T.b_list gl__law_looked_list
   case' h84 => exact anil
   case' h91 => refine' ror ?h81 ?h82
   case' h81 => refine' rtcmp (oneM hr.units) ?h79 ?h80
   case' h79 => exact rvN 6 no__law_looked
   case' h80 => exact rvN 4 no__law_looked
   case' h82 => refine' ror1 ?h78
   case' h78 => refine' rtnot ?h77
   case' h77 => refine' rtval ?h76
   case' h76 => refine' rcallB (call_all rfl) T.b_all bt_all ?h75 (hg := gl__law_looked_all) (hdb := db_all) (hn := nn_all)
   case' h75 => refine' acons ?h73 ?h74
   case' h73 => refine' OV.rcompN [] (osc := defScope s__law_looked) (oN := N__law_looked) rfl ?h70 (fun cl C s H fp vb => ?h71) (fun cl C s H fp vb => ?h72) rfl rfl (by decide +kernel) (by decide +kernel) (by decide +kernel) rfl (by decide +kernel) (by decide +kernel) (by decide +kernel) (by decide +kernel)
   case' h70 => exact rvN 6 no__law_looked
   case' h71 => exact tnil
   case' h72 => refine' rcallB cisi_tuple T.b_isinstance bt_isinstance ?h69 (hg := (glB (by decide +kernel))) (hdb := db_isinstance) (hn := nn_isinstance)
   case' h69 => refine' acons ?h67 ?h68
   case' h67 => exact rvB 0 vb
   case' h68 => refine' acons ?h65 ?h66
   case' h65 => exact rty_tuple T.b_tuple (glB (by decide +kernel))
   case' h66 => exact anil
   case' h74 => exact anil
   case' h96 => refine' sone ?h94
   case' h94 => refine' sret ?h93
   case' h93 => exact rb
   case' h97 => exact snil
   case' h99 => refine' scons ?h63 ?h64
   case' h63 => refine' sexpr ?h62
   case' h62 => refine' rappend ?h60 ?h61
   case' h60 => exact rvN 6 no__law_looked
   case' h61 => refine' acons ?h58 ?h59
   case' h58 => refine' rtup ?h57
   case' h57 => refine' acons ?h55 ?h56
   case' h55 => exact ri
   case' h56 => refine' acons ?h53 ?h54
   case' h53 => exact ri
   case' h54 => exact anil
   case' h59 => exact anil
   case' h64 => refine' scons ?h51 ?h52
   case' h51 => refine' ssetN 7 no__law_looked ?h50
   case' h50 => refine' rop osub ?h48 ?h49
   case' h48 => refine' rop osub ?h43 ?h44
   case' h43 => refine' rop oadd ?h36 ?h37
   case' h36 => refine' rop osub ?h34 ?h35
   case' h34 => refine' rdget (hu_of hr) ?h30 ?h31
   case' h30 => exact rvN 1 no__law_looked
   case' h31 => exact rs
   case' h35 => refine' rdget (hu_of hr) ?h32 ?h33
   case' h32 => exact rvN 1 no__law_looked
   case' h33 => exact rs
   case' h37 => exact ri
   case' h44 => refine' rcallB clenD T.b_len bt_len ?h42 (hg := gl__law_looked_len) (hdb := db_len) (hn := nn_len)
   case' h42 => refine' acons ?h40 ?h41
   case' h40 => refine' rdget (hu_of hr) ?h38 ?h39
   case' h38 => exact rvN 1 no__law_looked
   case' h39 => exact rs
   case' h41 => exact anil
   case' h49 => refine' rcallB clen T.b_len bt_len ?h47 (hg := gl__law_looked_len) (hdb := db_len) (hn := nn_len)
   case' h47 => refine' acons ?h45 ?h46
   case' h45 => exact rvN 4 no__law_looked
   case' h46 => exact anil
   case' h52 => refine' scons ?h28 ?h29
   case' h28 => refine' ssetN 8 no__law_looked ?h27
   case' h27 => refine' rmethF F_Pool_many_free T.cl (hr.mono (by decide)) ?h25 ?h26
   case' h25 => exact rvN 2 no__law_looked
   case' h26 => refine' acons ?h23 ?h24
   case' h23 => refine' rdget (hu_of hr) ?h21 ?h22
   case' h21 => exact rvN 1 no__law_looked
   case' h22 => exact rs
   case' h24 => exact anil
   case' h29 => refine' sone ?h20
   case' h20 => refine' sret ?h19
   case' h19 => refine' randv ?h17 ?h18
   case' h17 => refine' rcmp (oeqM hr.units) ?h15 ?h16
   case' h15 => refine' rmethF F_Pool_resting T.cl (hr.mono (by decide)) ?h13 ?h14
   case' h13 => exact rvN 2 no__law_looked
   case' h14 => refine' acons ?h11 ?h12
   case' h11 => refine' rdget (hu_of hr) ?h9 ?h10
   case' h9 => exact rvN 1 no__law_looked
   case' h10 => exact rs
   case' h12 => exact anil
   case' h16 => exact rvN 4 no__law_looked
   case' h18 => refine' randv ?h7 ?h8
   case' h7 => refine' rcallF F__law_whole (hr.mono (by decide)) ?h6 (hg := gl__law_looked__law_whole) (hdb := db__law_whole)
   case' h6 => refine' acons ?h4 ?h5
   case' h4 => exact rvN 8 no__law_looked
   case' h5 => exact anil
   case' h8 => refine' rone ?h3
   case' h3 => refine' rcmp (oeqM hr.units) ?h1 ?h2
   case' h1 => exact rvN 8 no__law_looked
   case' h2 => exact rvN 7 no__law_looked


theorem some_K {M : RM} {C p t u o t2 u2 b : Addr} {lo hi mk now n : Int} {T : List Int} {V U : List (Int × Int)} {k : Nat} {Q : RVK} (J : Jt M C p t u o t2 u2 lo hi mk now T V U k) (hk : k < 64) (hB : Bag M b n) (n0 : 0 ≤ n) (n1 : n ≤ 90000) (h : ∀ (r : Int) (M' : RM), Jt M' C p t u o t2 u2 lo hi mk now T V U k → Bag M' b (n + 6) → Q (.int r) M') : sp__law_some [.ref b, .ref o] M Q :=
  l_some_do hB n0 n1 J.O J.bd ⟨J.tr, J.ur, Nat.lt_of_le_of_lt J.tl hk, Nat.lt_of_le_of_lt J.ul hk⟩ fun r M' _ _ hB' hf => h r M' (J.keep (J.nb hB) hf) hB'
theorem eqR_bl (x : Bool) : eqR (.bl x) (.bl x) = true := by cases x <;> decide
theorem do_list3 {g : RTG} {tb : RTS} {k : RD} {σ : RSt} {M : RM} (h : rForL g tb k [.int 0, .int 1, .int 2] σ M) : rForL g tb k ((List.range (Int.toNat 3)).map fun (i : Nat) => RV.int (i : Int)) σ M := h

set_option maxHeartbeats 40000000 in
theorem rd__law_looked (T : Txt P w K mg C) (F_Pool_is_free : RMt P w K mg base C 2 "is_free" ["self", "number", "moment"] (sp_Pool_is_free C)) (F_Pool_many_free : RMt P w K mg base C 3 "many_free" ["self", "moment"] (sp_Pool_many_free C)) (F_Pool_resting : RMt P w K mg base C 1 "resting" ["self", "moment"] (sp_Pool_resting C)) (F__law_whole : RFn P w K mg base 1 "_law_whole" ["found"] sp__law_whole) (F__law_is_free : RFn P w K mg base 1 "_law_is_free" ["own", "number"] sp__law_is_free) (F__law_some : RFn P w K mg base 2 "_law_some" ["bag", "own"] sp__law_some) {rs : List RV} {M : RM} {Q : RVK} (h : (sp__law_looked C) rs M Q) : (pk__law_looked (base := base) T F_Pool_is_free F_Pool_many_free F_Pool_resting F__law_whole F__law_is_free F__law_some).1 { nx := fun _ M' => Q .non M', rt := Q } (rstart N__law_looked rs) M := by
    unfold sp__law_looked at h
    unfold pk__law_looked
    dsimp only
    obtain ⟨b, p, t, u, o, t2, u2, lo, hi, mk, now, nb, T, V, U, k, rfl, ⟨J, hB, nb0, nb1, hk⟩, h⟩ := h
    refine do_start (τ' := [some (.ref b), some (.ref o), some (.ref p), none, none, none, none, none, none]) rfl ?_
    walk_at "rs"
    refine do_rng (by decide) (by decide) ?_
    refine do_list3 ?_
    walk_at "rs"
    refine some_K J (by omega) hB (by omega) (by omega) fun n1 M1 J1 B1 => ?_
    walk_at "rs"
    refine do_kmeth J1.P.ob fl_is_free ?_
    walk_at "rs"
    refine do_atKey J1.O.ob rfl ⟨_, ow_now, ?_⟩
    walk_at "rs"
    refine p_is_free_do J1.P ?_
    rw [free_same J1.now0 J1.val]
    walk_at "rd"
    refine l_is_free_do J1.O ?_
    walk_at "rs"
    refine do_neM rfl rfl ?_
    walk_at "rs"
    refine do_kF' (by simp only [lookR]; rw [eqR_bl]; rfl) ?_
    walk_at "rs"
    refine some_K J1 (by omega) B1 (by omega) (by omega) fun n2 M2 J2 B2 => ?_
    walk_at "rs"
    refine do_kmeth J2.P.ob fl_is_free ?_
    walk_at "rs"
    refine do_atKey J2.O.ob rfl ⟨_, ow_now, ?_⟩
    walk_at "rs"
    refine p_is_free_do J2.P ?_
    rw [free_same J2.now0 J2.val]
    walk_at "rd"
    refine l_is_free_do J2.O ?_
    walk_at "rs"
    refine do_neM rfl rfl ?_
    walk_at "rs"
    refine do_kF' (by simp only [lookR]; rw [eqR_bl]; rfl) ?_
    walk_at "rs"
    refine some_K J2 (by omega) B2 (by omega) (by omega) fun n3 M3 J3 B3 => ?_
    walk_at "rs"
    refine do_kmeth J3.P.ob fl_is_free ?_
    walk_at "rs"
    refine do_atKey J3.O.ob rfl ⟨_, ow_now, ?_⟩
    walk_at "rs"
    refine p_is_free_do J3.P ?_
    rw [free_same J3.now0 J3.val]
    walk_at "rd"
    refine l_is_free_do J3.O ?_
    walk_at "rs"
    refine do_neM rfl rfl ?_
    walk_at "rs"
    refine do_kF' (by simp only [lookR]; rw [eqR_bl]; rfl) ?_
    walk_at "rs"
    intro q hq
    have hqn := J3.nfresh hq
    have J4 := J3.putN (x := .lst []) hqn
    have Q4 : R.put M3 q (.lst []) q = some (.lst []) := put_same
    generalize R.put M3 q (.lst []) = M4 at J4 Q4 ⊢
    walk_at "rs"
    refine do_atKey J4.O.ob rfl ⟨_, ow_until, ?_⟩
    walk_at "rs"
    refine do_sortD (ns := U.map (·.1)) J4.O.un (keys_uk U) (by rw [List.length_map]; have := J4.ul; omega) fun ns' hp ho => ?_
    have es := srt_eq hp ho
    subst es
    have hlen : (srt (U.map (·.1))).length < 64 := by rw [(srt_perm _).length_eq, List.length_map]; have := J4.ul; omega
    walk_at "rs"
    generalize freeL lo hi now T U n3 = f3
    refine for_each (srt (U.map (·.1))) (fun done σ M => (∃ a, σ = [some (.ref b), some (.ref o), some (.ref p), some (.int 2), some (.ref q), a, some (.bl f3), none, none]) ∧ Jt M C p t u o t2 u2 lo hi mk now T V U k ∧ M q = some (.lst ((done.filter fun n => !decide (n ∈ T) && decide (now < (valU U n).getD 0)).map (rowOf U)))) ?_ ?_ _ [] rfl _ _ ⟨⟨_, rfl⟩, J4, Q4⟩
    · rintro done n rest σ M5 N en ⟨⟨a, rfl⟩, J5, Q5⟩ hN
      have hn : n ∈ U.map (·.1) := (srt_perm _).mem_iff.mp (by rw [en]; simp)
      obtain ⟨v, ev⟩ := Option.isSome_iff_exists.mp (val_mem.mpr hn)
      have hdl : (done.filter fun n => !decide (n ∈ T) && decide (now < (valU U n).getD 0)).length < 64 := by
        refine Nat.lt_of_le_of_lt (List.length_filter_le _ _) (Nat.lt_of_le_of_lt ?_ hlen)
        rw [en, List.length_append]; exact Nat.le_add_right _ _
      walk_at "rs"
      refine do_atKey J5.O.ob rfl ⟨_, ow_taken, ?_⟩
      refine do_atKey J5.O.tk rfl ?_
      rw [show (if true = true then !(lookK (tk T) (Sum.inl n)).isSome else (lookK (tk T) (Sum.inl n)).isSome) = !decide (n ∈ T) by rw [if_pos rfl, some_tk]]
      walk_at "rs"
      refine do_kB (fun e1 => ?_) fun e1 => ?_
      · walk_at "rs"
        refine do_atKey J5.O.ob rfl ⟨_, ow_until, ?_⟩
        walk_at "rs"
        refine do_atKey J5.O.un rfl ⟨.int v, by rw [look_uk, ev]; rfl, ?_⟩
        walk_at "rs"
        refine do_atKey J5.O.ob rfl ⟨_, ow_now, ?_⟩
        walk_at "rs"
        refine do_kB (fun e2 => ?_) fun e2 => ?_
        · walk_at "rs"
          refine do_kapp Q5 ?_
          walk_at "rs"
          refine do_atKey J5.O.ob rfl ⟨_, ow_until, ?_⟩
          walk_at "rs"
          refine do_atKey J5.O.un rfl ⟨.int v, by rw [look_uk, ev]; rfl, ?_⟩
          walk_at "rs"
          refine ⟨_, _, rfl, Q5, by rw [List.length_map]; exact Nat.lt_trans hdl (by decide), ?_⟩
          walk_at "rs"
          refine hN _ _ ⟨⟨_, rfl⟩, J5.putN hqn, ?_⟩
          rw [put_same, List.filter_append, List.filter_cons, if_pos (by rw [e1, ev]; exact e2), List.filter_nil, List.map_append]
          rw [show [n].map (rowOf U) = [RV.tup [.int n, .int v]] by show [rowOf U n] = _; unfold rowOf; rw [ev]; rfl]
        · walk_at "rs"
          refine hN _ _ ⟨⟨_, rfl⟩, J5, ?_⟩
          rw [List.filter_append, List.filter_cons, if_neg (by rw [e1, ev]; show ¬ decide (now < v) = true; rw [show decide (now < v) = false from e2]; exact Bool.false_ne_true), List.filter_nil, List.append_nil]
          exact Q5
      · walk_at "rs"
        refine hN _ _ ⟨⟨_, rfl⟩, J5, ?_⟩
        rw [List.filter_append, List.filter_cons, if_neg (by rw [e1]; exact Bool.false_ne_true), List.filter_nil, List.append_nil]
        exact Q5
    rintro σ M5 ⟨⟨a, rfl⟩, J5, Q5⟩
    have Q5' : M5 q = some (.lst ((dueF T U now).map (rowOf U))) := Q5
    have hdl : (dueF T U now).length < 64 := Nat.lt_of_le_of_lt (List.length_filter_le _ _) hlen
    walk_at "rs"
    refine do_kmeth J5.P.ob fl_resting ?_
    walk_at "rs"
    refine do_atKey J5.O.ob rfl ⟨_, ow_now, ?_⟩
    walk_at "rs"
    refine p_resting_do J5.P (by have := J5.vl; omega) fun q2 hq2 => ?_
    rw [rest_same (lo := lo) (hi := hi) J5.now0 J5.val J5.un J5.vn]
    have nqq : q ≠ q2 := fun e => by rw [← e, Q5'] at hq2; cases hq2
    have hqn2 := J5.nfresh hq2
    have J6 := J5.putN (x := .lst ((dueF T U now).map (rowOf U))) hqn2
    have Q6 : R.put M5 q2 (.lst ((dueF T U now).map (rowOf U))) q2 = some (.lst ((dueF T U now).map (rowOf U))) := put_same
    have Q7 : R.put M5 q2 (.lst ((dueF T U now).map (rowOf U))) q = some (.lst ((dueF T U now).map (rowOf U))) := put_at Q5' nqq
    generalize R.put M5 q2 (.lst ((dueF T U now).map (rowOf U))) = M6 at J6 Q6 Q7 ⊢
    have L6 : lookR M6 (.ref q2) = .ls ((dueF T U now).map (rowOf U)) := by simp only [lookR, Q6]
    have L7 : lookR M6 (.ref q) = .ls ((dueF T U now).map (rowOf U)) := by simp only [lookR, Q7]
    walk_at "rd"
    refine do_isiL Q6 ?_
    walk_at "rd"
    refine do_neM (by rw [L6]; exact rows_ok _ _) (by rw [L7]; exact rows_ok _ _) ?_
    rw [L6, L7, eqR_refl _ ⟨16, rows_ok _ _⟩]
    walk_at "rd"
    refine do_kcompO Q6 (by rw [List.length_map]; exact Nat.lt_trans hdl (by decide)) ?_
    refine compO_map (f := fun _ => RV.bl true) Q6 _ _ (fun x hx Q' hq' => ?_) ?_
    · obtain ⟨n, _, rfl⟩ := List.mem_map.mp hx
      walk_at "rs"
      exact hq'
    rw [show ([] ++ ((dueF T U now).map (rowOf U)).map fun _ => RV.bl true) = ((dueF T U now).map fun _ => true).map RV.bl by rw [List.nil_append, List.map_map, List.map_map]; rfl]
    walk_at "rs"
    refine do_all _ ?_
    rw [show (((dueF T U now).map fun _ => true).all id) = true by rw [List.all_eq_true]; intro x hx; obtain ⟨_, _, rfl⟩ := List.mem_map.mp hx; rfl]
    walk_at "rd"
    refine do_kapp Q6 ?_
    walk_at "rs"
    refine ⟨_, _, rfl, Q6, by rw [List.length_map]; exact Nat.lt_trans hdl (by decide), ?_⟩
    have J8 := J6.putN (x := .lst ((dueF T U now).map (rowOf U) ++ [.tup [.int 0, .int 0]])) hqn2
    have Q8 : R.put M6 q2 (.lst ((dueF T U now).map (rowOf U) ++ [.tup [.int 0, .int 0]])) q = some (.lst ((dueF T U now).map (rowOf U))) := put_at Q7 nqq
    generalize R.put M6 q2 (.lst ((dueF T U now).map (rowOf U) ++ [.tup [.int 0, .int 0]])) = M8 at J8 Q8 ⊢
    walk_at "rs"
    refine do_atKey J8.O.ob rfl ⟨_, ow_high, ?_⟩
    walk_at "rs"
    refine do_atKey J8.O.ob rfl ⟨_, ow_low, ?_⟩
    walk_at "rs"
    refine do_atKey J8.O.ob rfl ⟨_, ow_taken, ?_⟩
    walk_at "rs"
    refine do_lenD J8.O.tk ?_
    rw [show (tk T).length = T.length by simp [tk]]
    walk_at "rs"
    refine do_len_r Q8 ?_
    rw [List.length_map]
    walk_at "rs"
    refine do_kmeth J8.P.ob fl_many_free ?_
    walk_at "rs"
    refine do_atKey J8.O.ob rfl ⟨_, ow_now, ?_⟩
    walk_at "rs"
    refine p_many_free_do J8.P J8.bd ?_
    rw [show freeP lo hi now T V = freeL lo hi now T U from funext fun n => free_same J8.now0 J8.val n]
    have hc := count_free (lo := lo) (hi := hi) J8.now0 J8.tn J8.un J8.tr J8.ur
    have hbd := J8.bd
    generalize ((nrs lo (hi + 1 - lo).toNat).filter (freeL lo hi now T U)).length = cf at hc ⊢
    walk_at "rs"
    refine do_kmeth J8.P.ob fl_resting ?_
    walk_at "rs"
    refine do_atKey J8.O.ob rfl ⟨_, ow_now, ?_⟩
    walk_at "rs"
    refine p_resting_do J8.P (by have := J8.vl; omega) fun q3 hq3 => ?_
    rw [rest_same (lo := lo) (hi := hi) J8.now0 J8.val J8.un J8.vn]
    have nq3 : q ≠ q3 := fun e => by rw [← e, Q8] at hq3; cases hq3
    have J9 := J8.fresh (x := .lst ((dueF T U now).map (rowOf U))) hq3
    have Q9 : R.put M8 q3 (.lst ((dueF T U now).map (rowOf U))) q3 = some (.lst ((dueF T U now).map (rowOf U))) := put_same
    have Q10 : R.put M8 q3 (.lst ((dueF T U now).map (rowOf U))) q = some (.lst ((dueF T U now).map (rowOf U))) := put_at Q8 nq3
    generalize R.put M8 q3 (.lst ((dueF T U now).map (rowOf U))) = M9 at J9 Q9 Q10 ⊢
    have L9 : lookR M9 (.ref q3) = .ls ((dueF T U now).map (rowOf U)) := by simp only [lookR, Q9]
    have L10 : lookR M9 (.ref q) = .ls ((dueF T U now).map (rowOf U)) := by simp only [lookR, Q10]
    walk_at "rs"
    refine do_eqM (by rw [L9]; exact rows_ok _ _) (by rw [L10]; exact rows_ok _ _) ?_
    rw [L9, L10, eqR_refl _ ⟨16, rows_ok _ _⟩]
    walk_at "rs"
    refine whole_do rfl ?_
    walk_at "rs"
    refine do_eqM rfl rfl ?_
    rw [show eqR (lookR M9 (.int (cf : Int))) (lookR M9 (.int (hi - lo + 1 - (T.length : Int) - ((dueF T U now).length : Int)))) = true by
      show decide ((cf : Int) = hi - lo + 1 - (T.length : Int) - ((dueF T U now).length : Int)) = true
      refine decide_eq_true ?_
      omega]
    exact h _ J9
set_option maxHeartbeats 40000000 in
theorem fn__law_looked {f : Addr} {fd : FuncData} (F : Fun K "_law_looked" "_law_looked" s__law_looked f fd) (T : Txt P w K mg C) (F_Pool_is_free : RMt P w K mg base C 2 "is_free" ["self", "number", "moment"] (sp_Pool_is_free C)) (F_Pool_many_free : RMt P w K mg base C 3 "many_free" ["self", "moment"] (sp_Pool_many_free C)) (F_Pool_resting : RMt P w K mg base C 1 "resting" ["self", "moment"] (sp_Pool_resting C)) (F__law_whole : RFn P w K mg base 1 "_law_whole" ["found"] sp__law_whole) (F__law_is_free : RFn P w K mg base 1 "_law_is_free" ["own", "number"] sp__law_is_free) (F__law_some : RFn P w K mg base 2 "_law_some" ["bag", "own"] sp__law_some) : FnOk P w K mg base CX0 4 f fd ["bag", "own", "pool"] (upSp K (sp__law_looked C)) := by
  refine' rfnok F sc__law_looked (fun rs M Q h => ?len) (fun cdv A outer s H E hr => (pk__law_looked (base := base) T F_Pool_is_free F_Pool_many_free F_Pool_resting F__law_whole F__law_is_free F__law_some).2 f cdv A outer s H E hr) (fun rs M Q h => rd__law_looked T F_Pool_is_free F_Pool_many_free F_Pool_resting F__law_whole F__law_is_free F__law_some h)
  unfold sp__law_looked at h; obtain ⟨b, p, t, u, o, t2, u2, lo, hi, mk, now, nb, T, V, U, k, rfl, _⟩ := h; rfl
set_option maxHeartbeats 40000000 in
def pk_law (T : Txt P w K mg C) (F_Pool_init : RIn P w K mg base C 1 ["self", "low", "high"] (sp_Pool_init C)) (F__law_cell : RFn P w K mg base 1 "_law_cell" ["script", "k"] sp__law_cell) (F__law_well : RFn P w K mg base 1 "_law_well" ["cell", "turn"] sp__law_well) (F__law_take : RFn P w K mg base 1 "_law_take" ["bag", "many"] sp__law_take) (F__law_a_deed : RFn P w K mg base 4 "_law_a_deed" ["bag", "own", "pool"] (sp__law_a_deed C)) (F__law_looked : RFn P w K mg base 4 "_law_looked" ["bag", "own", "pool"] (sp__law_looked C)) : {t : RTS // ∀ (f : Addr) (cdv : Value) (A : Around) (outer : List Env) (s : Shared) (H : Hp) (E : XK), Room 4 (A.deeper (envOfC "law" (defScope s_law) s.heap.objs.size f cdv)) → RPSs (cxOf CX0 P w K mg base N_law "law" (defScope s_law) f cdv A outer s H E).nox (defBody s_law) t} := by
  refine' ⟨?t, fun f cdv A outer s H E hr => ?term⟩
  case term =>
   refine' scons ?h206 ?h207
   case' h206 => refine' ssetN 1 no_law ?h205
   case' h205 => refine' rcallF F__law_well (hr.mono (by decide)) ?h204 (hg := gl_law__law_well) (hdb := db__law_well)
   case' h204 => refine' acons ?h202 ?h203
   case' h202 => refine' rcallF F__law_cell (hr.mono (by decide)) ?h201 (hg := gl_law__law_cell) (hdb := db__law_cell)
   case' h201 => refine' acons ?h199 ?h200
   case' h199 => exact rvN 0 no_law
   case' h200 => refine' acons ?h197 ?h198
   case' h197 => exact ri
   case' h198 => exact anil
   case' h203 => refine' acons ?h195 ?h196
   case' h195 => exact ri
   case' h196 => exact anil
   case' h207 => refine' scons ?h193 ?h194
   case' h193 => refine' ssetN 2 no_law ?h192
   case' h192 => refine' rix ?h190 ?h191
   case' h190 => refine' rlsf ?h184
   case' h184 => refine' acons ?h182 ?h183
   case' h182 => exact ri
   case' h183 => refine' acons ?h180 ?h181
   case' h180 => exact ri
   case' h181 => refine' acons ?h178 ?h179
   case' h178 => exact ri
   case' h179 => refine' acons ?h176 ?h177
   case' h176 => refine' rop oadd ?h174 ?h175
   case' h174 => exact ri
   case' h175 => refine' rcallF F__law_take (hr.mono (by decide)) ?h173 (hg := gl_law__law_take) (hdb := db__law_take)
   case' h173 => refine' acons ?h171 ?h172
   case' h171 => exact rvN 1 no_law
   case' h172 => refine' acons ?h169 ?h170
   case' h169 => exact ri
   case' h170 => exact anil
   case' h177 => refine' acons ?h167 ?h168
   case' h167 => exact ri
   case' h168 => exact anil
   case' h191 => refine' rcallF F__law_take (hr.mono (by decide)) ?h189 (hg := gl_law__law_take) (hdb := db__law_take)
   case' h189 => refine' acons ?h187 ?h188
   case' h187 => exact rvN 1 no_law
   case' h188 => refine' acons ?h185 ?h186
   case' h185 => exact ri
   case' h186 => exact anil
   case' h194 => refine' scons ?h165 ?h166
   case' h165 => refine' ssetN 3 no_law ?h164
   case' h164 => refine' rix ?h162 ?h163
   case' h162 => refine' rlsf ?h156
   case' h156 => refine' acons ?h154 ?h155
   case' h154 => exact ri
   case' h155 => refine' acons ?h152 ?h153
   case' h152 => refine' rop osub ?h150 ?h151
   case' h150 => exact ri
   case' h151 => exact rvN 2 no_law
   case' h153 => refine' acons ?h148 ?h149
   case' h148 => refine' rop oadd ?h146 ?h147
   case' h146 => exact ri
   case' h147 => refine' rcallF F__law_take (hr.mono (by decide)) ?h145 (hg := gl_law__law_take) (hdb := db__law_take)
   case' h145 => refine' acons ?h143 ?h144
   case' h143 => exact rvN 1 no_law
   case' h144 => refine' acons ?h141 ?h142
   case' h141 => refine' rop osub ?h139 ?h140
   case' h139 => exact ri
   case' h140 => exact rvN 2 no_law
   case' h142 => exact anil
   case' h149 => exact anil
   case' h163 => refine' rcallF F__law_take (hr.mono (by decide)) ?h161 (hg := gl_law__law_take) (hdb := db__law_take)
   case' h161 => refine' acons ?h159 ?h160
   case' h159 => exact rvN 1 no_law
   case' h160 => refine' acons ?h157 ?h158
   case' h157 => exact ri
   case' h158 => exact anil
   case' h166 => refine' scons ?h137 ?h138
   case' h137 => refine' ssetN 4 no_law ?h136
   case' h136 => refine' rdispK ["low", "high", "taken", "until", "mark", "now"] ?h134 ?h135 (by decide +kernel) (by decide)
   case' h134 => refine' vcons ?h132 ?h133
   case' h132 => exact rvN 3 no_law
   case' h133 => refine' vcons ?h130 ?h131
   case' h130 => refine' rop osub ?h128 ?h129
   case' h128 => refine' rop oadd ?h126 ?h127
   case' h126 => exact rvN 3 no_law
   case' h127 => exact rvN 2 no_law
   case' h129 => exact ri
   case' h131 => refine' vcons ?h124 ?h125
   case' h124 => exact rdnew
   case' h125 => refine' vcons ?h122 ?h123
   case' h122 => exact rdnew
   case' h123 => refine' vcons ?h120 ?h121
   case' h120 => exact rvN 3 no_law
   case' h121 => refine' vcons ?h118 ?h119
   case' h118 => exact ri
   case' h119 => exact vnil
   case' h135 => rfl
   case' h138 => refine' scons ?h116 ?h117
   case' h116 => refine' ssetN 5 no_law ?h115
   case' h115 => refine' rmakeF F_Pool_init (hr.mono (by decide)) T.m_Pool ?h114 (hg := gl_law_Pool) (hdb := db_Pool)
   case' h114 => refine' acons ?h112 ?h113
   case' h112 => exact rvN 3 no_law
   case' h113 => refine' acons ?h110 ?h111
   case' h110 => refine' rop osub ?h108 ?h109
   case' h108 => refine' rop oadd ?h106 ?h107
   case' h106 => exact rvN 3 no_law
   case' h107 => exact rvN 2 no_law
   case' h109 => exact ri
   case' h111 => exact anil
   case' h117 => refine' scons ?h104 ?h105
   case' h104 => refine' ssetN 6 no_law ?h103
   case' h103 => refine' rop oadd ?h101 ?h102
   case' h101 => refine' rsl ?h95 ?h96 ?h97
   case' h95 => exact rvN 0 no_law
   case' h96 => refine' psome ?h94
   case' h94 => exact ri
   case' h97 => exact pnone
   case' h102 => refine' rlsf ?h100
   case' h100 => refine' acons ?h98 ?h99
   case' h98 => exact ri
   case' h99 => exact anil
   case' h105 => refine' scons ?h92 ?h93
   case' h92 => refine' sfor PassesOwn.never rfl ?h89 ?h90 ?h91
   case' h89 => refine' irange T.b_range ?h11 (hgl := gl_law_range)
   case' h11 => refine' rcallB (cmax rfl) T.b_max bt_max ?h10 (hg := gl_law_max) (hdb := db_max) (hn := nn_max)
   case' h10 => refine' acons ?h8 ?h9
   case' h8 => exact ri
   case' h9 => refine' acons ?h6 ?h7
   case' h6 => refine' rcallB clen T.b_len bt_len ?h5 (hg := gl_law_len) (hdb := db_len) (hn := nn_len)
   case' h5 => refine' acons ?h3 ?h4
   case' h3 => exact rvN 6 no_law
   case' h4 => exact anil
   case' h7 => exact anil
   case' h90 => exact gnameN 7 no_law
   case' h91 => refine' scons ?h87 ?h88
   case' h87 => refine' ssetN 1 no_law ?h86
   case' h86 => refine' rcallF F__law_well (hr.mono (by decide)) ?h85 (hg := gl_law__law_well) (hdb := db__law_well)
   case' h85 => refine' acons ?h83 ?h84
   case' h83 => refine' rix ?h81 ?h82
   case' h81 => exact rvN 6 no_law
   case' h82 => refine' rop omod ?h79 ?h80
   case' h79 => exact rvN 7 no_law
   case' h80 => refine' rcallB clen T.b_len bt_len ?h78 (hg := gl_law_len) (hdb := db_len) (hn := nn_len)
   case' h78 => refine' acons ?h76 ?h77
   case' h76 => exact rvN 6 no_law
   case' h77 => exact anil
   case' h84 => refine' acons ?h74 ?h75
   case' h74 => refine' rop omul ?h72 ?h73
   case' h72 => exact ri
   case' h73 => refine' rop odiv ?h70 ?h71
   case' h70 => exact rvN 7 no_law
   case' h71 => refine' rcallB clen T.b_len bt_len ?h69 (hg := gl_law_len) (hdb := db_len) (hn := nn_len)
   case' h69 => refine' acons ?h67 ?h68
   case' h67 => exact rvN 6 no_law
   case' h68 => exact anil
   case' h75 => exact anil
   case' h88 => refine' scons ?h65 ?h66
   case' h65 => refine' sif ?h62 ?h63 ?h64
   case' h62 => refine' rtcmp oge ?h43 ?h44
   case' h43 => exact rvN 7 no_law
   case' h44 => refine' rcallB clen T.b_len bt_len ?h42 (hg := gl_law_len) (hdb := db_len) (hn := nn_len)
   case' h42 => refine' acons ?h40 ?h41
   case' h40 => exact rvN 6 no_law
   case' h41 => exact anil
   case' h63 => refine' scons ?h60 ?h61
   case' h60 => refine' sasg ?h57 (gsub ?h58 ?h59 osetl)
   case' h57 => exact ri
   case' h58 => exact rvN 1 no_law
   case' h59 => exact ri
   case' h61 => refine' sone ?h56
   case' h56 => refine' sasg ?h53 (gsub ?h54 ?h55 osetl)
   case' h53 => refine' rop omod ?h51 ?h52
   case' h51 => refine' rop oadd ?h49 ?h50
   case' h49 => refine' rix ?h45 ?h46
   case' h45 => exact rvN 1 no_law
   case' h46 => exact ri
   case' h50 => refine' rop omul ?h47 ?h48
   case' h47 => exact ri
   case' h48 => exact rvN 7 no_law
   case' h52 => exact ri
   case' h54 => exact rvN 1 no_law
   case' h55 => exact ri
   case' h64 => exact snil
   case' h66 => refine' sone ?h39
   case' h39 => refine' sif ?h36 ?h37 ?h38
   case' h36 => refine' rtw ?h33
   case' h33 => refine' ror ?h31 ?h32
   case' h31 => refine' rtnot ?h30
   case' h30 => refine' rtval ?h29
   case' h29 => refine' rcallF F__law_a_deed (hr.mono (by decide)) ?h28 (hg := gl_law__law_a_deed) (hdb := db__law_a_deed)
   case' h28 => refine' acons ?h26 ?h27
   case' h26 => exact rvN 1 no_law
   case' h27 => refine' acons ?h24 ?h25
   case' h24 => exact rvN 4 no_law
   case' h25 => refine' acons ?h22 ?h23
   case' h22 => exact rvN 5 no_law
   case' h23 => exact anil
   case' h32 => refine' ror1 ?h21
   case' h21 => refine' rtnot ?h20
   case' h20 => refine' rtval ?h19
   case' h19 => refine' rcallF F__law_looked (hr.mono (by decide)) ?h18 (hg := gl_law__law_looked) (hdb := db__law_looked)
   case' h18 => refine' acons ?h16 ?h17
   case' h16 => exact rvN 1 no_law
   case' h17 => refine' acons ?h14 ?h15
   case' h14 => exact rvN 4 no_law
   case' h15 => refine' acons ?h12 ?h13
   case' h12 => exact rvN 5 no_law
   case' h13 => exact anil
   case' h37 => refine' sone ?h35
   case' h35 => refine' sret ?h34
   case' h34 => exact rb
   case' h38 => exact snil
   case' h93 => refine' sone ?h2
   case' h2 => refine' sret ?h1
   case' h1 => exact rb


theorem do_setl {M : RM} {p : Addr} {xs : List RV} {k : Int} {v : RV} {j : Nat} {Q : RM → Prop} (e : M p = some (.lst xs)) (ej : ixN xs.length k = some j) (h : Q (R.put M p (.lst (xs.set j v)))) : R.rSetL (.ref p) (.int k) v M Q := by
  simp only [R.rSetL, e, ej]; exact h
theorem do_ixr {M : RM} {p : Addr} {xs : List RV} {i : Int} {Q : RVK} (e : M p = some (.lst xs)) (h : kAt Q M (atI xs i)) : R.rIx (.ref p) (.int i) M Q := by
  simp only [R.rIx, e]; exact h
theorem cells_ok {ns : List Int} (h : ns.length ≤ 63) : (∀ v ∈ cutR (ns.map RV.int) (some 1) none ++ [RV.int 0], ∃ i : Int, v = .int i) ∧ 1 ≤ (cutR (ns.map RV.int) (some 1) none ++ [RV.int 0]).length ∧ (cutR (ns.map RV.int) (some 1) none ++ [RV.int 0]).length ≤ 63 := by
  have e : cutR (ns.map RV.int) (some 1) none = (ns.drop 1).map RV.int := by
    cases ns with
    | nil => rfl
    | cons y ps =>
      rw [List.map_cons]
      unfold cutR
      have e1 : HT.sIx (RV.int y :: ps.map RV.int).length 0 (some 1) = 1 := by simp [HT.sIx]
      have e2 : HT.sIx (RV.int y :: ps.map RV.int).length (RV.int y :: ps.map RV.int).length none = (RV.int y :: ps.map RV.int).length := rfl
      rw [e1, e2]
      simp only [List.drop_succ_cons, List.drop_zero, List.length_cons, Nat.add_sub_cancel]
      exact List.take_of_length_le (Nat.le_refl _)
  rw [e]
  refine ⟨fun v hv => ?_, by simp, ?_⟩
  · rcases List.mem_append.mp hv with h1 | h1
    · obtain ⟨i, _, rfl⟩ := List.mem_map.mp h1; exact ⟨i, rfl⟩
    · exact ⟨0, by simpa using h1⟩
  · cases ns with
    | nil => decide
    | cons y ps => simpa using h
theorem at_int_any {l : List RV} {i : Int} {P : RV → Prop} (hl : ∀ v ∈ l, ∃ n : Int, v = .int n) (h0 : 0 ≤ i) (h1 : i < l.length) (h : ∀ n : Int, P (.int n)) : (match atI l i with | some v => P v | none => False) := at_do h0 h1 fun v hv => by
  obtain ⟨n, rfl⟩ := hl v hv
  exact h n

set_option maxHeartbeats 40000000 in
theorem rd_law (T : Txt P w K mg C) (F_Pool_init : RIn P w K mg base C 1 ["self", "low", "high"] (sp_Pool_init C)) (F__law_cell : RFn P w K mg base 1 "_law_cell" ["script", "k"] sp__law_cell) (F__law_well : RFn P w K mg base 1 "_law_well" ["cell", "turn"] sp__law_well) (F__law_take : RFn P w K mg base 1 "_law_take" ["bag", "many"] sp__law_take) (F__law_a_deed : RFn P w K mg base 4 "_law_a_deed" ["bag", "own", "pool"] (sp__law_a_deed C)) (F__law_looked : RFn P w K mg base 4 "_law_looked" ["bag", "own", "pool"] (sp__law_looked C)) {rs : List RV} {M : RM} {Q : RVK} (h : sp_law rs M Q) : (pk_law (base := base) T F_Pool_init F__law_cell F__law_well F__law_take F__law_a_deed F__law_looked).1 { nx := fun _ M' => Q .non M', rt := Q } (rstart N_law rs) M := by
    unfold sp_law at h
    unfold pk_law
    dsimp only
    obtain ⟨ns, rfl, hns, h⟩ := h
    refine do_start (τ' := [some (.ls (ns.map RV.int)), none, none, none, none, none, none, none]) rfl ?_
    walk_at "rs"
    refine cell_do (by decide) fun c => ?_
    walk_at "rs"
    refine l_well_do (by decide) fun b0 ob hb0 hob => ?_
    walk_at "rs"
    refine take_do (Bag.put hob) (by decide) (by decide) (by omega) fun r1 o1 ra1 rb1 ho1 => ?_
    walk_at "rs"
    refine take_do (Bag.put ho1) (by decide) (by decide) (by omega) fun r2 o2 ra2 rb2 ho2 => ?_
    walk_at "rs"
    refine at_ints 1 200 ra2 fun m m0 m1 => ?_
    walk_at "rs"
    refine take_do (Bag.put ho2) (by omega) (by omega) (by omega) fun r3 o3 ra3 rb3 ho3 => ?_
    walk_at "rs"
    refine take_do (Bag.put ho3) (by decide) (by decide) (by omega) fun r4 o4 ra4 rb4 ho4 => ?_
    walk_at "rs"
    refine at_ints 1 (10000 - m) ra4 fun lo lo0 lo1 => ?_
    generalize R.put _ b0 o4 = M1
    walk_at "rs"
    intro o ho
    walk_at "rs"
    refine do_dnew fun t2 ht2 => ?_
    walk_at "rs"
    refine do_dnew fun u2 hu2 => ?_
    walk_at "rs"
    have not2 : o ≠ t2 := fun e => by rw [← e, put_same] at ht2; cases ht2
    have m2 : M1 t2 = none := by rw [put_ne not2.symm] at ht2; exact ht2
    have ntu2 : t2 ≠ u2 := fun e => by rw [← e, put_same] at hu2; cases hu2
    rw [put_ne ntu2.symm] at hu2
    have nou2 : o ≠ u2 := fun e => by rw [← e, put_same] at hu2; cases hu2
    refine ⟨put_at (put_at put_same not2) nou2, ?_⟩
    have O2 : OAt (R.put (R.put (R.put (R.put M1 o (.dk [])) t2 (.dk [])) u2 (.dk [])) o (.dk (ownK lo (lo + m - 1) lo 0 t2 u2))) o t2 u2 lo (lo + m - 1) lo 0 [] [] := ⟨put_same, put_at (put_at put_same ntu2) not2.symm, put_at put_same nou2.symm, ntu2, not2, nou2⟩
    replace O2 : OAt (R.put (R.put (R.put (R.put M1 o (.dk [])) t2 (.dk [])) u2 (.dk [])) o (.dk [(Sum.inr "low", .int lo), (Sum.inr "high", .int (lo + m - 1)), (Sum.inr "taken", .ref t2), (Sum.inr "until", .ref u2), (Sum.inr "mark", .int lo), (Sum.inr "now", .int 0)])) o t2 u2 lo (lo + m - 1) lo 0 [] [] := O2
    generalize R.put (R.put (R.put (R.put M1 o (.dk [])) t2 (.dk [])) u2 (.dk [])) o _ = M2 at O2 ⊢
    walk_at "rs"
    intro p hp
    have P0 : R.put M2 p (.ins C []) p = some (.ins C []) := put_same
    refine p_init_do P0 fun M3 t u P ht hu hx => ⟨rfl, ?_⟩
    have np : ∀ {z : Addr} {y : RO}, M2 z = some y → z ≠ p := fun e1 e2 => by rw [e2, hp] at e1; cases e1
    have nt : ∀ {z : Addr} {y : RO}, M2 z = some y → z ≠ t := fun e1 e2 => by rw [put_ne (by rw [← e2]; exact np e1), ← e2, e1] at ht; cases ht
    have nu : ∀ {z : Addr} {y : RO}, M2 z = some y → z ≠ u := fun e1 e2 => by rw [put_ne (by rw [← e2]; exact np e1), ← e2, e1] at hu; cases hu
    have hx' : ∀ {z : Addr} {y : RO}, M2 z = some y → M3 z = some y := fun e1 => by rw [hx _ (np e1) (nt e1) (nu e1), put_ne (np e1)]; exact e1
    have O3 : OAt M3 o t2 u2 lo (lo + m - 1) lo 0 [] [] := ⟨hx' O2.ob, hx' O2.tk, hx' O2.un, O2.ne⟩
    have ap : [p, t, u, o, t2, u2].Nodup := by
      simp only [List.nodup_cons, List.mem_cons, List.not_mem_nil, or_false, not_or, List.nodup_nil, and_true, not_false_eq_true]
      exact ⟨⟨P.ne1.1, P.ne1.2, (np O2.ob).symm, (np O2.tk).symm, (np O2.un).symm⟩, ⟨P.ne, (nt O2.ob).symm, (nt O2.tk).symm, (nt O2.un).symm⟩, ⟨(nu O2.ob).symm, (nu O2.tk).symm, (nu O2.un).symm⟩, ⟨not2, nou2⟩, ntu2⟩
    have J0 : Jt M3 C p t u o t2 u2 lo (lo + m - 1) lo 0 [] [] [] 0 := ⟨P, O3, ap, by omega, by decide, fun n => rfl, List.nodup_nil, List.nodup_nil, List.nodup_nil, fun n hn => (by cases hn), fun n hn => (by cases hn), Nat.le_refl _, Nat.le_refl _, Nat.le_refl _⟩
    clear hx' nu nt np hx P0 hu ht hp
    obtain ⟨hc, c1, c2⟩ := cells_ok hns
    walk_at "rs"
    refine do_addL' (szl (by rw [List.length_append] at c2; simp only [List.length_cons, List.length_nil] at c2 ⊢; omega)) ?_
    generalize cutR (ns.map RV.int) (some 1) none ++ [RV.int 0] = cs at hc c1 c2 ⊢
    walk_at "rs"
    refine do_rng (by split <;> omega) (by split <;> omega) ?_
    generalize hi' : lo + m - 1 = hi at J0
    have hL : (if (cs.length : Int) > 40 then (cs.length : Int) else 40).toNat ≤ 63 := by split <;> omega
    generalize hLe : (if (cs.length : Int) > 40 then (cs.length : Int) else 40).toNat = L at hL ⊢
    refine forL_ix (fun i σ M => ∃ (mk now : Int) (T : List Int) (V U : List (Int × Int)) (a b : Option RV), σ = [some (.ls (ns.map RV.int)), a, some (.int m), some (.int lo), some (.ref o), some (.ref p), some (.ls cs), b] ∧ Jt M C p t u o t2 u2 lo hi mk now T V U i) (fun v => ∃ j : Int, v = .int j ∧ 0 ≤ j ∧ j < 63) L ?_ ?_ _ 0 ?_ ?_ _ _ ⟨_, _, _, _, _, _, _, rfl, J0⟩
    · rintro i x σ M N hil ⟨j, rfl, j0, j1⟩ ⟨mk, now, T, V, U, a, b, rfl, J⟩ hN
      walk_at "rs"
      refine do_int2 (show (0 : Int) < cs.length by omega) ?_
      walk_at "rs"
      refine at_int_any hc (Int.emod_nonneg _ (by omega)) (Int.emod_lt_of_pos _ (by omega)) fun n => ?_
      walk_at "rs"
      refine do_int2 (⟨by omega, by omega⟩) ?_
      walk_at "rs"
      refine ⟨cmul_left (by decide) (by decide), ?_⟩
      have q0 : 0 ≤ j / (cs.length : Int) := Int.ediv_nonneg j0 (by omega)
      have q1 : j / (cs.length : Int) ≤ j := Int.ediv_le_self _ j0
      walk_at "rs"
      refine l_well_do (by omega) fun b1 ob hb1 hob => ?_
      walk_at "rs"
      refine do_kB (fun e => ?_) fun e => ?_
      · obtain ⟨x, y, z, rfl, x0, y0, y1, z0, z1⟩ := hob
        walk_at "rs"
        refine do_setl put_same (j := 0) rfl ?_
        rw [put_put]
        walk_at "rs"
        refine do_ixr put_same ?_
        walk_at "rs"
        refine ⟨cmul_left (by decide) (by decide), ?_⟩
        walk_at "rs"
        refine do_int2 (show (0 : Int) < 2305843009213693951 by decide) ?_
        walk_at "rs"
        refine do_setl put_same (j := 1) rfl ?_
        rw [put_put]
        have hob2 : BagO (.lst [.int 0, .int ((y + 7919 * j) % 2305843009213693951), .int z]) (60 * (j / (cs.length : Int))) := ⟨_, _, _, rfl, by decide, Int.emod_nonneg _ (by decide), Int.emod_lt_of_pos _ (by decide), z0, z1⟩
        have J1 := J.fresh (x := .lst [.int 0, .int ((y + 7919 * j) % 2305843009213693951), .int z]) hb1
        walk_at "rs"
        refine l_a_deed_do ⟨J1, Bag.put hob2, by omega, by omega, by omega⟩ fun M2 mk2 now2 T2 V2 U2 J2 B2 => ?_
        walk_at "rd"
        refine l_looked_do ⟨J2, B2, by omega, by omega, by omega⟩ fun M3 J3 => ?_
        walk_at "rd"
        exact hN _ _ ⟨_, _, _, _, _, _, _, rfl, J3⟩
      · have J1 := J.fresh (x := ob) hb1
        have hob2 := hob
        walk_at "rs"
        refine l_a_deed_do ⟨J1, Bag.put hob2, by omega, by omega, by omega⟩ fun M2 mk2 now2 T2 V2 U2 J2 B2 => ?_
        walk_at "rd"
        refine l_looked_do ⟨J2, B2, by omega, by omega, by omega⟩ fun M3 J3 => ?_
        walk_at "rd"
        exact hN _ _ ⟨_, _, _, _, _, _, _, rfl, J3⟩
    · rintro σ M ⟨mk, now, T, V, U, a, b, rfl, J⟩
      walk_at "rs"
      exact h _
    · intro v hv
      obtain ⟨j, hj, rfl⟩ := List.mem_map.mp hv
      have := List.mem_range.mp hj
      exact ⟨j, rfl, by omega, by omega⟩
    · simp [nums]
set_option maxHeartbeats 40000000 in
theorem fn_law {f : Addr} {fd : FuncData} (F : Fun K "law" "law" s_law f fd) (T : Txt P w K mg C) (F_Pool_init : RIn P w K mg base C 1 ["self", "low", "high"] (sp_Pool_init C)) (F__law_cell : RFn P w K mg base 1 "_law_cell" ["script", "k"] sp__law_cell) (F__law_well : RFn P w K mg base 1 "_law_well" ["cell", "turn"] sp__law_well) (F__law_take : RFn P w K mg base 1 "_law_take" ["bag", "many"] sp__law_take) (F__law_a_deed : RFn P w K mg base 4 "_law_a_deed" ["bag", "own", "pool"] (sp__law_a_deed C)) (F__law_looked : RFn P w K mg base 4 "_law_looked" ["bag", "own", "pool"] (sp__law_looked C)) : FnOk P w K mg base CX0 5 f fd ["script"] (upSp K sp_law) := by
  refine' rfnok F sc_law (fun rs M Q h => ?len) (fun cdv A outer s H E hr => (pk_law (base := base) T F_Pool_init F__law_cell F__law_well F__law_take F__law_a_deed F__law_looked).2 f cdv A outer s H E hr) (fun rs M Q h => rd_law T F_Pool_init F__law_cell F__law_well F__law_take F__law_a_deed F__law_looked h)
  unfold sp_law at h; obtain ⟨ns, rfl, _⟩ := h; rfl
end
set_option maxHeartbeats 40000000 in
theorem all_mk {l : PySem.W.OpenLaw} {w : World} {K : PySem.W.Frag} {h : Heap} {mg : Str → Option Value} {fa : Addr} (X : K.In h) (G : h.Ns mainGlobals mg) (hfa : mg "law" = some (.ref fa))
    {C : Addr}
    (aC : PySem.W.nsIn K mainGlobals "Pool" = some (some (.ref C))) (pg : PySem.W.plainGet K C Str.empty = true) (hd : PySem.W.hasDictIn K C = true) (po : PySem.W.plainOver K C = true) (sa : PySem.W.findIn K (.ref C) "__setattr__" = some (some (.builtin "object.__setattr__"))) (mk : PySem.W.makesIn K C = true) (kc : PySem.W.keepIn K (.ref C) = true)
    (na_low : PySem.W.findIn K (.ref C) "low" = some none)
    (na_high : PySem.W.findIn K (.ref C) "high" = some none)
    (na_mark : PySem.W.findIn K (.ref C) "mark" = some none)
    (na_taken : PySem.W.findIn K (.ref C) "taken" = some none)
    (na_until : PySem.W.findIn K (.ref C) "until" = some none)
    {f0 : Addr} {od0 an0 : Option Addr} {sl0 : Array (Option Value)} {oc0 kV0 dc0 pm0 cd0 ct0 : Value}
    (a0 : PySem.W.nsIn K mainGlobals "_law_cell" = some (some (.ref f0)))
    (l0 : K.lookup f0 = some ⟨oc0, od0, .func (PySem.W.fnOf "_law_cell" "_law_cell" (defArgs s__law_cell) (defBody s__law_cell) (defScope s__law_cell) .none kV0 dc0 pm0 an0 cd0 ct0), sl0⟩) (c0 : PySem.W.codeIn K cd0 "_law_cell" = true) (k0 : PySem.W.keepIn K (.ref f0) = true)
    {f1 : Addr} {od1 an1 : Option Addr} {sl1 : Array (Option Value)} {oc1 kV1 dc1 pm1 cd1 ct1 : Value}
    (a1 : PySem.W.nsIn K mainGlobals "_law_take" = some (some (.ref f1)))
    (l1 : K.lookup f1 = some ⟨oc1, od1, .func (PySem.W.fnOf "_law_take" "_law_take" (defArgs s__law_take) (defBody s__law_take) (defScope s__law_take) .none kV1 dc1 pm1 an1 cd1 ct1), sl1⟩) (c1 : PySem.W.codeIn K cd1 "_law_take" = true) (k1 : PySem.W.keepIn K (.ref f1) = true)
    {f2 : Addr} {od2 an2 : Option Addr} {sl2 : Array (Option Value)} {oc2 kV2 dc2 pm2 cd2 ct2 : Value}
    (a2 : PySem.W.nsIn K mainGlobals "_law_whole" = some (some (.ref f2)))
    (l2 : K.lookup f2 = some ⟨oc2, od2, .func (PySem.W.fnOf "_law_whole" "_law_whole" (defArgs s__law_whole) (defBody s__law_whole) (defScope s__law_whole) .none kV2 dc2 pm2 an2 cd2 ct2), sl2⟩) (c2 : PySem.W.codeIn K cd2 "_law_whole" = true) (k2 : PySem.W.keepIn K (.ref f2) = true)
    {f3 : Addr} {od3 an3 : Option Addr} {sl3 : Array (Option Value)} {oc3 kV3 dc3 pm3 cd3 ct3 : Value}
    (a3 : PySem.W.findIn K (.ref C) "__init__" = some (some (.ref f3))) (i3 : PySem.W.isFn K (.ref f3) = true)
    (l3 : K.lookup f3 = some ⟨oc3, od3, .func (PySem.W.fnOf "__init__" "Pool.__init__" (defArgs s_Pool_init) (defBody s_Pool_init) (defScope s_Pool_init) .none kV3 dc3 pm3 an3 cd3 ct3), sl3⟩) (c3 : PySem.W.codeIn K cd3 "Pool.__init__" = true) (k3 : PySem.W.keepIn K (.ref f3) = true)
    {f4 : Addr} {od4 an4 : Option Addr} {sl4 : Array (Option Value)} {oc4 kV4 dc4 pm4 cd4 ct4 : Value}
    (a4 : PySem.W.findIn K (.ref C) "has" = some (some (.ref f4))) (i4 : PySem.W.isFn K (.ref f4) = true)
    (l4 : K.lookup f4 = some ⟨oc4, od4, .func (PySem.W.fnOf "has" "Pool.has" (defArgs s_Pool_has) (defBody s_Pool_has) (defScope s_Pool_has) .none kV4 dc4 pm4 an4 cd4 ct4), sl4⟩) (c4 : PySem.W.codeIn K cd4 "Pool.has" = true) (k4 : PySem.W.keepIn K (.ref f4) = true)
    {f5 : Addr} {od5 an5 : Option Addr} {sl5 : Array (Option Value)} {oc5 kV5 dc5 pm5 cd5 ct5 : Value}
    (a5 : PySem.W.findIn K (.ref C) "from_mark" = some (some (.ref f5))) (i5 : PySem.W.isFn K (.ref f5) = true)
    (l5 : K.lookup f5 = some ⟨oc5, od5, .func (PySem.W.fnOf "from_mark" "Pool.from_mark" (defArgs s_Pool_from_mark) (defBody s_Pool_from_mark) (defScope s_Pool_from_mark) .none kV5 dc5 pm5 an5 cd5 ct5), sl5⟩) (c5 : PySem.W.codeIn K cd5 "Pool.from_mark" = true) (k5 : PySem.W.keepIn K (.ref f5) = true)
    {f6 : Addr} {od6 an6 : Option Addr} {sl6 : Array (Option Value)} {oc6 kV6 dc6 pm6 cd6 ct6 : Value}
    (a6 : PySem.W.findIn K (.ref C) "take" = some (some (.ref f6))) (i6 : PySem.W.isFn K (.ref f6) = true)
    (l6 : K.lookup f6 = some ⟨oc6, od6, .func (PySem.W.fnOf "take" "Pool.take" (defArgs s_Pool_take) (defBody s_Pool_take) (defScope s_Pool_take) .none kV6 dc6 pm6 an6 cd6 ct6), sl6⟩) (c6 : PySem.W.codeIn K cd6 "Pool.take" = true) (k6 : PySem.W.keepIn K (.ref f6) = true)
    {f7 : Addr} {od7 an7 : Option Addr} {sl7 : Array (Option Value)} {oc7 kV7 dc7 pm7 cd7 ct7 : Value}
    (a7 : PySem.W.findIn K (.ref C) "give" = some (some (.ref f7))) (i7 : PySem.W.isFn K (.ref f7) = true)
    (l7 : K.lookup f7 = some ⟨oc7, od7, .func (PySem.W.fnOf "give" "Pool.give" (defArgs s_Pool_give) (defBody s_Pool_give) (defScope s_Pool_give) .none kV7 dc7 pm7 an7 cd7 ct7), sl7⟩) (c7 : PySem.W.codeIn K cd7 "Pool.give" = true) (k7 : PySem.W.keepIn K (.ref f7) = true)
    {f8 : Addr} {od8 an8 : Option Addr} {sl8 : Array (Option Value)} {oc8 kV8 dc8 pm8 cd8 ct8 : Value}
    (a8 : PySem.W.findIn K (.ref C) "resting" = some (some (.ref f8))) (i8 : PySem.W.isFn K (.ref f8) = true)
    (l8 : K.lookup f8 = some ⟨oc8, od8, .func (PySem.W.fnOf "resting" "Pool.resting" (defArgs s_Pool_resting) (defBody s_Pool_resting) (defScope s_Pool_resting) .none kV8 dc8 pm8 an8 cd8 ct8), sl8⟩) (c8 : PySem.W.codeIn K cd8 "Pool.resting" = true) (k8 : PySem.W.keepIn K (.ref f8) = true)
    {f9 : Addr} {od9 an9 : Option Addr} {sl9 : Array (Option Value)} {oc9 kV9 dc9 pm9 cd9 ct9 : Value}
    (a9 : PySem.W.nsIn K mainGlobals "_law_well" = some (some (.ref f9)))
    (l9 : K.lookup f9 = some ⟨oc9, od9, .func (PySem.W.fnOf "_law_well" "_law_well" (defArgs s__law_well) (defBody s__law_well) (defScope s__law_well) .none kV9 dc9 pm9 an9 cd9 ct9), sl9⟩) (c9 : PySem.W.codeIn K cd9 "_law_well" = true) (k9 : PySem.W.keepIn K (.ref f9) = true)
    {f10 : Addr} {od10 an10 : Option Addr} {sl10 : Array (Option Value)} {oc10 kV10 dc10 pm10 cd10 ct10 : Value}
    (a10 : PySem.W.nsIn K mainGlobals "_law_is_free" = some (some (.ref f10)))
    (l10 : K.lookup f10 = some ⟨oc10, od10, .func (PySem.W.fnOf "_law_is_free" "_law_is_free" (defArgs s__law_is_free) (defBody s__law_is_free) (defScope s__law_is_free) .none kV10 dc10 pm10 an10 cd10 ct10), sl10⟩) (c10 : PySem.W.codeIn K cd10 "_law_is_free" = true) (k10 : PySem.W.keepIn K (.ref f10) = true)
    {f11 : Addr} {od11 an11 : Option Addr} {sl11 : Array (Option Value)} {oc11 kV11 dc11 pm11 cd11 ct11 : Value}
    (a11 : PySem.W.findIn K (.ref C) "is_free" = some (some (.ref f11))) (i11 : PySem.W.isFn K (.ref f11) = true)
    (l11 : K.lookup f11 = some ⟨oc11, od11, .func (PySem.W.fnOf "is_free" "Pool.is_free" (defArgs s_Pool_is_free) (defBody s_Pool_is_free) (defScope s_Pool_is_free) .none kV11 dc11 pm11 an11 cd11 ct11), sl11⟩) (c11 : PySem.W.codeIn K cd11 "Pool.is_free" = true) (k11 : PySem.W.keepIn K (.ref f11) = true)
    {f12 : Addr} {od12 an12 : Option Addr} {sl12 : Array (Option Value)} {oc12 kV12 dc12 pm12 cd12 ct12 : Value}
    (a12 : PySem.W.nsIn K mainGlobals "_law_picked" = some (some (.ref f12)))
    (l12 : K.lookup f12 = some ⟨oc12, od12, .func (PySem.W.fnOf "_law_picked" "_law_picked" (defArgs s__law_picked) (defBody s__law_picked) (defScope s__law_picked) .none kV12 dc12 pm12 an12 cd12 ct12), sl12⟩) (c12 : PySem.W.codeIn K cd12 "_law_picked" = true) (k12 : PySem.W.keepIn K (.ref f12) = true)
    {f13 : Addr} {od13 an13 : Option Addr} {sl13 : Array (Option Value)} {oc13 kV13 dc13 pm13 cd13 ct13 : Value}
    (a13 : PySem.W.nsIn K mainGlobals "_law_some" = some (some (.ref f13)))
    (l13 : K.lookup f13 = some ⟨oc13, od13, .func (PySem.W.fnOf "_law_some" "_law_some" (defArgs s__law_some) (defBody s__law_some) (defScope s__law_some) .none kV13 dc13 pm13 an13 cd13 ct13), sl13⟩) (c13 : PySem.W.codeIn K cd13 "_law_some" = true) (k13 : PySem.W.keepIn K (.ref f13) = true)
    {f14 : Addr} {od14 an14 : Option Addr} {sl14 : Array (Option Value)} {oc14 kV14 dc14 pm14 cd14 ct14 : Value}
    (a14 : PySem.W.findIn K (.ref C) "picked" = some (some (.ref f14))) (i14 : PySem.W.isFn K (.ref f14) = true)
    (l14 : K.lookup f14 = some ⟨oc14, od14, .func (PySem.W.fnOf "picked" "Pool.picked" (defArgs s_Pool_picked) (defBody s_Pool_picked) (defScope s_Pool_picked) .none kV14 dc14 pm14 an14 cd14 ct14), sl14⟩) (c14 : PySem.W.codeIn K cd14 "Pool.picked" = true) (k14 : PySem.W.keepIn K (.ref f14) = true)
    {f15 : Addr} {od15 an15 : Option Addr} {sl15 : Array (Option Value)} {oc15 kV15 dc15 pm15 cd15 ct15 : Value}
    (a15 : PySem.W.findIn K (.ref C) "many_free" = some (some (.ref f15))) (i15 : PySem.W.isFn K (.ref f15) = true)
    (l15 : K.lookup f15 = some ⟨oc15, od15, .func (PySem.W.fnOf "many_free" "Pool.many_free" (defArgs s_Pool_many_free) (defBody s_Pool_many_free) (defScope s_Pool_many_free) .none kV15 dc15 pm15 an15 cd15 ct15), sl15⟩) (c15 : PySem.W.codeIn K cd15 "Pool.many_free" = true) (k15 : PySem.W.keepIn K (.ref f15) = true)
    {f16 : Addr} {od16 an16 : Option Addr} {sl16 : Array (Option Value)} {oc16 kV16 dc16 pm16 cd16 ct16 : Value}
    (a16 : PySem.W.nsIn K mainGlobals "_law_a_deed" = some (some (.ref f16)))
    (l16 : K.lookup f16 = some ⟨oc16, od16, .func (PySem.W.fnOf "_law_a_deed" "_law_a_deed" (defArgs s__law_a_deed) (defBody s__law_a_deed) (defScope s__law_a_deed) .none kV16 dc16 pm16 an16 cd16 ct16), sl16⟩) (c16 : PySem.W.codeIn K cd16 "_law_a_deed" = true) (k16 : PySem.W.keepIn K (.ref f16) = true)
    {f17 : Addr} {od17 an17 : Option Addr} {sl17 : Array (Option Value)} {oc17 kV17 dc17 pm17 cd17 ct17 : Value}
    (a17 : PySem.W.nsIn K mainGlobals "_law_looked" = some (some (.ref f17)))
    (l17 : K.lookup f17 = some ⟨oc17, od17, .func (PySem.W.fnOf "_law_looked" "_law_looked" (defArgs s__law_looked) (defBody s__law_looked) (defScope s__law_looked) .none kV17 dc17 pm17 an17 cd17 ct17), sl17⟩) (c17 : PySem.W.codeIn K cd17 "_law_looked" = true) (k17 : PySem.W.keepIn K (.ref f17) = true)
    {f18 : Addr} {od18 an18 : Option Addr} {sl18 : Array (Option Value)} {oc18 kV18 dc18 pm18 cd18 ct18 : Value}
    (a18 : PySem.W.nsIn K mainGlobals "law" = some (some (.ref f18)))
    (l18 : K.lookup f18 = some ⟨oc18, od18, .func (PySem.W.fnOf "law" "law" (defArgs s_law) (defBody s_law) (defScope s_law) .none kV18 dc18 pm18 an18 cd18 ct18), sl18⟩) (c18 : PySem.W.codeIn K cd18 "law" = true) (k18 : PySem.W.keepIn K (.ref f18) = true)
    (z_all : PySem.W.nsIn K mainGlobals "all" = some none)
    (z_bool : PySem.W.nsIn K mainGlobals "bool" = some none)
    (z_int : PySem.W.nsIn K mainGlobals "int" = some none)
    (z_isinstance : PySem.W.nsIn K mainGlobals "isinstance" = some none)
    (z_len : PySem.W.nsIn K mainGlobals "len" = some none)
    (z_list : PySem.W.nsIn K mainGlobals "list" = some none)
    (z_max : PySem.W.nsIn K mainGlobals "max" = some none)
    (z_range : PySem.W.nsIn K mainGlobals "range" = some none)
    (z_sorted : PySem.W.nsIn K mainGlobals "sorted" = some none)
    (z_tuple : PySem.W.nsIn K mainGlobals "tuple" = some none)
    : ∃ fd : FuncData, (∀ (s : Shared) (v : Value), BindsTo s fd ⟨[v], []⟩ [("script", v)]) ∧ ∀ base : Heap, K.In base → base.Ns mainGlobals mg → FnOk l.prog w K mg base CX0 5 fa fd ["script"] (upSp K sp_law) := by
  have e := hfa.symm.trans (PySem.W.mg_of X G a18)
  cases e
  have T : Txt l.prog w K mg C := ⟨⟨pg, hd, po, sa⟩, na_low, na_high, na_mark, na_taken, na_until, PySem.W.mg_of X G aC, PySem.W.mg_none_of X G z_all, PySem.W.mg_none_of X G z_bool, PySem.W.mg_none_of X G z_int, PySem.W.mg_none_of X G z_isinstance, PySem.W.mg_none_of X G z_len, PySem.W.mg_none_of X G z_list, PySem.W.mg_none_of X G z_max, PySem.W.mg_none_of X G z_range, PySem.W.mg_none_of X G z_sorted, PySem.W.mg_none_of X G z_tuple⟩
  have Fn0 := fun_mk (st := s__law_cell) l0 c0 k0
  have bn0 := Fn0.binds (ps := ["script", "k"]) fun _ _ _ _ _ _ us hl => match us, hl with | [_, _], _ => rfl
  have Fn1 := fun_mk (st := s__law_take) l1 c1 k1
  have bn1 := Fn1.binds (ps := ["bag", "many"]) fun _ _ _ _ _ _ us hl => match us, hl with | [_, _], _ => rfl
  have Fn2 := fun_mk (st := s__law_whole) l2 c2 k2
  have bn2 := Fn2.binds (ps := ["found"]) fun _ _ _ _ _ _ us hl => match us, hl with | [_], _ => rfl
  have Fn3 := fun_mk (st := s_Pool_init) l3 c3 k3
  have bn3 := Fn3.binds (ps := ["self", "low", "high"]) fun _ _ _ _ _ _ us hl => match us, hl with | [_, _, _], _ => rfl
  have Fn4 := fun_mk (st := s_Pool_has) l4 c4 k4
  have bn4 := Fn4.binds (ps := ["self", "number"]) fun _ _ _ _ _ _ us hl => match us, hl with | [_, _], _ => rfl
  have Fn5 := fun_mk (st := s_Pool_from_mark) l5 c5 k5
  have bn5 := Fn5.binds (ps := ["self"]) fun _ _ _ _ _ _ us hl => match us, hl with | [_], _ => rfl
  have Fn6 := fun_mk (st := s_Pool_take) l6 c6 k6
  have bn6 := Fn6.binds (ps := ["self", "number"]) fun _ _ _ _ _ _ us hl => match us, hl with | [_, _], _ => rfl
  have Fn7 := fun_mk (st := s_Pool_give) l7 c7 k7
  have bn7 := Fn7.binds (ps := ["self", "number", "until"]) fun _ _ _ _ _ _ us hl => match us, hl with | [_, _, _], _ => rfl
  have Fn8 := fun_mk (st := s_Pool_resting) l8 c8 k8
  have bn8 := Fn8.binds (ps := ["self", "moment"]) fun _ _ _ _ _ _ us hl => match us, hl with | [_, _], _ => rfl
  have Fn9 := fun_mk (st := s__law_well) l9 c9 k9
  have bn9 := Fn9.binds (ps := ["cell", "turn"]) fun _ _ _ _ _ _ us hl => match us, hl with | [_, _], _ => rfl
  have Fn10 := fun_mk (st := s__law_is_free) l10 c10 k10
  have bn10 := Fn10.binds (ps := ["own", "number"]) fun _ _ _ _ _ _ us hl => match us, hl with | [_, _], _ => rfl
  have Fn11 := fun_mk (st := s_Pool_is_free) l11 c11 k11
  have bn11 := Fn11.binds (ps := ["self", "number", "moment"]) fun _ _ _ _ _ _ us hl => match us, hl with | [_, _, _], _ => rfl
  have Fn12 := fun_mk (st := s__law_picked) l12 c12 k12
  have bn12 := Fn12.binds (ps := ["own", "way", "door"]) fun _ _ _ _ _ _ us hl => match us, hl with | [_, _, _], _ => rfl
  have Fn13 := fun_mk (st := s__law_some) l13 c13 k13
  have bn13 := Fn13.binds (ps := ["bag", "own"]) fun _ _ _ _ _ _ us hl => match us, hl with | [_, _], _ => rfl
  have Fn14 := fun_mk (st := s_Pool_picked) l14 c14 k14
  have bn14 := Fn14.binds (ps := ["self", "pick", "door", "moment"]) fun _ _ _ _ _ _ us hl => match us, hl with | [_, _, _, _], _ => rfl
  have Fn15 := fun_mk (st := s_Pool_many_free) l15 c15 k15
  have bn15 := Fn15.binds (ps := ["self", "moment"]) fun _ _ _ _ _ _ us hl => match us, hl with | [_, _], _ => rfl
  have Fn16 := fun_mk (st := s__law_a_deed) l16 c16 k16
  have bn16 := Fn16.binds (ps := ["bag", "own", "pool"]) fun _ _ _ _ _ _ us hl => match us, hl with | [_, _, _], _ => rfl
  have Fn17 := fun_mk (st := s__law_looked) l17 c17 k17
  have bn17 := Fn17.binds (ps := ["bag", "own", "pool"]) fun _ _ _ _ _ _ us hl => match us, hl with | [_, _, _], _ => rfl
  have Fn18 := fun_mk (st := s_law) l18 c18 k18
  have bn18 := Fn18.binds (ps := ["script"]) fun _ _ _ _ _ _ us hl => match us, hl with | [_], _ => rfl
  refine ⟨PySem.W.fnOf "law" "law" (defArgs s_law) (defBody s_law) (defScope s_law) .none kV18 dc18 pm18 an18 cd18 ct18, fun s v => .of_eq rfl, fun base kb nb => ?_⟩
  have G__law_cell : RFn l.prog w K mg base 1 "_law_cell" ["script", "k"] sp__law_cell := ⟨_, _, PySem.W.mg_of X G a0, Fn0.kp, bn0, fn__law_cell Fn0 T ⟩
  have G__law_take : RFn l.prog w K mg base 1 "_law_take" ["bag", "many"] sp__law_take := ⟨_, _, PySem.W.mg_of X G a1, Fn1.kp, bn1, fn__law_take Fn1 T ⟩
  have G__law_whole : RFn l.prog w K mg base 1 "_law_whole" ["found"] sp__law_whole := ⟨_, _, PySem.W.mg_of X G a2, Fn2.kp, bn2, fn__law_whole Fn2 T ⟩
  have G_Pool_init : RIn l.prog w K mg base C 1 ["self", "low", "high"] (sp_Pool_init C) := ⟨_, _, ⟨mk, a3, i3, kc⟩, bn3, fn_Pool_init Fn3 T ⟩
  have G_Pool_has : RMt l.prog w K mg base C 1 "has" ["self", "number"] (sp_Pool_has C) := ⟨_, _, ⟨a4, i4, k4⟩, bn4, fn_Pool_has Fn4 T ⟩
  have G_Pool_from_mark : RMt l.prog w K mg base C 1 "from_mark" ["self"] (sp_Pool_from_mark C) := ⟨_, _, ⟨a5, i5, k5⟩, bn5, fn_Pool_from_mark Fn5 T ⟩
  have G_Pool_take : RMt l.prog w K mg base C 1 "take" ["self", "number"] (sp_Pool_take C) := ⟨_, _, ⟨a6, i6, k6⟩, bn6, fn_Pool_take Fn6 T ⟩
  have G_Pool_give : RMt l.prog w K mg base C 1 "give" ["self", "number", "until"] (sp_Pool_give C) := ⟨_, _, ⟨a7, i7, k7⟩, bn7, fn_Pool_give Fn7 T ⟩
  have G_Pool_resting : RMt l.prog w K mg base C 1 "resting" ["self", "moment"] (sp_Pool_resting C) := ⟨_, _, ⟨a8, i8, k8⟩, bn8, fn_Pool_resting Fn8 T ⟩
  have G__law_well : RFn l.prog w K mg base 1 "_law_well" ["cell", "turn"] sp__law_well := ⟨_, _, PySem.W.mg_of X G a9, Fn9.kp, bn9, fn__law_well Fn9 T ⟩
  have G__law_is_free : RFn l.prog w K mg base 1 "_law_is_free" ["own", "number"] sp__law_is_free := ⟨_, _, PySem.W.mg_of X G a10, Fn10.kp, bn10, fn__law_is_free Fn10 T ⟩
  have G_Pool_is_free : RMt l.prog w K mg base C 2 "is_free" ["self", "number", "moment"] (sp_Pool_is_free C) := ⟨_, _, ⟨a11, i11, k11⟩, bn11, fn_Pool_is_free Fn11 T G_Pool_has⟩
  have G__law_picked : RFn l.prog w K mg base 2 "_law_picked" ["own", "way", "door"] sp__law_picked := ⟨_, _, PySem.W.mg_of X G a12, Fn12.kp, bn12, fn__law_picked Fn12 T G__law_is_free⟩
  have G__law_some : RFn l.prog w K mg base 2 "_law_some" ["bag", "own"] sp__law_some := ⟨_, _, PySem.W.mg_of X G a13, Fn13.kp, bn13, fn__law_some Fn13 T G__law_take⟩
  have G_Pool_picked : RMt l.prog w K mg base C 3 "picked" ["self", "pick", "door", "moment"] (sp_Pool_picked C) := ⟨_, _, ⟨a14, i14, k14⟩, bn14, fn_Pool_picked Fn14 T G_Pool_from_mark G_Pool_is_free⟩
  have G_Pool_many_free : RMt l.prog w K mg base C 3 "many_free" ["self", "moment"] (sp_Pool_many_free C) := ⟨_, _, ⟨a15, i15, k15⟩, bn15, fn_Pool_many_free Fn15 T G_Pool_is_free⟩
  have G__law_a_deed : RFn l.prog w K mg base 4 "_law_a_deed" ["bag", "own", "pool"] (sp__law_a_deed C) := ⟨_, _, PySem.W.mg_of X G a16, Fn16.kp, bn16, fn__law_a_deed Fn16 T G_Pool_give G_Pool_picked G_Pool_take G__law_take G__law_picked G__law_some⟩
  have G__law_looked : RFn l.prog w K mg base 4 "_law_looked" ["bag", "own", "pool"] (sp__law_looked C) := ⟨_, _, PySem.W.mg_of X G a17, Fn17.kp, bn17, fn__law_looked Fn17 T G_Pool_is_free G_Pool_many_free G_Pool_resting G__law_whole G__law_is_free G__law_some⟩
  exact fn_law Fn18 T G_Pool_init G__law_cell G__law_well G__law_take G__law_a_deed G__law_looked
theorem walk {l : PySem.W.OpenLaw} {q : Program} {loose : List Str} {XP : (Str → Option Value) → Heap → Prop} {YP : World → Heap → Prop} {d : DefRec} {K : Params → PySem.W.Frag} (hn : l.most = some 63) (hdf : d.params.defaults = [])
    (hY : ∀ (w : World) (h : Heap), YP w h → (K w.params).In h)
    (F : ∀ (w : World) (mg : Str → Option Value) (fa : Addr) (h : Heap), (K w.params).In h → h.Ns mainGlobals mg → mg d.name = some (.ref fa) →
      ∃ fd : FuncData, (∀ (s : Shared) (u : Value), BindsTo s fd ⟨[u], []⟩ [("script", u)]) ∧ ∀ base : Heap, (K w.params).In base → base.Ns mainGlobals mg → FnOk l.prog w (K w.params) mg base CX0 5 fa fd ["script"] (upSp (K w.params) sp_law)) :
    PySem.W.WalkO q loose XP YP l.row.toRowW d [] (fun f vs => PySem.call f vs) :=
  L2.walk_of (n := 63) (k := 5) (x := "script") (CX := fun _ => CX0) (sp := fun w => upSp (K w.params) sp_law) hn (by decide) hdf ⟨rfl, by decide, by decide⟩ hY F (fun _ _ a ns hl hO hS => law_in hO hS (law_start ns hl)) fun _ _ _ _ _ z => z
end K05
open PySem PySem.W PyProof.Rows
set_option maxRecDepth 100000 in
set_option maxHeartbeats 0 in
theorem PySem.Challenge.cw_lentgate_k05_numbers_picked_and_given_ba_holds : PySem.Challenge.rw_lentgate_k05_numbers_picked_and_given_ba.Holds := by
  w_on; o_law; k_head; (case hw => w_witness2)
  k_fill
  refine K05.walk (l := PySem.Challenge.rw_lentgate_k05_numbers_picked_and_given_ba) rfl rfl (fun w h Y => PySem.W.kIn_of Y) ?F
  case F =>
    intro w mg fa h KX G hmg
    refine' K05.all_mk KX G hmg ?aC ?pg ?hd ?po ?sa ?mk ?kc ?na_low ?na_high ?na_mark ?na_taken ?na_until ?a0 ?l0 ?c0 ?k0 ?a1 ?l1 ?c1 ?k1 ?a2 ?l2 ?c2 ?k2 ?a3 ?i3 ?l3 ?c3 ?k3 ?a4 ?i4 ?l4 ?c4 ?k4 ?a5 ?i5 ?l5 ?c5 ?k5 ?a6 ?i6 ?l6 ?c6 ?k6 ?a7 ?i7 ?l7 ?c7 ?k7 ?a8 ?i8 ?l8 ?c8 ?k8 ?a9 ?l9 ?c9 ?k9 ?a10 ?l10 ?c10 ?k10 ?a11 ?i11 ?l11 ?c11 ?k11 ?a12 ?l12 ?c12 ?k12 ?a13 ?l13 ?c13 ?k13 ?a14 ?i14 ?l14 ?c14 ?k14 ?a15 ?i15 ?l15 ?c15 ?k15 ?a16 ?l16 ?c16 ?k16 ?a17 ?l17 ?c17 ?k17 ?a18 ?l18 ?c18 ?k18 ?z_all ?z_bool ?z_int ?z_isinstance ?z_len ?z_list ?z_max ?z_range ?z_sorted ?z_tuple
    (case aC => k_is)
    (case pg => k_is)
    (case hd => k_is)
    (case po => k_is)
    (case sa => k_is)
    (case mk => k_is)
    (case kc => k_is)
    (case na_low => k_is)
    (case na_high => k_is)
    (case na_mark => k_is)
    (case na_taken => k_is)
    (case na_until => k_is)
    (case a0 => k_is)
    (case l0 => k_is)
    (case c0 => k_is)
    (case k0 => k_is)
    (case a1 => k_is)
    (case l1 => k_is)
    (case c1 => k_is)
    (case k1 => k_is)
    (case a2 => k_is)
    (case l2 => k_is)
    (case c2 => k_is)
    (case k2 => k_is)
    (case a3 => k_is)
    (case i3 => k_is)
    (case l3 => k_is)
    (case c3 => k_is)
    (case k3 => k_is)
    (case a4 => k_is)
    (case i4 => k_is)
    (case l4 => k_is)
    (case c4 => k_is)
    (case k4 => k_is)
    (case a5 => k_is)
    (case i5 => k_is)
    (case l5 => k_is)
    (case c5 => k_is)
    (case k5 => k_is)
    (case a6 => k_is)
    (case i6 => k_is)
    (case l6 => k_is)
    (case c6 => k_is)
    (case k6 => k_is)
    (case a7 => k_is)
    (case i7 => k_is)
    (case l7 => k_is)
    (case c7 => k_is)
    (case k7 => k_is)
    (case a8 => k_is)
    (case i8 => k_is)
    (case l8 => k_is)
    (case c8 => k_is)
    (case k8 => k_is)
    (case a9 => k_is)
    (case l9 => k_is)
    (case c9 => k_is)
    (case k9 => k_is)
    (case a10 => k_is)
    (case l10 => k_is)
    (case c10 => k_is)
    (case k10 => k_is)
    (case a11 => k_is)
    (case i11 => k_is)
    (case l11 => k_is)
    (case c11 => k_is)
    (case k11 => k_is)
    (case a12 => k_is)
    (case l12 => k_is)
    (case c12 => k_is)
    (case k12 => k_is)
    (case a13 => k_is)
    (case l13 => k_is)
    (case c13 => k_is)
    (case k13 => k_is)
    (case a14 => k_is)
    (case i14 => k_is)
    (case l14 => k_is)
    (case c14 => k_is)
    (case k14 => k_is)
    (case a15 => k_is)
    (case i15 => k_is)
    (case l15 => k_is)
    (case c15 => k_is)
    (case k15 => k_is)
    (case a16 => k_is)
    (case l16 => k_is)
    (case c16 => k_is)
    (case k16 => k_is)
    (case a17 => k_is)
    (case l17 => k_is)
    (case c17 => k_is)
    (case k17 => k_is)
    (case a18 => k_is)
    (case l18 => k_is)
    (case c18 => k_is)
    (case k18 => k_is)
    (case z_all => k_is)
    (case z_bool => k_is)
    (case z_int => k_is)
    (case z_isinstance => k_is)
    (case z_len => k_is)
    (case z_list => k_is)
    (case z_max => k_is)
    (case z_range => k_is)
    (case z_sorted => k_is)
    (case z_tuple => k_is)
