import PyProof.Rows.All
import Wide.All
import OpenK.AllK
import Wide.FinOn
import Lean
import PyProof.EqAt
import PyProof.EqKinds
import PyProof.TupleCall
import PyProof.NeKinds
import PyProof.ZipIter
import PySem.Challenge.RW_lentgate_k02_deeds_of_any_form
section
set_option Elab.async false
set_option linter.all false
set_option maxRecDepth 100000
namespace L2
open PySem PySem.Spec PyProof.Rows
abbrev Key := Sum Int Str
def keyIs : Key → Value → Bool
  | .inl k, v => Value.isInt k v
  | .inr x, v => Value.isStrOf x v
def keyH (w : World) : Key → Int
  | .inl k => hashInt k
  | .inr x => hashStr w x
theorem keyIs_shape : ∀ {k : Key} {v : Value}, keyIs k v = true → (∃ i t, k = Sum.inl i ∧ v = Value.int i t) ∨ (∃ x t, k = Sum.inr x ∧ v = Value.str x t)
  | .inl i, v, h => by
    obtain ⟨t, e⟩ := Value.isInt_shape (k := i) (v := v) h
    exact .inl ⟨i, t, rfl, e⟩
  | .inr x, v, h => by
    obtain ⟨t, e⟩ := Value.isStrOf_shape (x := x) (v := v) h
    exact .inr ⟨x, t, rfl, e⟩
theorem keyIs_int (i : Int) (t : Tok) : keyIs (.inl i) (.int i t) = true := by simp [keyIs, Value.isInt]
theorem keyIs_str (x : Str) (t : Tok) : keyIs (.inr x) (.str x t) = true := by simp [keyIs, Value.isStrOf]
theorem key_ll (a b : Int) : decide ((Sum.inl a : Key) = Sum.inl b) = (a == b) := by
  by_cases e : a = b
  · subst e; simp
  · have h : ¬ (Sum.inl a : Key) = Sum.inl b := fun q => e (Sum.inl.inj q)
    rw [decide_eq_false h]
    exact (beq_eq_false_iff_ne.mpr e).symm
theorem key_rr (a b : Str) : decide ((Sum.inr a : Key) = Sum.inr b) = decide (a = b) := by
  by_cases e : a = b
  · subst e; simp
  · have h : ¬ (Sum.inr a : Key) = Sum.inr b := fun q => e (Sum.inr.inj q)
    rw [decide_eq_false h, decide_eq_false e]
theorem key_lr (a : Int) (b : Str) : decide ((Sum.inl a : Key) = Sum.inr b) = false := decide_eq_false (fun q => nomatch q)
theorem key_rl (a : Str) (b : Int) : decide ((Sum.inr a : Key) = Sum.inl b) = false := decide_eq_false (fun q => nomatch q)
def mixKind (prog : Program) (w : World) : PySem.KeyKind prog w Key where
  is := keyIs
  hash := keyH w
  inj := fun v a b ha hb => by
    rcases keyIs_shape ha with ⟨i, t, rfl, rfl⟩ | ⟨x, t, rfl, rfl⟩
    · rcases keyIs_shape hb with ⟨j, u, rfl, e⟩ | ⟨y, u, rfl, e⟩
      · injection e with e1 _; rw [e1]
      · exact nomatch e
    · rcases keyIs_shape hb with ⟨j, u, rfl, e⟩ | ⟨y, u, rfl, e⟩
      · exact nomatch e
      · injection e with e1 _; rw [e1]
  byValue := fun k v h => by
    rcases keyIs_shape h with ⟨i, t, rfl, rfl⟩ | ⟨x, t, rfl, rfl⟩ <;> rfl
  pyHash := fun hv h => by
    rcases keyIs_shape hv with ⟨i, t, rfl, rfl⟩ | ⟨x, t, rfl, rfl⟩
    · exact wpAny_pyHash_int h
    · exact wpAny_pyHash_str h
  eqBool := fun hu hv h => by
    rcases keyIs_shape hu with ⟨i, t, rfl, rfl⟩ | ⟨x, t, rfl, rfl⟩
    · rcases keyIs_shape hv with ⟨j, u, rfl, rfl⟩ | ⟨y, u, rfl, rfl⟩
      · rw [key_ll] at h; exact wpAny_eqBool_int h
      · rw [key_lr] at h; exact SeqAt.EqAt.int_str i t y u _ _ _ _ h
    · rcases keyIs_shape hv with ⟨j, u, rfl, rfl⟩ | ⟨y, u, rfl, rfl⟩
      · rw [key_rl] at h; exact SeqAt.EqAt.str_int x t j u _ _ _ _ h
      · rw [key_rr] at h; exact wpAny_eqBool_str h
  «strs» := fun k x t v h => by
    rcases keyIs_shape h with ⟨i, u, rfl, e⟩ | ⟨y, u, rfl, e⟩
    · exact nomatch e
    · injection e with e1 _
      subst e1
      cases v <;> rfl
theorem mixKind_int (prog : Program) (w : World) (i : Int) (t : Tok) : (mixKind prog w).is (.inl i) (.int i t) = true := keyIs_int i t
theorem mixKind_str (prog : Program) (w : World) (x : Str) (t : Tok) : (mixKind prog w).is (.inr x) (.str x t) = true := keyIs_str x t
end L2
namespace L2
open PySem PySem.Spec PyProof.Rows
inductive V where
  | non | bl (b : Bool) | int (i : Int) | str (x : Str) | byt (b : Array UInt8) | flt (b : UInt64) | ref (a : Addr) | ty (n : String)
  deriving DecidableEq
def RelV : V → Value → Prop
  | .non, u => u = Value.none
  | .bl b, u => u = Value.bool b
  | .int i, u => ∃ t, u = Value.int i t
  | .str x, u => ∃ t, u = Value.str x t
  | .byt b, u => ∃ t, u = Value.bytes b t
  | .flt b, u => ∃ t, u = Value.float b t
  | .ref a, u => u = Value.ref a
  | .ty n, u => u = Value.type n
abbrev Vals : List V → List Value → Prop := Paired RelV
theorem Vals.length {xs : List V} {us : List Value} (r : Vals xs us) : xs.length = us.length := Paired.length r
theorem Vals.get : ∀ {xs : List V} {us : List Value} {i : Nat} {x : V}, Vals xs us → xs[i]? = some x → ∃ u, us[i]? = some u ∧ RelV x u
  | _, _, _, _, .nil, e => by simp at e
  | _, _, 0, _, .cons r _, e => by simp at e; subst e; exact ⟨_, rfl, r⟩
  | _, _, i + 1, x, .cons _ t, e => by
    obtain ⟨u, h1, h2⟩ := Vals.get (i := i) (x := x) t (by simpa using e)
    exact ⟨u, by simpa using h1, h2⟩
theorem Vals.set {x : V} {u : Value} (r : RelV x u) : ∀ {xs : List V} {us : List Value} (i : Nat), Vals xs us → Vals (xs.set i x) (us.set i u)
  | _, _, _, .nil => .nil
  | _, _, 0, .cons _ t => .cons r t
  | _, _, i + 1, .cons q t => .cons q (Vals.set r i t)
theorem Vals.append : ∀ {xs ys : List V} {us ws : List Value}, Vals xs us → Vals ys ws → Vals (xs ++ ys) (us ++ ws)
  | _, _, _, _, .nil, s => s
  | _, _, _, _, .cons r t, s => .cons r (Vals.append t s)
theorem Vals.take : ∀ {xs : List V} {us : List Value} (n : Nat), Vals xs us → Vals (xs.take n) (us.take n)
  | _, _, 0, _ => .nil
  | _, _, _ + 1, .nil => .nil
  | _, _, n + 1, .cons r t => .cons r (Vals.take n t)
theorem Vals.drop : ∀ {xs : List V} {us : List Value} (n : Nat), Vals xs us → Vals (xs.drop n) (us.drop n)
  | _, _, 0, r => r
  | _, _, _ + 1, .nil => .nil
  | _, _, n + 1, .cons _ t => Vals.drop n t
def RelO : Option V → Option Value → Prop
  | some v, some u => RelV v u
  | none, none => True
  | _, _ => False
def KV {κ : Type} : List (κ × V) → List (κ × Value) → Prop := Paired fun (p : κ × V) (q : κ × Value) => p.1 = q.1 ∧ RelV p.2 q.2
def kV : Key → V
  | .inl i => .int i
  | .inr x => .str x
inductive HO where
  /-- a list -/
  | lst (xs : List V)
  /-- a tuple (never changes) -/
  | tup (xs : List V)
  /-- a dict whose keys are ints and texts; one whose keys are tuples of ints and texts (the empty one is both) -/
  | dK (kvs : List (Key × V)) | dT (kvs : List (List Key × V))
  /-- a set of ints: its members, its size -/
  | set (S : Int → Bool) (n : Nat)
  /-- an instance of the class at C, its dict at dx, its attributes -/
  | ins (C dx : Addr) (fs : List (Str × V))
  /-- the dict of the instance at x -/
  | own (x : Addr)
  /-- the dict of an exception -/
  | xd (fs : List (Str × V))
  /-- a bound method, f of x -/
  | met (f x : Addr)
  /-- a range object lo, lo + 1, .. below hi -/
  | rng (lo hi : Int)
  /-- a thing that is known to the object (the script; a dict while a loop walks it): read, never written while it is so -/
  | frz (o : Obj) (u : HO)
  /-- a code object's table -/
  | tbl (ps : Array Value)
  /-- any other thing, by what is true of its one object (a def of one's own: SetO a S n := HO.ext fun h => ..) -/
  | ext (φ : Heap → Prop)
abbrev Hp := Addr → Option HO
def upd (H : Hp) (a : Addr) (o : HO) : Hp := fun b => if b = a then some o else H b
theorem upd_same {H : Hp} {a : Addr} {o : HO} : upd H a o a = some o := by unfold upd; rw [if_pos rfl]
theorem upd_ne {H : Hp} {a b : Addr} {o : HO} (h : b ≠ a) : upd H a o b = H b := by unfold upd; rw [if_neg h]
theorem upd_upd {H : Hp} {a : Addr} {o u : HO} : upd (upd H a o) a u = upd H a u := by
  funext b; unfold upd; split <;> rfl
theorem ne_of {H : Hp} {a b : Addr} {o u : HO} (h : H a = some o) (h' : H b = some u) (d : o ≠ u) : a ≠ b := by
  intro e; subst e; rw [h] at h'; exact d (Option.some.inj h')
theorem ne_of_none {H : Hp} {a b : Addr} {o : HO} (h : H a = some o) (h' : H b = none) : a ≠ b := by
  intro e; subst e; rw [h] at h'; cases h'
section
variable (P : Program) (w : World)
def ObjOk (H : Hp) (h : Heap) (a : Addr) : HO → Prop
  | .lst xs => xs.length ≤ sizeLine ∧ ∃ (its : List Value) (n : Nat), Vals xs its ∧ h.get? a = some { cls := .type "list", data := .seq its.toArray n }
  | .tup xs => xs.length ≤ sizeLine ∧ ∃ its : List Value, Vals xs its ∧ IsTup h a its.toArray
  | .dK kvs => kvs.length ≤ sizeLine ∧ (a == sysModules) = false ∧ ∃ vs, KV kvs vs ∧ h.DictOf (mixKind P w) a vs
  | .dT kvs => kvs.length ≤ sizeLine ∧ (a == sysModules) = false ∧ ∃ xs : List (List Key × Addr × Value),
      Paired (fun (p : List Key × V) (q : List Key × Addr × Value) => p.1 = q.1 ∧ H q.2.1 = some (.tup (p.1.map kV)) ∧ RelV p.2 q.2.2) kvs xs ∧
      ∃ o es ep, h.get? a = some o ∧ o.ExactDict ∧ o.data = .dict es ep ∧ es.toList = xs.map (entryOfKey (tupleKind (mixKind P w))) ∧ (xs.map (·.1)).Nodup
  | .set S n => h.SetOf (intKind P w) a S n
  | .ins C dx fs => H dx = some (.own a) ∧ fs.length ≤ 1000 ∧ dx ≠ a ∧ h.get? a = some (PySem.W.instObj C dx) ∧
      ∃ mA, h.Ns1 dx mA ∧ (∀ f, RelO (fs.lookup f) (mA f)) ∧ PySem.Within mA (fs.map (·.1))
  | .own _ => ∃ o, h.get? a = some o
  | .xd fs => ∃ mA, h.Ns1 a mA ∧ ∀ f, RelO (fs.lookup f) (mA f)
  | .rng lo hi => ∃ t u v, h.get? a = some { cls := .type "range", data := .fields #[.int lo t, .int hi u, .int 1 v] }
  | .frz o u => h.get? a = some o ∧ ObjOk H h a u
  | .tbl ps => h.get? a = some { cls := .none, data := .fields ps }
  | .met f x => h.get? a = some (PySem.W.methodObj (.ref f) (.ref x))
  | .ext φ => φ h ∧ (∃ o, h.get? a = some o) ∧ ∀ h1 h2 : Heap, φ h1 → (∀ o, h1.get? a = some o → h2.get? a = some o) → φ h2
def HOk (H : Hp) (h : Heap) : Prop := ∀ a o, H a = some o → ObjOk P w H h a o
end
section
variable {P : Program} {w : World} {H H' : Hp} {h h' : Heap} {a : Addr} {o : HO}
theorem ObjOk.lt (x : ObjOk P w H h a o) : a < h.objs.size := by
  cases o with
  | lst xs => obtain ⟨_, _, _, _, e⟩ := x; exact Heap.lt_size e
  | tup xs => obtain ⟨_, _, _, p⟩ := x; exact p.lt
  | dK kvs => obtain ⟨_, _, _, _, o, _, _, e, _⟩ := x; exact Heap.lt_size e
  | dT kvs => obtain ⟨_, _, _, _, o, _, _, e, _⟩ := x; exact Heap.lt_size e
  | set S n => obtain ⟨o, _, _, _, e, _⟩ := x; exact Heap.lt_size e
  | ins C dx fs => obtain ⟨_, _, _, e, _⟩ := x; exact Heap.lt_size e
  | own y => obtain ⟨_, e⟩ := x; exact Heap.lt_size e
  | xd fs => obtain ⟨_, ⟨_, _, _, e, _⟩, _⟩ := x; exact Heap.lt_size e
  | rng lo hi => obtain ⟨_, _, _, e⟩ := x; exact Heap.lt_size e
  | frz ob u => obtain ⟨e, _⟩ := x; exact Heap.lt_size e
  | tbl ps => exact Heap.lt_size (show h.get? a = some _ from x)
  | met f y => exact Heap.lt_size (show h.get? a = some _ from x)
  | ext φ => obtain ⟨_, ⟨_, e⟩, _⟩ := x; exact Heap.lt_size e
theorem Paired.mapP {α β : Type} {F G : α → β → Prop} : ∀ {l₁ : List α} {l₂ : List β}, Paired F l₁ l₂ → (∀ a b, F a b → G a b) → Paired G l₁ l₂
  | _, _, .nil, _ => .nil
  | _, _, .cons r t, f => .cons (f _ _ r) (Paired.mapP t f)
theorem ObjOk.stay (x : ObjOk P w H h a o) (k : ∀ b u, (b = a ∨ H b = some (.own a)) → h.get? b = some u → h'.get? b = some u)
    (ho : ∀ b, H b = some (.own a) → H' b = some (.own a)) (ht : ∀ b xs, H b = some (.tup xs) → H' b = some (.tup xs)) : ObjOk P w H' h' a o := by
  induction o with
  | lst xs => obtain ⟨z, its, n, r, e⟩ := x; exact ⟨z, its, n, r, k _ _ (.inl rfl) e⟩
  | tup xs => obtain ⟨z, its, r, ob, e, c⟩ := x; exact ⟨z, its, r, ob, k _ _ (.inl rfl) e, c⟩
  | dK kvs => obtain ⟨z, y, vs, r, ob, es, ep, e, c⟩ := x; exact ⟨z, y, vs, r, ob, es, ep, k _ _ (.inl rfl) e, c⟩
  | dT kvs =>
    obtain ⟨z, y, xs, r, ob, es, ep, e, c⟩ := x
    exact ⟨z, y, xs, Paired.mapP r fun p q z => ⟨z.1, ht _ _ z.2.1, z.2.2⟩, ob, es, ep, k _ _ (.inl rfl) e, c⟩
  | set S n => obtain ⟨ob, es, ep, t, e, c⟩ := x; exact ⟨ob, es, ep, t, k _ _ (.inl rfl) e, c⟩
  | ins C dx fs =>
    obtain ⟨d, z, ne, e, mA, ⟨od, es, ep, e2, c⟩, r⟩ := x
    exact ⟨ho _ d, z, ne, k _ _ (.inl rfl) e, mA, ⟨od, es, ep, k _ _ (.inr d) e2, c⟩, r⟩
  | own y => obtain ⟨ob, e⟩ := x; exact ⟨ob, k _ _ (.inl rfl) e⟩
  | xd fs => obtain ⟨mA, ⟨od, es, ep, e, c⟩, r⟩ := x; exact ⟨mA, ⟨od, es, ep, k _ _ (.inl rfl) e, c⟩, r⟩
  | rng lo hi => obtain ⟨t, u, v, e⟩ := x; exact ⟨t, u, v, k _ _ (.inl rfl) e⟩
  | frz ob u ih => obtain ⟨e, q⟩ := x; exact ⟨k _ _ (.inl rfl) e, ih q⟩
  | tbl ps =>
    have e : h.get? a = some { cls := .none, data := .fields ps } := x
    show h'.get? a = some { cls := .none, data := .fields ps }
    exact k a _ (.inl rfl) e
  | met f y =>
    have e : h.get? a = some (PySem.W.methodObj (.ref f) (.ref y)) := x
    show h'.get? a = some (PySem.W.methodObj (.ref f) (.ref y))
    exact k a _ (.inl rfl) e
  | ext φ => obtain ⟨p, ⟨o, e⟩, st⟩ := x; exact ⟨st _ _ p fun o q => k _ _ (.inl rfl) q, ⟨o, k _ _ (.inl rfl) e⟩, st⟩
theorem HOk.lt (x : HOk P w H h) (e : H a = some o) : a < h.objs.size := (x a o e).lt
theorem HOk.fresh (x : HOk P w H h) (e : h.objs.size ≤ a) : H a = none := by
  cases q : H a with
  | none => rfl
  | some u => exact absurd (Nat.lt_of_lt_of_le (x.lt q) e) (Nat.lt_irrefl _)
theorem HOk.kept (x : HOk P w H h) (k : ∀ b u, h.get? b = some u → h'.get? b = some u) : HOk P w H h' := fun a o e =>
  (x a o e).stay (fun b u _ q => k b u q) (fun _ q => q) fun _ _ q => q
theorem HOk.laid (x : HOk P w H h) (k : ∀ b u, h.get? b = some u → h'.get? b = some u) (hp : h.objs.size ≤ a) (new : ObjOk P w (upd H a o) h' a o) : HOk P w (upd H a o) h' := fun b u e => by
  have hn := x.fresh hp
  by_cases hb : b = a
  · subst hb; rw [upd_same] at e; cases e; exact new
  · rw [upd_ne hb] at e
    exact (x b u e).stay (fun c v _ q => k c v q) (fun c q => by rw [upd_ne (ne_of_none q hn)]; exact q) fun c xs q => by rw [upd_ne (ne_of_none q hn)]; exact q
end
def Rd (H : Hp) (a : Addr) (u : HO) : Prop := H a = some u ∨ ∃ o, H a = some (.frz o u)
theorem Rd.of {H : Hp} {a : Addr} {u : HO} (h : H a = some u) : Rd H a u := .inl h
theorem Rd.ok {P : Program} {w : World} {H : Hp} {h : Heap} {a : Addr} {u : HO} (r : Rd H a u) (x : HOk P w H h) : ObjOk P w H h a u := by
  rcases r with r | ⟨o, r⟩
  · exact x a u r
  · obtain ⟨_, q⟩ := x a _ r
    exact q
def Mut : Option HO → Prop
  | some (.lst _) => True
  | some (.dK _) => True
  | some (.dT _) => True
  | some (.set _ _) => True
  | some (.ins _ _ _) => True
  | some (.ext _) => True
  | _ => False
section
variable {P : Program} {w : World} {H : Hp} {h h' : Heap} {x e : Addr} {o' : HO}
theorem HOk.write (ok : HOk P w H h) (mu : Mut (H x)) (he : e = x ∨ H e = some (.own x)) (k : ∀ b u, b ≠ e → h.get? b = some u → h'.get? b = some u) (heo : ∃ u, h'.get? e = some u)
    (new : ObjOk P w (upd H x o') h' x o') : HOk P w (upd H x o') h' := fun b u q => by
  have nown : ∀ c y, H c = some (.own y) → c ≠ x := fun c y r z => by subst z; rw [r] at mu; exact mu
  have ntup : ∀ c xs, H c = some (.tup xs) → c ≠ x := fun c xs r z => by subst z; rw [r] at mu; exact mu
  by_cases hb : b = x
  · subst hb; rw [upd_same] at q; cases q; exact new
  · rw [upd_ne hb] at q
    by_cases hbe : b = e
    · have q' : H b = some (.own x) := by
        rcases he with z | z
        · exact absurd (hbe.trans z) hb
        · rw [hbe]; exact z
      rw [q] at q'; cases q'
      obtain ⟨v, hv⟩ := heo
      exact ⟨v, by rw [hbe]; exact hv⟩
    · refine (ok b u q).stay (fun c v hc r => k c v ?_ r) (fun c r => by rw [upd_ne (nown c b r)]; exact r) fun c xs r => by rw [upd_ne (ntup c xs r)]; exact r
      rcases hc with rfl | hc
      · exact hbe
      · rintro rfl
        rcases he with z | z
        · exact nown c b hc z
        · rw [hc] at z; cases z; exact hb rfl
end
structure Un (fs ex : List Addr) (H H' : Hp) (h h' : Heap) : Prop where
  keep : ∀ b o, h.get? b = some o → H b = none → b ∉ fs → b ∉ ex → h'.get? b = some o
  slot : ∀ b o, h.get? b = some o → H b = none → b ∈ fs → b ∉ ex → ∃ sl, h'.get? b = some { o with slots := sl }
  free : ∀ b o, h.get? b = some o → H b = none → b ∉ ex → H' b = none
  there : ∀ b o, h.get? b = some o → b ∉ ex → ∃ o', h'.get? b = some o'
  tups : ∀ b xs, H b = some (.tup xs) → H' b = some (.tup xs)
  frzs : ∀ b o u, H b = some (.frz o u) → H' b = some (.frz o u)
  tbls : ∀ b ps, H b = some (.tbl ps) → ∃ more, H' b = some (.tbl (ps ++ more))
section
variable {fs fs' ex ex' : List Addr} {H H1 H2 : Hp} {h h1 h2 h' : Heap} {a x e : Addr} {o : HO}
theorem Un.any (u : Un fs ex H H1 h h1) {b : Addr} {ob : Obj} (q : h.get? b = some ob) (n : H b = none) (hx : b ∉ ex) : ∃ sl, h1.get? b = some { ob with slots := sl } := by
  by_cases hb : b ∈ fs
  · exact u.slot b ob q n hb hx
  · exact ⟨ob.slots, u.keep b ob q n hb hx⟩
theorem Un.trans (a : Un fs ex H H1 h h1) (b : Un fs ex H1 H2 h1 h2) : Un fs ex H H2 h h2 where
  keep := fun c ob q n hc hx => b.keep c ob (a.keep c ob q n hc hx) (a.free c ob q n hx) hc hx
  slot := fun c ob q n hc hx => by
    obtain ⟨sl, e1⟩ := a.slot c ob q n hc hx
    obtain ⟨sl', e2⟩ := b.slot c _ e1 (a.free c ob q n hx) hc hx
    exact ⟨sl', e2⟩
  free := fun c ob q n hx => by
    obtain ⟨o', e1⟩ := a.there c ob q hx
    exact b.free c o' e1 (a.free c ob q n hx) hx
  there := fun c ob q hx => by
    obtain ⟨o', e1⟩ := a.there c ob q hx
    exact b.there c o' e1 hx
  tups := fun c xs q => b.tups c xs (a.tups c xs q)
  frzs := fun c ob xs q => b.frzs c ob xs (a.frzs c ob xs q)
  tbls := fun c ps q => by
    obtain ⟨m1, e1⟩ := a.tbls c ps q
    obtain ⟨m2, e2⟩ := b.tbls c _ e1
    exact ⟨m1 ++ m2, by rw [e2, Array.append_assoc]⟩
theorem Un.kept (k : ∀ b u, h.get? b = some u → h'.get? b = some u) : Un fs ex H H h h' :=
  ⟨fun b ob q _ _ _ => k b ob q, fun b ob q _ _ _ => ⟨ob.slots, k b ob q⟩, fun _ _ _ n _ => n, fun b ob q _ => ⟨ob, k b ob q⟩, fun _ _ q => q, fun _ _ _ q => q, fun _ ps q => ⟨#[], by rw [q]; simp⟩⟩
theorem Un.refl : Un fs ex H H h h := Un.kept fun _ _ q => q
theorem Un.laid (k : ∀ b u, h.get? b = some u → h'.get? b = some u) (hp : h.objs.size ≤ a) (hn : H a = none) : Un fs ex H (upd H a o) h h' where
  keep := fun b u q _ _ _ => k b u q
  slot := fun b u q _ _ _ => ⟨u.slots, k b u q⟩
  free := fun b u q n _ => by rw [upd_ne (Nat.ne_of_lt (Nat.lt_of_lt_of_le (Heap.lt_size q) hp))]; exact n
  there := fun b u q _ => ⟨u, k b u q⟩
  tups := fun b xs q => by rw [upd_ne (ne_of_none q hn)]; exact q
  frzs := fun b u xs q => by rw [upd_ne (ne_of_none q hn)]; exact q
  tbls := fun b ps q => ⟨#[], by rw [upd_ne (ne_of_none q hn), q]; simp⟩
theorem Un.write (mu : Mut (H x)) (he : e = x ∨ H e = some (.own x)) (k : ∀ b u, b ≠ e → h.get? b = some u → h'.get? b = some u) (heo : ∃ u, h'.get? e = some u) : Un fs ex H (upd H x o) h h' := by
  have hx : ∀ b, H b = none → b ≠ x := fun b n z => by subst z; rw [n] at mu; exact mu
  have hb : ∀ b, H b = none → b ≠ e := fun b n z => by
    subst z
    rcases he with r | r
    · exact hx b n r
    · rw [n] at r; cases r
  have hm : ∀ b u, H b = some u → ¬ Mut (some u) → b ≠ x := fun b u q nm z => by subst z; rw [q] at mu; exact nm mu
  refine ⟨fun b u q n _ _ => k b u (hb b n) q, fun b u q n _ _ => ⟨u.slots, k b u (hb b n) q⟩, fun b u q n _ => by rw [upd_ne (hx b n)]; exact n, fun b u q _ => ?_,
    fun b xs q => by rw [upd_ne (hm b _ q fun z => z)]; exact q, fun b u xs q => by rw [upd_ne (hm b _ q fun z => z)]; exact q, fun b ps q => ⟨#[], by rw [upd_ne (hm b _ q fun z => z), q]; simp⟩⟩
  by_cases hbe : b = e
  · subst hbe; exact heo
  · exact ⟨u, k b u hbe q⟩
theorem Un.mono (u : Un fs ex H H1 h h1) (hs : ∀ b ∈ fs, b ∈ fs') (hx : ∀ b ∈ ex, b ∈ ex') : Un fs' ex' H H1 h h1 :=
  ⟨fun b ob q n hb he => u.keep b ob q n (fun z => hb (hs b z)) fun z => he (hx b z), fun _ _ q n _ he => u.any q n fun z => he (hx _ z), fun b ob q n he => u.free b ob q n fun z => he (hx b z), fun b ob q he => u.there b ob q fun z => he (hx b z), u.tups, u.frzs, u.tbls⟩
end
def trk (h : Heap) (H : Hp) : List Addr := (List.range h.objs.size).filter fun a => (H a).isSome
def hidT (h : Heap) (H : Hp) : Heap := PySem.W.hideAll h (trk h H)
theorem hidT_size (h : Heap) (H : Hp) : (hidT h H).objs.size = h.objs.size := PySem.W.hideAll_size _ _
theorem hidT_get {h : Heap} {H : Hp} {b : Addr} {o : Obj} (e : h.get? b = some o) (n : H b = none) : (hidT h H).get? b = some o :=
  PySem.W.hideAll_get _ e fun hm => by
    have q : (H b).isSome = true := (List.mem_filter.mp hm).2
    rw [n] at q; simp at q
theorem of_hidT {h : Heap} {H : Hp} {b : Addr} {o : Obj} (e : (hidT h H).get? b = some o) : h.get? b = some o ∧ H b = none := by
  have e' : h.get? b = some o := PySem.W.of_hideAll (trk h H) e
  refine ⟨e', ?_⟩
  cases q : H b with
  | none => rfl
  | some x =>
    have hm : b ∈ trk h H := List.mem_filter.mpr ⟨List.mem_range.mpr (Heap.lt_size e'), by simp [q]⟩
    have z : (hidT h H).get? b = none := PySem.W.hideAll_none (trk h H) hm
    rw [z] at e; cases e
def allNews (g h : Heap) (L : Addr) : List (Addr × Obj) := (List.range h.objs.size).filterMap fun a => if a = L ∨ (g.get? a).isSome = true then none else (h.get? a).map fun o => (a, o)
def rest (g h : Heap) (L d : Addr) : List (Addr × Obj) := (allNews g h L).filter fun p => decide (p.1 ≠ d)
end L2
namespace L2
open PySem PySem.Spec PyProof.Rows
structure Mod (K : PySem.W.Frag) (mg : Str → Option Value) (base : Heap) : Prop where
  kin : K.In base
  glob : base.Ns mainGlobals mg
  blt : ∃ mb, base.Ns builtinsNs mb ∧ ∀ x : Str, x ≠ "__name__" → mb x = bootBuiltins x
  nolimit : base.NoLimit
structure Cx where
  prog : Program
  w : World
  K : PySem.W.Frag
  mg : Str → Option Value
  base : Heap
  A : Around
  N : List Str
  s₀ : Shared
  H₀ : Hp
  env : Env
  outer : List Env
  stack : List Env
  ex : List Addr
  fn : Str → Bool
  calm : Bool
  pn : List (Addr × Obj)
  xe : Value → Shared → Prop
def frs (l : List Env) : List Addr := l.filterMap (·.frame)
abbrev Cx.fs (X : Cx) : List Addr := frs X.outer
def Vis (sc : Scope) (x : Str) : Prop := sc.names.lookup x = some .local ∨ sc.names.lookup x = some .cell ∨ sc.names.lookup x = some .free
def Loc (sc : Scope) (x : Str) : Prop := sc.names.lookup x = some .local ∨ sc.names.lookup x = some .cell
def Look (env : Env) (h : Heap) (m : Str → Option Value) (x : Str) (u : Value) : Prop :=
  (env.kindOf x = some .local ∧ m x = some u) ∨ ((env.kindOf x = some .cell ∨ env.kindOf x = some .free) ∧ ∃ c, env.cells.lookup x = some c ∧ h.IsCell c (some u))
structure Cx.Ok (X : Cx) : Prop where
  mod : Mod X.K X.mg X.base
  kind : X.env.scope.kind = .function
  glob : X.env.globals = mainGlobals
  blt : X.env.builtins = builtinsNs
  above : X.s₀.heap.objs.size ≤ X.env.locals
  inj : ∀ x y c, X.env.cells.lookup x = some c → X.env.cells.lookup y = some c → x = y
  has : ∀ x, (X.env.kindOf x = some .cell ∨ X.env.kindOf x = some .free) → ∃ c, X.env.cells.lookup x = some c
  cab : ∀ x c, X.fn x = true → X.env.cells.lookup x = some c → X.s₀.heap.objs.size ≤ c
  hd : X.calm = true → X.A.handled = none
  frames : X.A.frames = some X.stack
  stk : X.stack = X.outer ∨ (X.stack = X.env :: X.outer ∧ X.env.frame = some X.env.locals)
  exf : ∀ b ∈ X.ex, b ≠ X.env.locals ∧ ∀ x c, X.env.cells.lookup x = some c → c ≠ b
  bs : ∀ b o, X.base.get? b = some o → X.s₀.heap.get? b = some o ∧ X.H₀ b = none
  bsz : X.base.objs.size ≤ X.s₀.heap.objs.size
  noex : ∀ b o, X.base.get? b = some o → b ∉ X.ex
  exfs : ∀ b ∈ X.ex, b ∉ X.fs
  funs : X.s₀.heap.FunFrames X.base X.outer
  frf : ∀ b ∈ X.fs, X.H₀ b = none
structure Inv (X : Cx) (pins : List (Addr × Obj)) (σ : List (Option V)) (H : Hp) (s : Shared) : Prop where
  ok : X.Ok
  os : s.os = X.s₀.os
  bare : AllBare s.gens
  base : Un X.fs X.ex X.H₀ H X.s₀.heap s.heap
  loc : ∃ m, s.heap.Ns X.env.locals m ∧ ∀ (i : Nat) (x : Str) (v : V), X.N[i]? = some x → σ[i]? = some (some v) → Vis X.env.scope x → ∃ u, RelV v u ∧ Look X.env s.heap m x u
  cell : ∀ x c, X.env.cells.lookup x = some c → ∃ v, s.heap.IsCell c v
  free : H X.env.locals = none
  freeC : ∀ x c, X.env.cells.lookup x = some c → H c = none
  pin : ∀ p ∈ X.pn ++ pins, s.heap.get? p.1 = some p.2 ∧ H p.1 = none ∧ p.1 ≠ X.env.locals ∧ p.1 ∉ X.fs ∧ ∀ v, p.2.data ≠ .cell v
  hok : HOk X.prog X.w H s.heap
  len : σ.length = X.N.length
section
variable {X : Cx} {pins : List (Addr × Obj)} {σ : List (Option V)} {H H' : Hp} {s : Shared} {h' : Heap}
theorem Cx.Ok.nofr (ok : X.Ok) {b : Addr} {o : Obj} (e : X.base.get? b = some o) : b ∉ X.fs := fun hb => by
  have := (ok.funs.mem hb).1
  rw [e] at this; cases this
theorem Inv.bs (I : Inv X pins σ H s) : ∀ b o, X.base.get? b = some o → s.heap.get? b = some o ∧ H b = none := fun b o e =>
  ⟨I.base.keep b o (I.ok.bs b o e).1 (I.ok.bs b o e).2 (I.ok.nofr e) (I.ok.noex b o e), I.base.free b o (I.ok.bs b o e).1 (I.ok.bs b o e).2 (I.ok.noex b o e)⟩
theorem Inv.bk (I : Inv X pins σ H s) : ∀ b o, X.base.get? b = some o → s.heap.get? b = some o := fun b o e => (I.bs b o e).1
theorem Inv.mod (I : Inv X pins σ H s) : Mod X.K X.mg X.base := I.ok.mod
theorem Inv.kIn (I : Inv X pins σ H s) : X.K.In s.heap := I.ok.mod.kin.keeps I.bk
theorem Inv.nolimit (I : Inv X pins σ H s) : s.heap.NoLimit := I.ok.mod.nolimit.keeps I.bk
theorem Inv.fr (I : Inv X pins σ H s) : ∃ m, Fr X.base X.env.locals s.heap m :=
  let ⟨m, hn, _⟩ := I.loc
  ⟨m, hn, I.bk, Nat.le_trans I.ok.bsz I.ok.above⟩
theorem Inv.lt (I : Inv X pins σ H s) : X.env.locals < s.heap.objs.size := let ⟨_, hn, _⟩ := I.loc; hn.lt
theorem Inv.sz (I : Inv X pins σ H s) : X.s₀.heap.objs.size ≤ s.heap.objs.size := Nat.le_trans I.ok.above (Nat.le_of_lt I.lt)
theorem Inv.nofs (I : Inv X pins σ H s) {a : Addr} (h : s.heap.objs.size ≤ a) : a ∉ X.fs := fun hb => by
  obtain ⟨_, o, ho, _⟩ := I.ok.funs.mem hb
  exact absurd (Nat.lt_of_lt_of_le (Heap.lt_size ho) (Nat.le_trans I.sz h)) (Nat.lt_irrefl _)
theorem Inv.cne (I : Inv X pins σ H s) : ∀ x c, X.env.cells.lookup x = some c → c ≠ X.env.locals := fun x c e z => by
  obtain ⟨v, o, ho, hd⟩ := I.cell x c e
  obtain ⟨m, ⟨o', es, ep, ho', hd', _⟩, _⟩ := I.loc
  rw [z, ho'] at ho; cases ho; rw [hd'] at hd; cases hd
theorem Inv.funs (I : Inv X pins σ H s) : s.heap.FunFrames X.base X.outer := by
  have all : ∀ (l : List Env), (∀ b ∈ frs l, b ∈ X.fs) → X.s₀.heap.FunFrames X.base l → s.heap.FunFrames X.base l := by
    intro l
    induction l with
    | nil => intro _ _; trivial
    | cons env r ih =>
      intro hs hl
      obtain ⟨hk, ⟨L, o, hf, hn, ho, hd⟩, hr⟩ := hl
      have hL : L ∈ X.fs := hs L (by unfold frs; rw [List.filterMap_cons, hf]; exact List.mem_cons_self)
      obtain ⟨sl, e⟩ := I.base.slot L o ho (I.ok.frf L hL) hL fun z => I.ok.exfs L z hL
      exact ⟨hk, ⟨L, _, hf, hn, e, hd⟩, ih (fun b hb => hs b (by unfold frs; rw [List.filterMap_cons, hf]; exact List.mem_cons_of_mem _ hb)) hr⟩
  exact all X.outer (fun _ hb => hb) I.ok.funs
theorem Inv.stack (I : Inv X pins σ H s) : s.heap.FunFrames X.base X.stack := by
  rcases I.ok.stk with e | ⟨e, hf⟩
  · rw [e]; exact I.funs
  · rw [e]
    obtain ⟨m, hn, _⟩ := I.loc
    refine .cons (by rw [I.ok.kind]; decide) hf hn ?_ I.funs
    exact Heap.get?_none_of_le (Nat.le_trans I.ok.bsz I.ok.above)
theorem Inv.stkSub (I : Inv X pins σ H s) : ∀ b ∈ frs X.stack, b ∈ X.env.locals :: X.fs := fun b hb => by
  rcases I.ok.stk with e | ⟨e, hf⟩
  · rw [e] at hb; exact List.mem_cons_of_mem _ hb
  · rw [e] at hb
    unfold frs at hb
    rw [List.filterMap_cons, hf] at hb
    exact hb
theorem Inv.stkFree (I : Inv X pins σ H s) : ∀ b ∈ frs X.stack, H b = none := fun b hb => by
  rcases List.mem_cons.mp (I.stkSub b hb) with e | hb
  · rw [e]; exact I.free
  · obtain ⟨_, o, ho, _⟩ := I.ok.funs.mem hb
    exact I.base.free b o ho (I.ok.frf b hb) fun z => I.ok.exfs b z hb
theorem Inv.step {g' : Array GenState} {t' : Nat} {d' : Drawn} {ch : List Addr} (I : Inv X pins σ H s)
    (hch : ∀ b ∈ ch, (b ∈ X.ex ∨ X.s₀.heap.objs.size ≤ b) ∧ b ≠ X.env.locals ∧ (∀ x c, X.env.cells.lookup x = some c → c ≠ b) ∧ ∀ p ∈ X.pn ++ pins, p.1 ≠ b)
    (keep : ∀ b o, b ≠ X.env.locals → b ∉ X.fs → b ∉ ch → s.heap.get? b = some o → H b = none → h'.get? b = some o)
    (slot : ∀ b o, b ≠ X.env.locals → b ∈ X.fs → b ∉ ch → s.heap.get? b = some o → H b = none → ∃ sl, h'.get? b = some { o with slots := sl }) (free : ∀ b o, b ∉ ch → s.heap.get? b = some o → H b = none → H' b = none)
    (there : ∀ b o, b ∉ ch → s.heap.get? b = some o → ∃ o', h'.get? b = some o')
    (tups : ∀ b xs, H b = some (.tup xs) → H' b = some (.tup xs)) (frzs : ∀ b o u, H b = some (.frz o u) → H' b = some (.frz o u)) (tbls : ∀ b ps, H b = some (.tbl ps) → ∃ more, H' b = some (.tbl (ps ++ more)))
    (ns : ∀ m, s.heap.Ns X.env.locals m → h'.Ns X.env.locals m) (hok : HOk X.prog X.w H' h') (hg : AllBare g') :
    Inv X pins σ H' { s with heap := h', gens := g', drawn := d', toks := t' } := by
  have neL : ∀ b o, X.s₀.heap.get? b = some o → b ≠ X.env.locals := fun b o e => Nat.ne_of_lt (Nat.lt_of_lt_of_le (Heap.lt_size e) I.ok.above)
  have neC : ∀ b o, X.s₀.heap.get? b = some o → b ∉ X.ex → b ∉ ch := fun b o e hx hb => by
    rcases (hch b hb).1 with z | z
    · exact hx z
    · exact absurd (Nat.lt_of_lt_of_le (Heap.lt_size e) z) (Nat.lt_irrefl _)
  have cellK : ∀ x c, X.env.cells.lookup x = some c → ∀ v, s.heap.IsCell c v → h'.IsCell c v := fun x c e v ⟨o, ho, hd⟩ => by
    have nch : c ∉ ch := fun z => (hch c z).2.2.1 x c e rfl
    by_cases hc : c ∈ X.fs
    · obtain ⟨sl, q⟩ := slot c o (I.cne x c e) hc nch ho (I.freeC x c e)
      exact ⟨_, q, hd⟩
    · exact ⟨o, keep c o (I.cne x c e) hc nch ho (I.freeC x c e), hd⟩
  refine ⟨I.ok, I.os, hg, ⟨fun b o e n hb hx => ?_, fun b o e n hb hx => ?_, fun b o e n hx => ?_, fun b o e hx => ?_, fun b xs e => tups b xs (I.base.tups b xs e), fun b o xs e => frzs b o xs (I.base.frzs b o xs e), fun b ps e => ?_⟩, ?_, fun x c e => ?_, ?_, fun x c e => ?_, fun p hp => ?_, hok, I.len⟩
  · exact keep b o (neL b o e) hb (neC b o e hx) (I.base.keep b o e n hb hx) (I.base.free b o e n hx)
  · obtain ⟨sl, e1⟩ := I.base.slot b o e n hb hx
    obtain ⟨sl', e2⟩ := slot b _ (neL b o e) hb (neC b o e hx) e1 (I.base.free b o e n hx)
    exact ⟨sl', e2⟩
  · obtain ⟨o', e1⟩ := I.base.there b o e hx
    exact free b o' (neC b o e hx) e1 (I.base.free b o e n hx)
  · obtain ⟨o', e1⟩ := I.base.there b o e hx
    exact there b o' (neC b o e hx) e1
  · obtain ⟨m1, e1⟩ := I.base.tbls b ps e
    obtain ⟨m2, e2⟩ := tbls b _ e1
    exact ⟨m1 ++ m2, by rw [e2, Array.append_assoc]⟩
  · obtain ⟨m, hn, hl⟩ := I.loc
    refine ⟨m, ns m hn, fun i x v e1 e2 e3 => ?_⟩
    obtain ⟨u, r, l⟩ := hl i x v e1 e2 e3
    refine ⟨u, r, ?_⟩
    rcases l with l | ⟨k, c, e, z⟩
    · exact .inl l
    · exact .inr ⟨k, c, e, cellK x c e _ z⟩
  · obtain ⟨v, z⟩ := I.cell x c e
    exact ⟨v, cellK x c e v z⟩
  · obtain ⟨m, ⟨o, _, _, ho, _⟩, _⟩ := I.loc
    exact free _ o (fun z => (hch _ z).2.1 rfl) ho I.free
  · obtain ⟨v, o, ho, hd⟩ := I.cell x c e
    exact free c o (fun z => (hch c z).2.2.1 x c e rfl) ho (I.freeC x c e)
  · obtain ⟨e, n, ne, nf, d⟩ := I.pin p hp
    have nch : p.1 ∉ ch := fun z => (hch p.1 z).2.2.2 p hp rfl
    exact ⟨keep p.1 p.2 ne nf nch e n, free p.1 p.2 nch e n, ne, nf, d⟩
theorem Inv.un {t' : Nat} (I : Inv X pins σ H s) (u : Un X.fs [] H H' s.heap h') (hok : HOk X.prog X.w H' h') : Inv X pins σ H' { s with heap := h', toks := t' } := by
  obtain ⟨m, ⟨o, es, ep, ho, r⟩, _⟩ := id I.loc
  obtain ⟨sl, hL⟩ := u.any ho I.free (by simp)
  exact I.step (g' := s.gens) (d' := s.drawn) (ch := []) (fun _ z => nomatch z) (fun b o _ hb _ e n => u.keep b o e n hb (by simp)) (fun b o _ hb _ e n => u.slot b o e n hb (by simp)) (fun b o _ e n => u.free b o e n (by simp)) (fun b o _ e => u.there b o e (by simp)) u.tups u.frzs u.tbls (fun m' hm => by
    obtain ⟨o', es', ep', ho', r'⟩ := hm
    rw [ho] at ho'; cases ho'
    exact ⟨_, es', ep', hL, r'⟩) hok I.bare
theorem Inv.call {g' : Array GenState} {t' : Nat} {d' : Drawn} {ch : List Addr} (I : Inv X pins σ H s) (u : Un (frs X.stack) ch H H' s.heap h') (hok : HOk X.prog X.w H' h') (hg : AllBare g')
    (hch : ∀ b ∈ ch, (b ∈ X.ex ∨ X.s₀.heap.objs.size ≤ b) ∧ b ≠ X.env.locals ∧ (∀ x c, X.env.cells.lookup x = some c → c ≠ b) ∧ ∀ p ∈ X.pn ++ pins, p.1 ≠ b) :
    Inv X pins σ H' { s with heap := h', gens := g', drawn := d', toks := t' } := by
  obtain ⟨m, ⟨o, es, ep, ho, r⟩, _⟩ := id I.loc
  obtain ⟨sl, hL⟩ := u.any ho I.free fun z => (hch _ z).2.1 rfl
  exact I.step (ch := ch) hch (fun b o hL hb hc e n => u.keep b o e n (fun z => (List.mem_cons.mp (I.stkSub b z)).elim hL hb) hc) (fun b o _ _ hc e n => u.any e n hc) (fun b o hc e n => u.free b o e n hc) (fun b o hc e => u.there b o e hc) u.tups u.frzs u.tbls (fun m' hm => by
    obtain ⟨o', es', ep', ho', r'⟩ := hm
    rw [ho] at ho'; cases ho'
    exact ⟨_, es', ep', hL, r'⟩) hok hg
theorem Inv.turned {t' : Nat} {it : Addr} (I : Inv X pins σ H s) (k : ∀ b o, b ≠ it → s.heap.get? b = some o → h'.get? b = some o) (hn : H it = none) (hL : it ≠ X.env.locals)
    (h1 : it ∈ X.ex ∨ X.s₀.heap.objs.size ≤ it) (h2 : ∀ x c, X.env.cells.lookup x = some c → c ≠ it) (h3 : ∀ p ∈ X.pn ++ pins, p.1 ≠ it) : Inv X pins σ H { s with heap := h', toks := t' } := by
  have nit : ∀ b u, H b = some u → b ≠ it := fun b u e z => by rw [z, hn] at e; cases e
  refine I.step (g' := s.gens) (d' := s.drawn) (ch := [it]) (fun b hb => ?_) (fun b o _ _ hc e _ => k b o (fun z => hc (by simp [z])) e) (fun b o _ _ hc e _ => ⟨o.slots, k b o (fun z => hc (by simp [z])) e⟩) (fun _ _ _ _ n => n)
    (fun b o hc e => ⟨o, k b o (fun z => hc (by simp [z])) e⟩) (fun _ _ e => e) (fun _ _ _ e => e) (fun b ps e => ⟨#[], by rw [e]; simp⟩) (fun m hm => ?_) (fun b u e => ?_) I.bare
  · have e : b = it := by simpa using hb
    subst e
    exact ⟨h1, hL, h2, h3⟩
  · obtain ⟨o, es, ep, ho, r⟩ := hm
    exact ⟨o, es, ep, k _ o (Ne.symm hL) ho, r⟩
  · refine (I.hok b u e).stay (fun c v hc q => k c v ?_ q) (fun _ q => q) fun _ _ q => q
    rcases hc with z | z
    · rw [z]; exact nit b u e
    · exact nit c _ z
theorem Inv.tok (I : Inv X pins σ H s) (t : Nat) : Inv X pins σ H { s with toks := t } := I.un (h' := s.heap) (t' := t) Un.refl I.hok
theorem Inv.kept {t' : Nat} (I : Inv X pins σ H s) (k : ∀ b u, s.heap.get? b = some u → h'.get? b = some u) : Inv X pins σ H { s with heap := h', toks := t' } := I.un (Un.kept k) (I.hok.kept k)
theorem Inv.laid {a : Addr} {o : HO} {t' : Nat} (I : Inv X pins σ H s) (k : ∀ b u, s.heap.get? b = some u → h'.get? b = some u) (hp : s.heap.objs.size ≤ a) (new : ObjOk X.prog X.w (upd H a o) h' a o) :
    Inv X pins σ (upd H a o) { s with heap := h', toks := t' } := I.un (Un.laid k hp (I.hok.fresh hp)) (I.hok.laid k hp new)
theorem Inv.write {x e : Addr} {o : HO} {t' : Nat} (I : Inv X pins σ H s) (mu : Mut (H x)) (he : e = x ∨ H e = some (.own x)) (k : ∀ b u, b ≠ e → s.heap.get? b = some u → h'.get? b = some u) (heo : ∃ u, h'.get? e = some u)
    (new : ObjOk X.prog X.w (upd H x o) h' x o) : Inv X pins σ (upd H x o) { s with heap := h', toks := t' } := I.un (Un.write mu he k heo) (I.hok.write mu he k heo new)
theorem Inv.pins_of {pins' : List (Addr × Obj)} (I : Inv X pins σ H s) (h : ∀ p ∈ pins', s.heap.get? p.1 = some p.2 ∧ H p.1 = none ∧ p.1 ≠ X.env.locals ∧ p.1 ∉ X.fs ∧ ∀ v, p.2.data ≠ .cell v) : Inv X pins' σ H s :=
  ⟨I.ok, I.os, I.bare, I.base, I.loc, I.cell, I.free, I.freeC, fun p hp => (List.mem_append.mp hp).elim (fun z => I.pin p (List.mem_append_left _ z)) (h p), I.hok, I.len⟩
theorem nodup_ix {N : List Str} (hN : N.Nodup) {i j : Nat} {x : Str} (a : N[i]? = some x) (b : N[j]? = some x) : i = j := by
  obtain ⟨h1, e1⟩ := List.getElem?_eq_some_iff.mp a
  obtain ⟨h2, e2⟩ := List.getElem?_eq_some_iff.mp b
  exact (List.getElem_inj hN).mp (e1.trans e2.symm)
theorem store_ok2 {M : Model} {A : Around} {E : Value → Shared → Prop} {i : Nat} {x : Str} {v : V} {u : Value} {Q : Unit → Shared → Prop} (I : Inv X pins σ H s) (hN : X.N.Nodup) (hi : X.N[i]? = some x) (hx : Loc X.env.scope x) (r : RelV v u)
    (h : ∀ s', Inv X pins (σ.set i (some v)) H s' → (∃ a, Heap.SameBut a s.heap s'.heap ∧ (a = X.env.locals ∨ X.env.cells.lookup x = some a)) → Q () s') (hf : X.fn x = true ∨ X.env.scope.names.lookup x = some .local := by first | exact .inl rfl | exact .inr rfl | assumption) : wpAny M A (storeName X.env x u) Q E s := by
  obtain ⟨m, hn, hl⟩ := id I.loc
  have hcls : (X.env.scope.kind == .class || (X.env.scope.kind == .module && X.env.locals != X.env.globals)) = false := by rw [I.ok.kind]; rfl
  have hiσ : i < σ.length := by rw [I.len]; exact (List.getElem?_eq_some_iff.mp hi).1
  have cne := I.cne
  have tracked : ∀ {a : Addr} {h' : Heap}, (∃ o, s.heap.get? a = some o ∧ H a = none) → Heap.SameBut a s.heap h' → HOk X.prog X.w H h' := fun {a h'} ha hs b ob e => by
    obtain ⟨_, _, hfree⟩ := ha
    refine (I.hok b ob e).stay (fun c w' hc q => (hs.2 c ?_).trans q) (fun _ q => q) fun _ _ q => q
    rintro rfl
    rcases hc with rfl | hc
    · rw [hfree] at e; cases e
    · rw [hfree] at hc; cases hc
  rcases hx with hk | hk
  · refine wpAny_storeName_local hk hn (fun h' hn' hs => ?_) hcls
    obtain ⟨oL, _, _, hoL, _⟩ := id hn
    refine h _ ⟨I.ok, I.os, I.bare, ⟨fun b o e n hb hx => ?_, fun b o e n hb hx => ?_, I.base.free, fun b o e hx => ?_, I.base.tups, I.base.frzs, I.base.tbls⟩, ⟨_, hn', fun j y v' e1 e2 e3 => ?_⟩, fun y c e => ?_, I.free, I.freeC, fun p hp => ?_, tracked ⟨oL, hoL, I.free⟩ hs, by simpa using I.len⟩ ⟨_, hs, .inl rfl⟩
    · exact (hs.2 b (Nat.ne_of_lt (Nat.lt_of_lt_of_le (Heap.lt_size e) I.ok.above))).trans (I.base.keep b o e n hb hx)
    · obtain ⟨sl, e1⟩ := I.base.slot b o e n hb hx
      exact ⟨sl, (hs.2 b (Nat.ne_of_lt (Nat.lt_of_lt_of_le (Heap.lt_size e) I.ok.above))).trans e1⟩
    · obtain ⟨o', e1⟩ := I.base.there b o e hx
      exact ⟨o', (hs.2 b (Nat.ne_of_lt (Nat.lt_of_lt_of_le (Heap.lt_size e) I.ok.above))).trans e1⟩
    · by_cases hj : j = i
      · subst hj
        rw [hi] at e1; cases e1
        rw [List.getElem?_set_self hiσ] at e2
        cases e2
        exact ⟨u, r, .inl ⟨hk, by simp⟩⟩
      · rw [List.getElem?_set_ne (Ne.symm hj)] at e2
        obtain ⟨u', r', q⟩ := hl j y v' e1 e2 e3
        refine ⟨u', r', ?_⟩
        rcases q with ⟨k, e⟩ | ⟨k, c, e, z⟩
        · refine .inl ⟨k, ?_⟩
          have : y ≠ x := fun e => hj (nodup_ix hN e1 (e ▸ hi))
          simp [this, e]
        · exact .inr ⟨k, c, e, z.sameBut hs (cne y c e)⟩
    · obtain ⟨w', z⟩ := I.cell y c e
      exact ⟨w', z.sameBut hs (cne y c e)⟩
    · obtain ⟨e, n, ne, nf, d⟩ := I.pin p hp
      exact ⟨(hs.2 p.1 ne).trans e, n, ne, nf, d⟩
  · have hfn : X.fn x = true := by
      rcases hf with z | z
      · exact z
      · rw [z] at hk; cases hk
    obtain ⟨c, hc⟩ := I.ok.has x (.inl hk)
    obtain ⟨w', z⟩ := I.cell x c hc
    refine wpAny_storeName_cell I.ok.kind hk hc z (fun h' hc' hs => ?_)
    obtain ⟨oc, hoc, hocd⟩ := id z
    refine h { s with heap := h' } ⟨I.ok, I.os, I.bare, ⟨fun b o e n hb hx => ?_, fun b o e n hb hx => ?_, I.base.free, fun b o e hx => ?_, I.base.tups, I.base.frzs, I.base.tbls⟩, ⟨m, hn.sameBut hs (Ne.symm (cne x c hc)), fun j y v' e1 e2 e3 => ?_⟩, fun y c' e => ?_, I.free, I.freeC, fun p hp => ?_, tracked ⟨oc, hoc, I.freeC x c hc⟩ hs, by simpa using I.len⟩ ⟨c, hs, .inr hc⟩
    · exact (hs.2 b (Nat.ne_of_lt (Nat.lt_of_lt_of_le (Heap.lt_size e) (I.ok.cab x c hfn hc)))).trans (I.base.keep b o e n hb hx)
    · obtain ⟨sl, e1⟩ := I.base.slot b o e n hb hx
      exact ⟨sl, (hs.2 b (Nat.ne_of_lt (Nat.lt_of_lt_of_le (Heap.lt_size e) (I.ok.cab x c hfn hc)))).trans e1⟩
    · obtain ⟨o', e1⟩ := I.base.there b o e hx
      exact ⟨o', (hs.2 b (Nat.ne_of_lt (Nat.lt_of_lt_of_le (Heap.lt_size e) (I.ok.cab x c hfn hc)))).trans e1⟩
    · by_cases hj : j = i
      · subst hj
        rw [hi] at e1; cases e1
        rw [List.getElem?_set_self hiσ] at e2
        cases e2
        exact ⟨u, r, .inr ⟨.inl hk, c, hc, hc'⟩⟩
      · rw [List.getElem?_set_ne (Ne.symm hj)] at e2
        obtain ⟨u', r', q⟩ := hl j y v' e1 e2 e3
        refine ⟨u', r', ?_⟩
        rcases q with q | ⟨k, c', e, z'⟩
        · exact .inl q
        · refine .inr ⟨k, c', e, z'.sameBut hs ?_⟩
          rintro rfl
          exact hj (nodup_ix hN e1 (I.ok.inj _ _ _ e hc ▸ hi))
    · by_cases hcc : c' = c
      · subst hcc; exact ⟨_, hc'⟩
      · obtain ⟨w2, z2⟩ := I.cell y c' e
        exact ⟨w2, z2.sameBut hs hcc⟩
    · obtain ⟨e, n, ne, nf, d⟩ := I.pin p hp
      refine ⟨(hs.2 p.1 ?_).trans e, n, ne, nf, d⟩
      intro q
      rw [q, hoc] at e
      have q' : oc = p.2 := Option.some.inj e
      exact d w' (by rw [← q']; exact hocd)
theorem store_ok {M : Model} {A : Around} {E : Value → Shared → Prop} {i : Nat} {x : Str} {v : V} {u : Value} {Q : Unit → Shared → Prop} (I : Inv X pins σ H s) (hN : X.N.Nodup) (hi : X.N[i]? = some x) (hx : Loc X.env.scope x) (r : RelV v u)
    (h : ∀ s', Inv X pins (σ.set i (some v)) H s' → Q () s') (hf : X.fn x = true ∨ X.env.scope.names.lookup x = some .local := by first | exact .inl rfl | exact .inr rfl | assumption) : wpAny M A (storeName X.env x u) Q E s :=
  store_ok2 I hN hi hx r (fun s' I' _ => h s' I') hf
theorem Inv.call' {s' : Shared} {ch : List Addr} (I : Inv X pins σ H s) (ho : s'.os = s.os) (u : Un (frs X.stack) ch H H' s.heap s'.heap) (hok : HOk X.prog X.w H' s'.heap) (hg : AllBare s'.gens)
    (hch : ∀ b ∈ ch, (b ∈ X.ex ∨ X.s₀.heap.objs.size ≤ b) ∧ b ≠ X.env.locals ∧ (∀ x c, X.env.cells.lookup x = some c → c ≠ b) ∧ ∀ p ∈ X.pn ++ pins, p.1 ≠ b) : Inv X pins σ H' s' := by
  obtain ⟨h', g', d', t', o'⟩ := s'
  have e : o' = s.os := ho
  subst e
  exact I.call (g' := g') (t' := t') (d' := d') u hok hg hch
end
abbrev XK := Value → Option Addr → Hp → Prop
abbrev St := List (Option V)
abbrev VK := V → Hp → Prop
abbrev TE := St → Hp → VK → Prop
abbrev TT := St → Hp → (Bool → Hp → Prop) → Prop
abbrev TA := St → Hp → (List V → Hp → Prop) → Prop
structure Ends where
  nx : St → Hp → Prop
  rt : VK
  bk : St → Hp → Prop := fun _ _ => False
  ct : St → Hp → Prop := fun _ _ => False
abbrev TS := Ends → St → Hp → Prop
def EP (X : Cx) (pins : List (Addr × Obj)) (σ : St) (Q : VK) (u : Value) (s' : Shared) : Prop := ∃ v H', Inv X pins σ H' s' ∧ RelV v u ∧ Q v H'
def TP (X : Cx) (pins : List (Addr × Obj)) (σ : St) (Q : Bool → Hp → Prop) (b : Bool) (s' : Shared) : Prop := ∃ H', Inv X pins σ H' s' ∧ Q b H'
def AP (X : Cx) (pins : List (Addr × Obj)) (σ : St) (Q : List V → Hp → Prop) (us : List Value) (s' : Shared) : Prop := ∃ vs H', Inv X pins σ H' s' ∧ Vals vs us ∧ Q vs H'
def SP (X : Cx) (pins : List (Addr × Obj)) (D : Ends) (f : Flow) (s' : Shared) : Prop :=
  match f with
  | .next => ∃ σ' H', Inv X pins σ' H' s' ∧ D.nx σ' H'
  | .brk => ∃ σ' H', Inv X pins σ' H' s' ∧ D.bk σ' H'
  | .cont => ∃ σ' H', Inv X pins σ' H' s' ∧ D.ct σ' H'
  | .ret u => ∃ v σ' H', Inv X pins σ' H' s' ∧ RelV v u ∧ D.rt v H'
def PE (X : Cx) (e : Expr) (t : TE) : Prop :=
  ∀ (pins : List (Addr × Obj)) (s : Shared) (σ : St) (H : Hp) (Q : VK), Inv X pins σ H s → t σ H Q → wpAny (model X.prog X.w) X.A (eval e X.env) (EP X pins σ Q) X.xe s
def PT (X : Cx) (e : Expr) (t : TT) : Prop :=
  ∀ (pins : List (Addr × Obj)) (s : Shared) (σ : St) (H : Hp) (Q : Bool → Hp → Prop), Inv X pins σ H s → t σ H Q → wpAny (model X.prog X.w) X.A (isTrue e X.env (eval e X.env)) (TP X pins σ Q) X.xe s
def PW (X : Cx) (e : Expr) (t : TT) : Prop :=
  ∀ (whole : Sem Value) (pins : List (Addr × Obj)) (s : Shared) (σ : St) (H : Hp) (Q : Bool → Hp → Prop), Inv X pins σ H s → t σ H Q → wpAny (model X.prog X.w) X.A (isTrue e X.env whole) (TP X pins σ Q) X.xe s
theorem PW.pt {X : Cx} {e : Expr} {t : TT} (h : PW X e t) : PT X e t := h _
def PA (X : Cx) (es : List Expr) (t : TA) : Prop :=
  ∀ (pos : Pos) (pins : List (Addr × Obj)) (s : Shared) (σ : St) (H : Hp) (Q : List V → Hp → Prop), Inv X pins σ H s → t σ H Q → wpAny (model X.prog X.w) X.A (spliced (backTo pos (starEach es X.env))) (AP X pins σ Q) X.xe s
def PS (X : Cx) (st : Stmt) (t : TS) : Prop :=
  ∀ (pins : List (Addr × Obj)) (s : Shared) (σ : St) (H : Hp) (D : Ends), Inv X pins σ H s → t D σ H → wpAny (model X.prog X.w) X.A (exec st X.env) (SP X pins D) X.xe s
def PSs (X : Cx) (st : List Stmt) (t : TS) : Prop :=
  ∀ (pins : List (Addr × Obj)) (s : Shared) (σ : St) (H : Hp) (D : Ends), Inv X pins σ H s → t D σ H → wpAny (model X.prog X.w) X.A (execs st X.env) (SP X pins D) X.xe s
theorem thn {α : Type} {t : Sem α} {Q Q' : α → Shared → Prop} {M : Model} {A : Around} {E : Value → Shared → Prop} {s : Shared} (h : wpAny M A t Q E s) (hQ : ∀ a s, Q a s → Q' a s) : wpAny M A t Q' E s := wpAny_mono h hQ fun _ _ x => x
end L2
namespace L2
open PySem PySem.Spec PyProof.Rows
section
variable {X : Cx}
def tVar (i : Nat) : TE := fun σ H Q => ∃ v, σ[i]? = some (some v) ∧ Q v H
def tC (v : V) : TE := fun _ H Q => Q v H
theorem pe_var {i : Nat} {x : Str} {pos : Pos} (hN : X.N[i]? = some x) (hv : Vis X.env.scope x) (hd : (x == ("__debug__" : Str)) = false := by decide) (hcd : (x == ("__classdict__" : Str)) = false := by decide) : PE X (.Name x pos) (tVar i) := by
  intro pins s σ H Q I h
  obtain ⟨v, e, h⟩ := h
  obtain ⟨m, hn, hl⟩ := I.loc
  obtain ⟨u, r, l⟩ := hl i x v hN e hv
  have fin : EP X pins σ Q u s := ⟨v, H, I, r, h⟩
  rcases l with ⟨hk, hm⟩ | ⟨hk, c, hc, hcell⟩
  · exact wpAny_Name (wpAny_loadName_local I.ok.kind hk hn hm fin) hd
  · rcases hk with hk | hk
    · exact wpAny_Name (wpAny_loadName_cell I.ok.kind hk hc hcell fin) hd
    · exact wpAny_Name (wpAny_loadName_free I.ok.kind hk hc hcell fin hcd) hd
theorem pe_int {i j pos} : PE X (.Constant (.int i) j pos) (tC (.int i)) := fun _ _ _ H _ I h => wpAny_Constant_int ⟨.int i, H, I.tok _, ⟨_, rfl⟩, h⟩
theorem pe_bl {b j pos} : PE X (.Constant (.bool b) j pos) (tC (.bl b)) := fun _ _ _ H _ I h => Constant_bool ⟨.bl b, H, I, rfl, h⟩
theorem pe_non {j pos} : PE X (.Constant .none j pos) (tC .non) := fun _ _ _ H _ I h => Constant_none ⟨.non, H, I, rfl, h⟩
theorem pe_str {x j pos} : PE X (.Constant (.str x) j pos) (tC (.str x)) := fun _ _ _ H _ I h => Calls.Constant_str ⟨.str x, H, I.tok _, ⟨_, rfl⟩, h⟩
def Gl (X : Cx) (x : Str) : Prop := X.env.kindOf x = some .globalImplicit
theorem ld_glob {E : Value → Shared → Prop} {pins : List (Addr × Obj)} {s : Shared} {σ : St} {H : Hp} {x : Str} {u : Value} {pos : Pos} {Q : Value → Shared → Prop} (I : Inv X pins σ H s) (hg : Gl X x) (hm : X.mg x = some u) (h : Q u s)
    (hd : (x == ("__debug__" : Str)) = false := by decide) : wpAny (model X.prog X.w) X.A (eval (.Name x pos) X.env) Q E s :=
  Calls.Name_function_global I.ok.kind hg (Calls.loadGlobal_global (by rw [I.ok.glob]; exact I.mod.glob.keeps I.bk) hm h) hd
theorem ld_blt {E : Value → Shared → Prop} {pins : List (Addr × Obj)} {s : Shared} {σ : St} {H : Hp} {x : Str} {u : Value} {pos : Pos} {Q : Value → Shared → Prop} (I : Inv X pins σ H s) (hg : Gl X x) (hm : X.mg x = none) (hv : bootBuiltins x = some u) (h : Q u s)
    (hn : x ≠ "__name__" := by decide) (hd : (x == ("__debug__" : Str)) = false := by decide) : wpAny (model X.prog X.w) X.A (eval (.Name x pos) X.env) Q E s := by
  obtain ⟨mb, h1, h2⟩ := I.mod.blt
  exact Calls.Name_function_global I.ok.kind hg (Calls.loadGlobal_builtin (by rw [I.ok.glob]; exact I.mod.glob.keeps I.bk) hm (by rw [I.ok.blt]; exact h1.keeps I.bk) ((h2 x hn).trans hv) h) hd
theorem pe_glob {x : Str} {v : V} {u : Value} {pos : Pos} (hg : Gl X x) (hm : X.mg x = some u) (r : RelV v u) (hd : (x == ("__debug__" : Str)) = false := by decide) : PE X (.Name x pos) (tC v) :=
  fun _ _ _ H _ I h => ld_glob I hg hm ⟨v, H, I, r, h⟩ hd
theorem pe_bltn {x : Str} {v : V} {u : Value} {pos : Pos} (hg : Gl X x) (hm : X.mg x = none) (hv : bootBuiltins x = some u) (r : RelV v u) (hn : x ≠ "__name__" := by decide) (hd : (x == ("__debug__" : Str)) = false := by decide) : PE X (.Name x pos) (tC v) :=
  fun _ _ _ H _ I h => ld_blt I hg hm hv ⟨v, H, I, r, h⟩ hn hd
variable {a b : Expr} {ta tb : TE} {pos : Pos}
def PC (X : Cx) (op : CmpOp) (a b : Expr) (t : TE) : Prop :=
  ∀ (pins : List (Addr × Obj)) (s : Shared) (σ : St) (H : Hp) (Q : VK), Inv X pins σ H s → t σ H Q →
    wpAny (model X.prog X.w) X.A (eval a X.env) (fun v s₁ => wpAny (model X.prog X.w) X.A (eval b X.env) (fun u s₂ => wpAny (model X.prog X.w) X.A (compareOp op v u) (EP X pins σ Q) X.xe s₂) X.xe s₁) X.xe s
theorem nobehind (b : Expr) {op : CmpOp} (h : op ≠ .In) (h2 : op ≠ .NotIn) : behindInMarks op b = false := by
  have e1 : (op == CmpOp.In) = false := by cases op <;> first | rfl | exact absurd rfl h
  have e2 : (op == CmpOp.NotIn) = false := by cases op <;> first | rfl | exact absurd rfl h2
  cases b <;> simp [behindInMarks, e1, e2]
def tB (t : TE) : TT := fun σ H Q => t σ H fun x H1 => ∃ c, x = .bl c ∧ Q c H1
theorem pt_cmp {op : CmpOp} {t : TE} (h : PC X op a b t) (h1 : behindInMarks op b = false := by first | exact nobehind _ (by decide) (by decide) | rfl) : PT X (.Compare a [op] [b] pos) (tB t) := by
  intro pins s σ H Q I hw
  refine wpAny_isTrue_Compare1 (thn (h pins s σ H _ I hw) fun v s1 h1 => thn h1 fun u s2 h2 => thn h2 fun c s3 ⟨x, H1, I1, r1, q1⟩ => ?_) h1
  obtain ⟨d, rfl, q⟩ := q1
  cases r1
  exact wpAny_truthy_bool ⟨H1, I1, q⟩
theorem pt_val {e : Expr} {t : TE} (h : PE X e t) (he : ∀ whole, isTrue e X.env whole = (do let v ← whole; standAt e.pos; holding [v] (truthy v)) := by intro _; rfl) : PT X e (tB t) := by
  intro pins s σ H Q I hw
  refine isTrue_plain (thn (h pins s σ H _ I hw) fun v s1 ⟨x, H1, I1, r1, q1⟩ => ?_) (he _)
  obtain ⟨d, rfl, q⟩ := q1
  cases r1
  exact wpAny_truthy_bool ⟨H1, I1, q⟩
variable {tA tB' : TT} {rest : List Expr}
def tAnd (t u : TT) : TT := fun σ H Q => t σ H fun c H1 => if c = true then u σ H1 Q else Q false H1
def tOr (t u : TT) : TT := fun σ H Q => t σ H fun c H1 => if c = true then Q true H1 else u σ H1 Q
def tNot (t : TT) : TT := fun σ H Q => t σ H fun c H1 => Q (!c) H1
theorem pw_and1 (ha : PT X a tA) : PW X (.BoolOp .And [a] pos) tA := by
  intro wh pins s σ H Q I h
  refine isTrue_and (thn (ha pins s σ H Q I h) fun c s1 e => ?_)
  cases c with
  | true => exact isTrue_and_nil e
  | false => exact e
theorem pw_or1 (ha : PT X a tA) : PW X (.BoolOp .Or [a] pos) tA := by
  intro wh pins s σ H Q I h
  refine isTrue_or (thn (ha pins s σ H Q I h) fun c s1 e => ?_)
  cases c with
  | false => exact isTrue_or_nil e
  | true => exact e
theorem pw_and (ha : PT X a tA) (hb : PW X (.BoolOp .And (b :: rest) pos) tB') : PW X (.BoolOp .And (a :: b :: rest) pos) (tAnd tA tB') := by
  intro wh pins s σ H Q I h
  refine isTrue_and (thn (ha pins s σ H _ I h) fun c s1 ⟨H1, I1, q1⟩ => ?_)
  cases c with
  | true => exact hb wh pins s1 σ H1 Q I1 q1
  | false => exact ⟨H1, I1, q1⟩
theorem pw_or (ha : PT X a tA) (hb : PW X (.BoolOp .Or (b :: rest) pos) tB') : PW X (.BoolOp .Or (a :: b :: rest) pos) (tOr tA tB') := by
  intro wh pins s σ H Q I h
  refine isTrue_or (thn (ha pins s σ H _ I h) fun c s1 ⟨H1, I1, q1⟩ => ?_)
  cases c with
  | true => exact ⟨H1, I1, q1⟩
  | false => exact hb wh pins s1 σ H1 Q I1 q1
theorem pt_not (ha : PT X a tA) : PT X (.UnaryOp .Not a pos) (tNot tA) := by
  intro pins s σ H Q I h
  exact isTrue_not (ha pins s σ H (fun c H1 => Q (!c) H1) I h)
def tAndV (ta tb : TE) : TE := fun σ H Q => ta σ H fun x H1 => ∃ c, x = .bl c ∧ if c = true then tb σ H1 Q else Q (.bl false) H1
def tOrV (ta tb : TE) : TE := fun σ H Q => ta σ H fun x H1 => ∃ c, x = .bl c ∧ if c = true then Q (.bl true) H1 else tb σ H1 Q
def tNotV (ta : TE) : TE := fun σ H Q => ta σ H fun x H1 => ∃ c, x = .bl c ∧ Q (.bl (!c)) H1
theorem pe_one {op} {t : TE} (h : PE X a t) : PE X (.BoolOp op [a] pos) t := fun pins s σ H Q I hw => BoolOp_one (h pins s σ H Q I hw)
theorem pe_and (ha : PE X a ta) (hb : PE X (.BoolOp .And (b :: rest) pos) tb) : PE X (.BoolOp .And (a :: b :: rest) pos) (tAndV ta tb) := by
  intro pins s σ H Q I h
  refine BoolOp_and (thn (ha pins s σ H _ I h) fun v s1 ⟨x, H1, I1, r1, q1⟩ => ?_)
  obtain ⟨c, rfl, q1⟩ := q1
  cases r1
  refine wpAny_truthy_bool ?_
  cases c with
  | true => exact hb pins s1 σ H1 Q I1 q1
  | false => exact ⟨.bl false, H1, I1, rfl, q1⟩
theorem pe_or (ha : PE X a ta) (hb : PE X (.BoolOp .Or (b :: rest) pos) tb) : PE X (.BoolOp .Or (a :: b :: rest) pos) (tOrV ta tb) := by
  intro pins s σ H Q I h
  refine BoolOp_or (thn (ha pins s σ H _ I h) fun v s1 ⟨x, H1, I1, r1, q1⟩ => ?_)
  obtain ⟨c, rfl, q1⟩ := q1
  cases r1
  refine wpAny_truthy_bool ?_
  cases c with
  | false => exact hb pins s1 σ H1 Q I1 q1
  | true => exact ⟨.bl true, H1, I1, rfl, q1⟩
theorem pe_not (ha : PE X a ta) : PE X (.UnaryOp .Not a pos) (tNotV ta) := by
  intro pins s σ H Q I h
  refine UnaryOp_ (thn (ha pins s σ H _ I h) fun v s1 ⟨x, H1, I1, r1, q1⟩ => ?_)
  obtain ⟨c, rfl, q1⟩ := q1
  cases r1
  exact not_of (wpAny_truthy_bool ⟨.bl (!c), H1, I1, rfl, q1⟩)
def tIf (t : TT) (ta tb : TE) : TE := fun σ H Q => t σ H fun c H1 => if c = true then ta σ H1 Q else tb σ H1 Q
theorem pe_ifExp {c : Expr} (hc : PT X c tA) (ha : PE X a ta) (hb : PE X b tb) : PE X (.IfExp c a b pos) (tIf tA ta tb) := by
  intro pins s σ H Q I h
  refine wpAny_IfExp (thn (hc pins s σ H _ I h) fun d s1 ⟨H1, I1, q1⟩ => ?_)
  cases d with
  | true => exact ha pins s1 σ H1 Q I1 q1
  | false => exact hb pins s1 σ H1 Q I1 q1
end
end L2
namespace L2
open PySem PySem.Spec PyProof.Rows
def SqL (K : PySem.W.Frag) (H : Hp) (a : Addr) (xs : List V) : Prop :=
  Rd H a (.lst xs) ∨
    ∃ (o : Obj) (its : Array Value) (n : Nat), K.lookup a = some o ∧ o.cls = .type "list" ∧ o.dict = none ∧ o.data = .seq its n ∧ its.size ≤ sizeLine ∧ Vals xs its.toList
def SqT (K : PySem.W.Frag) (H : Hp) (a : Addr) (xs : List V) : Prop :=
  Rd H a (.tup xs) ∨
    ∃ (o : Obj) (its : Array Value) (n : Nat), K.lookup a = some o ∧ o.cls = .type "tuple" ∧ o.data = .seq its n ∧ its.size ≤ sizeLine ∧ Vals xs its.toList
def absV : Value → Option V
  | .none => some .non
  | .bool b => some (.bl b)
  | .int i _ => some (.int i)
  | .str x _ => some (.str x)
  | .bytes b _ => some (.byt b)
  | .float b _ => some (.flt b)
  | .ref a => some (.ref a)
  | .type n => some (.ty n)
  | _ => none
theorem RelV.abs {x : V} {u : Value} (r : RelV x u) : absV u = some x := by
  cases x with
  | non => cases r; rfl
  | bl _ => cases r; rfl
  | int _ => obtain ⟨t, rfl⟩ := r; rfl
  | str _ => obtain ⟨t, rfl⟩ := r; rfl
  | byt _ => obtain ⟨t, rfl⟩ := r; rfl
  | flt _ => obtain ⟨t, rfl⟩ := r; rfl
  | ref _ => cases r; rfl
  | ty _ => cases r; rfl
theorem RelV.inj {x y : V} {u : Value} (r : RelV x u) (q : RelV y u) : x = y := Option.some.inj (r.abs.symm.trans q.abs)
theorem Vals.inj : ∀ {xs ys : List V} {us : List Value}, Vals xs us → Vals ys us → xs = ys
  | _, _, _, .nil, .nil => rfl
  | _, _, _, .cons r t, .cons r' t' => by rw [r.inj r', Vals.inj t t']
section
variable {X : Cx} {pins : List (Addr × Obj)} {σ : St} {H : Hp} {s : Shared} {a : Addr} {xs ys : List V}
theorem SqL.of {K : PySem.W.Frag} (h : H a = some (.lst xs)) : SqL K H a xs := .inl (.inl h)
theorem SqT.of {K : PySem.W.Frag} (h : H a = some (.tup xs)) : SqT K H a xs := .inl (.inl h)
theorem Inv.list (I : Inv X pins σ H s) (h : SqL X.K H a xs) : ∃ its : List Value, Vals xs its ∧ PlainL s.heap a its.toArray ∧ xs.length ≤ sizeLine := by
  rcases h with h | ⟨o, its, n, hk, hc, hd, hs, hz, r⟩
  · obtain ⟨z, its, n, r, e⟩ := h.ok I.hok
    exact ⟨its, r, ⟨_, n, e, rfl, rfl, rfl⟩, z⟩
  · refine ⟨its.toList, r, ⟨o, n, I.kIn a o hk, hc, hd, by simpa using hs⟩, ?_⟩
    have e := r.length
    simp only [Array.length_toList] at e
    omega
theorem Inv.tuple (I : Inv X pins σ H s) (h : SqT X.K H a xs) : ∃ its : List Value, Vals xs its ∧ IsTup s.heap a its.toArray ∧ xs.length ≤ sizeLine := by
  rcases h with h | ⟨o, its, n, hk, hc, hs, hz, r⟩
  · obtain ⟨z, its, r, p⟩ := h.ok I.hok
    exact ⟨its, r, p, z⟩
  · refine ⟨its.toList, r, ⟨o, I.kIn a o hk, hc, n, by simpa using hs⟩, ?_⟩
    have e := r.length
    simp only [Array.length_toList] at e
    omega
theorem Inv.list_inj (I : Inv X pins σ H s) (h : SqL X.K H a xs) (h' : SqL X.K H a ys) : xs = ys := by
  obtain ⟨its, r, ⟨o, n, e, _, _, d⟩, _⟩ := I.list h
  obtain ⟨its', r', ⟨o', n', e', _, _, d'⟩, _⟩ := I.list h'
  rw [e] at e'; cases e'
  rw [d] at d'
  injection d' with d1 _
  have : its = its' := by simpa using congrArg Array.toList d1
  subst this
  exact r.inj r'
theorem Inv.tuple_inj (I : Inv X pins σ H s) (h : SqT X.K H a xs) (h' : SqT X.K H a ys) : xs = ys := by
  obtain ⟨its, r, ⟨o, e, _, n, d⟩, _⟩ := I.tuple h
  obtain ⟨its', r', ⟨o', e', _, n', d'⟩, _⟩ := I.tuple h'
  rw [e] at e'; cases e'
  rw [d] at d'
  injection d' with d1 _
  have : its = its' := by simpa using congrArg Array.toList d1
  subst this
  exact r.inj r'
end
abbrev Cx.wish (X : Cx) (E : Value → Shared → Prop) : Cx := { X with xe := E }
abbrev Cx.nox (X : Cx) : Cx := X.wish fun _ _ => False
theorem Cx.Ok.wish {X : Cx} (ok : X.Ok) (E : Value → Shared → Prop) : (X.wish E).Ok :=
  ⟨ok.mod, ok.kind, ok.glob, ok.blt, ok.above, ok.inj, ok.has, ok.cab, ok.hd, ok.frames, ok.stk, ok.exf, ok.bs, ok.bsz, ok.noex, ok.exfs, ok.funs, ok.frf⟩
theorem Cx.Ok.unwish {X : Cx} {E : Value → Shared → Prop} (ok : (X.wish E).Ok) : X.Ok :=
  ⟨ok.mod, ok.kind, ok.glob, ok.blt, ok.above, ok.inj, ok.has, ok.cab, ok.hd, ok.frames, ok.stk, ok.exf, ok.bs, ok.bsz, ok.noex, ok.exfs, ok.funs, ok.frf⟩
section
variable {X : Cx} {pins : List (Addr × Obj)} {σ : St} {H : Hp} {s : Shared} {E : Value → Shared → Prop}
theorem Inv.wish (I : Inv X pins σ H s) (E : Value → Shared → Prop) : Inv (X.wish E) pins σ H s := ⟨I.ok.wish E, I.os, I.bare, I.base, I.loc, I.cell, I.free, I.freeC, I.pin, I.hok, I.len⟩
theorem Inv.unwish (I : Inv (X.wish E) pins σ H s) : Inv X pins σ H s := ⟨I.ok.unwish, I.os, I.bare, I.base, I.loc, I.cell, I.free, I.freeC, I.pin, I.hok, I.len⟩
theorem SP.unwish {D : Ends} {f : Flow} {s' : Shared} (h : SP (X.wish E) pins D f s') : SP X pins D f s' := by
  cases f with
  | next => obtain ⟨σ', H', I, q⟩ := h; exact ⟨σ', H', I.unwish, q⟩
  | brk => obtain ⟨σ', H', I, q⟩ := h; exact ⟨σ', H', I.unwish, q⟩
  | cont => obtain ⟨σ', H', I, q⟩ := h; exact ⟨σ', H', I.unwish, q⟩
  | ret u => obtain ⟨v, σ', H', I, r, q⟩ := h; exact ⟨v, σ', H', I.unwish, r, q⟩
theorem PE.nox {e : Expr} {t : TE} (h : PE X.nox e t) : PE X e t := fun pins s σ H Q I hw =>
  wpAny_mono (h pins s σ H Q (I.wish _) hw) (fun _ _ ⟨v, H', I', r, q⟩ => ⟨v, H', I'.unwish, r, q⟩) fun _ _ z => False.elim z
theorem PT.nox {e : Expr} {t : TT} (h : PT X.nox e t) : PT X e t := fun pins s σ H Q I hw =>
  wpAny_mono (h pins s σ H Q (I.wish _) hw) (fun _ _ ⟨H', I', q⟩ => ⟨H', I'.unwish, q⟩) fun _ _ z => False.elim z
theorem PSs.nox {st : List Stmt} {t : TS} (h : PSs X.nox st t) : PSs X st t := fun pins s σ H D I hw =>
  wpAny_mono (h pins s σ H D (I.wish _) hw) (fun _ _ q => q.unwish) fun _ _ z => False.elim z
end
section
variable {X : Cx} {st : Stmt} {rest : List Stmt} {t u : TS} {e : Expr} {te : TE} {pos : Pos}
def tNext : TS := fun D σ H => D.nx σ H
def tSeq (t u : TS) : TS := fun D σ H => t { D with nx := u D } σ H
theorem pss_nil : PSs X [] tNext := fun _ _ σ H _ I h => wpAny_execs_nil ⟨σ, H, I, h⟩
theorem pss_cons (h1 : PS X st t) (h2 : PSs X rest u) : PSs X (st :: rest) (tSeq t u) := by
  intro pins s σ H D I h
  refine wpAny_execs_cons (thn (h1 pins s σ H { D with nx := u D } I h) fun f s1 q => ?_)
  cases f with
  | next =>
    obtain ⟨σ', H', I', q⟩ := q
    exact h2 pins s1 σ' H' D I' q
  | ret v => exact q
  | brk => exact q
  | cont => exact q
theorem pss_one (h1 : PS X st t) : PSs X [st] t := by
  intro pins s σ H D I h
  refine wpAny_execs_cons (thn (h1 pins s σ H D I h) fun f s1 q => ?_)
  cases f with
  | next => exact wpAny_execs_nil q
  | ret v => exact q
  | brk => exact q
  | cont => exact q
def tBreak : TS := fun D σ H => D.bk σ H
def tCont : TS := fun D σ H => D.ct σ H
theorem ps_pass : PS X (.Pass pos) tNext := fun _ _ σ H _ I h => wpAny_Pass ⟨σ, H, I, h⟩
theorem ps_break : PS X (.Break pos) tBreak := fun _ _ σ H _ I h => wpAny_Break ⟨σ, H, I, h⟩
theorem ps_continue : PS X (.Continue pos) tCont := fun _ _ σ H _ I h => wpAny_Continue ⟨σ, H, I, h⟩
theorem Inv.quiet {pins : List (Addr × Obj)} {σ : St} {H : Hp} {s : Shared} (I : Inv X pins σ H s) : interactive X.env = false := by simp [interactive, I.ok.kind]
theorem ps_doc {x j pos pos'} : PS X (.Expr (.Constant (.str x) j pos) pos') tNext := fun _ s σ H _ I h => wpAny_Expr (Calls.Constant_str (show SP X _ _ .next { s with toks := s.toks + 1 } from ⟨σ, H, I.tok _, h⟩)) I.quiet
def tDrop (te : TE) : TS := fun D σ H => te σ H fun _ H1 => D.nx σ H1
theorem ps_expr (he : PE X e te) (hs : swapsWith e none pos.line X.env = pure false := by rfl) : PS X (.Expr e pos) (tDrop te) := by
  intro pins s σ H D I h
  exact wpAny_Expr_any (thn (he pins s σ H _ I h) fun v s1 ⟨x, H1, I1, r1, q1⟩ => ⟨σ, H1, I1, q1⟩) I.quiet hs
def tRet (te : TE) : TS := fun D σ H => te σ H D.rt
theorem ps_ret (he : PE X e te) : PS X (.Return (some e) pos) (tRet te) := by
  intro pins s σ H D I h
  exact wpAny_Return_some (thn (he pins s σ H _ I h) fun v s1 ⟨x, H1, I1, r1, q1⟩ => ⟨x, σ, H1, I1, r1, q1⟩)
def tRetN : TS := fun D _ H => D.rt .non H
theorem ps_retN : PS X (.Return none pos) tRetN := fun _ _ σ H _ I h => wpAny_Return_none ⟨.non, σ, H, I, rfl, h⟩
def tIfS (c : TT) (t u : TS) : TS := fun D σ H => c σ H fun b H1 => if b = true then t D σ H1 else u D σ H1
theorem ps_if {c : Expr} {a b : List Stmt} {tc : TT} (hc : PT X c tc) (ha : PSs X a t) (hb : PSs X b u) : PS X (.If c a b pos) (tIfS tc t u) := by
  intro pins s σ H D I h
  refine wpAny_If (thn (hc pins s σ H _ I h) fun d s1 ⟨H1, I1, q1⟩ => ?_)
  cases d with
  | true => exact ha pins s1 σ H1 D I1 q1
  | false => exact hb pins s1 σ H1 D I1 q1
end
abbrev TG := V → St → Hp → (St → Hp → Prop) → Prop
abbrev TGs := List V → St → Hp → (St → Hp → Prop) → Prop
def PG (X : Cx) (target : Expr) (t : TG) : Prop :=
  ∀ (pins : List (Addr × Obj)) (s : Shared) (σ : St) (H : Hp) (v : V) (u : Value) (Q : St → Hp → Prop), Inv X pins σ H s → RelV v u → t v σ H Q →
    wpAny (model X.prog X.w) X.A (assign target X.env u) (fun _ s' => ∃ σ' H', Inv X pins σ' H' s' ∧ Q σ' H') X.xe s
def PGs (X : Cx) (ts : List Expr) (t : TGs) : Prop :=
  ∀ (pins : List (Addr × Obj)) (s : Shared) (σ : St) (H : Hp) (vs : List V) (us : List Value) (Q : St → Hp → Prop), Inv X pins σ H s → Vals vs us → t vs σ H Q →
    wpAny (model X.prog X.w) X.A (assignInOrder ((assignEach ts X.env).map (·.2)) us) (fun _ s' => ∃ σ' H', Inv X pins σ' H' s' ∧ Q σ' H') X.xe s
abbrev TSet := V → V → V → Hp → (Hp → Prop) → Prop
def PSet (X : Cx) (t : TSet) : Prop :=
  ∀ (pins : List (Addr × Obj)) (s : Shared) (σ : St) (H : Hp) (o i v : V) (ov iv u : Value) (Q : Hp → Prop), Inv X pins σ H s → RelV o ov → RelV i iv → RelV v u → t o i v H Q →
    wpAny (model X.prog X.w) X.A (setItem ov iv u) (fun _ s' => ∃ H', Inv X pins σ H' s' ∧ Q H') X.xe s
section
variable {X : Cx} {pos : Pos}
def gName (i : Nat) : TG := fun v σ H Q => Q (σ.set i (some v)) H
theorem pg_name {i : Nat} {x : Str} (hN : X.N.Nodup) (hi : X.N[i]? = some x) (hx : Loc X.env.scope x) (hf : X.fn x = true ∨ X.env.scope.names.lookup x = some .local := by first | exact .inl rfl | exact .inr rfl | assumption) : PG X (.Name x pos) (gName i) := by
  intro pins s σ H v u Q I r h
  exact wpAny_assign_Name (store_ok I hN hi hx r (fun s' I' => ⟨_, H, I', h⟩) hf)
def gNil : TGs := fun vs σ H Q => vs = [] ∧ Q σ H
def gCons (t : TG) (u : TGs) : TGs := fun vs σ H Q => ∃ v r, vs = v :: r ∧ t v σ H fun σ' H' => u r σ' H' Q
theorem pgs_nil : PGs X [] gNil := by
  intro pins s σ H vs us Q I r h
  obtain ⟨e, h⟩ := h
  subst e
  cases r
  exact assignInOrder_nil ⟨σ, H, I, h⟩
theorem pgs_cons {e : Expr} {es : List Expr} {t : TG} {u : TGs} (h1 : PG X e t) (h2 : PGs X es u)
    (hs : (assignEach (e :: es) X.env).map (·.2) = assign e X.env :: (assignEach es X.env).map (·.2) := by rfl) : PGs X (e :: es) (gCons t u) := by
  intro pins s σ H vs us Q I r h
  obtain ⟨v, vr, e1, h⟩ := h
  subst e1
  cases r with
  | cons r rr =>
    rw [hs]
    refine assignInOrder_cons (thn (h1 pins s σ H _ _ _ I r h) fun _ s1 ⟨σ1, H1, I1, q1⟩ => ?_)
    exact h2 pins s1 σ1 H1 _ _ Q I1 rr q1
def gTup (K : PySem.W.Frag) (n : Nat) (t : TGs) : TG := fun v σ H Q => ∃ a xs, v = .ref a ∧ SqT K H a xs ∧ xs.length = n ∧ t xs σ H Q
theorem pg_tup {es : List Expr} {k : Nat} {t : TGs} {n : Nat} (hc : X.calm = true) (h : PGs X es t)
    (hn : (assignEach es X.env).length = n := by rfl) (hst : (assignEach es X.env).findIdx? (·.1) = none := by rfl) : PG X (.Tuple es k pos) (gTup X.K n t) := by
  intro pins s σ H v u Q I r hw
  obtain ⟨a, xs, e1, hq, hl, hw⟩ := hw
  subst e1
  cases r
  obtain ⟨its, rv, ht, hz⟩ := I.tuple hq
  refine assign_Tuple_tuple (I.ok.hd hc) ht (by simp [hn, ← hl, rv.length]) hst fun h' hx => ?_
  have I1 : Inv X pins σ H { s with heap := h' } := I.kept (t' := s.toks) fun b o e => hx b o (Nat.ne_of_lt (Heap.lt_size e)) e
  exact h pins _ σ H xs _ Q I1 (by simpa using rv) hw
def gSub (to ti : TE) (t : TSet) : TG := fun v σ H Q => to σ H fun o H1 => ti σ H1 fun i H2 => t o i v H2 fun H3 => Q σ H3
theorem pg_sub {o i : Expr} {to ti : TE} {t : TSet} (ho : PE X o to) (hi : PE X i ti) (hs : PSet X t)
    (ha : ∀ v, assign (.Subscript o i pos) X.env v = (do
      let ov ← holding [v] (eval o X.env)
      let iv ← holding [v, ov] (eval i X.env)
      standAt pos
      holding [v, ov, iv] (setItem ov iv v)
      release [v, ov, iv] []) := by intro _; rfl) : PG X (.Subscript o i pos) (gSub to ti t) := by
  intro pins s σ H v u Q I r h
  rw [ha]
  refine wpAny_bind (wpAny_holding (thn (ho pins s σ H _ I h) fun ov s1 ⟨x, H1, I1, r1, q1⟩ => ?_))
  refine wpAny_bind (wpAny_holding (thn (hi pins s1 σ H1 _ I1 q1) fun iv s2 ⟨y, H2, I2, r2, q2⟩ => ?_))
  refine wpAny_bind (wpAny_standAt (wpAny_bind (wpAny_holding (thn (hs pins s2 σ H2 x y v ov iv u _ I2 r1 r2 r q2) fun _ s3 ⟨H3, I3, q3⟩ => ?_))))
  exact wpAny_release ⟨σ, H3, I3, q3⟩
def tAsg (te : TE) (g : TG) : TS := fun D σ H => te σ H fun x H1 => g x σ H1 D.nx
theorem ps_asg {tg e : Expr} {te : TE} {g : TG} (he : PE X e te) (hg : PG X tg g) (hs : swapsWithSole [tg] e pos.line X.env = pure false := by rfl) (hw : swappedStores [tg] e X.env = pure none := by rfl)
    (h1 : (assignEach [tg] X.env).map (·.2) = [assign tg X.env] := by rfl) : PS X (.Assign [tg] e pos) (tAsg te g) := by
  intro pins s σ H D I h
  refine wpAny_Assign_stores (thn (he pins s σ H _ I h) fun v s1 ⟨x, H1, I1, r1, q1⟩ => ?_) hs hw
  rw [h1]
  exact thn (hg pins s1 σ H1 x v _ I1 r1 q1) fun _ s2 q => q
theorem ps_set {i : Nat} {x : Str} {e : Expr} {te : TE} {pos' : Pos} (hN : X.N.Nodup) (hi : X.N[i]? = some x) (hx : Loc X.env.scope x) (he : PE X e te) (hs : swapsWith e (some (.Name x pos')) pos.line X.env = pure false := by rfl) (hf : X.fn x = true ∨ X.env.scope.names.lookup x = some .local := by first | exact .inl rfl | exact .inr rfl | assumption) :
    PS X (.Assign [.Name x pos'] e pos) (tAsg te (gName i)) := by
  intro pins s σ H D I h
  refine wpAny_Assign_Name (thn (he pins s σ H _ I h) fun v s1 ⟨y, H1, I1, r1, q1⟩ => ?_) hs
  exact store_ok I1 hN hi hx r1 (fun s2 I2 => ⟨_, H1, I2, q1⟩) hf
end
section
variable {X : Cx} {pos : Pos}
end
structure It where
  go : Nat → Hp → Prop
  yld : Nat → Hp → V → Hp → Prop
  stop : Nat → Hp → Prop
def FpOk (X : Cx) (pins : List (Addr × Obj)) (H : Hp) (b : Addr) : Prop :=
  H b = none ∧ b ≠ X.env.locals ∧ b ∉ X.fs ∧ (b ∈ X.ex ∨ X.s₀.heap.objs.size ≤ b) ∧ (∀ x c, X.env.cells.lookup x = some c → c ≠ b) ∧ ∀ p ∈ X.pn ++ pins, p.1 ≠ b
theorem Inv.fpOk {X : Cx} {pins : List (Addr × Obj)} {σ : St} {H H' : Hp} {s : Shared} {b : Addr} (I : Inv X pins σ H s) (hb : s.heap.objs.size ≤ b) (hn : H' b = none) : FpOk X pins H' b := by
  refine ⟨hn, Nat.ne_of_gt (Nat.lt_of_lt_of_le I.lt hb), I.nofs hb, .inr (Nat.le_trans I.sz hb), fun x c e z => ?_, fun p hp z => ?_⟩
  · obtain ⟨v, q⟩ := I.cell x c e
    exact absurd (Nat.lt_of_lt_of_le q.lt (by rw [z]; exact hb)) (Nat.lt_irrefl _)
  · exact absurd (Nat.lt_of_lt_of_le (Heap.lt_size (I.pin p hp).1) (by rw [z]; exact hb)) (Nat.lt_irrefl _)
structure Turn (P : Program) (w : World) (K : PySem.W.Frag) (tg : Expr) (J : It) (fp : List Addr) (it : Addr) (tn : Nat → Heap → Prop) : Prop where
  mem : it ∈ fp
  obj : ∀ i h, tn i h → ∀ b ∈ fp, ∃ o, h.get? b = some o ∧ ∀ v, o.data ≠ .cell v
  keep : ∀ i h h', tn i h → (∀ b ∈ fp, ∀ o, h.get? b = some o → h'.get? b = some o) → tn i h'
  item : ∀ (X : Cx), X.prog = P → X.w = w → X.K = K → X.calm = true → ∀ (i : Nat) (pins : List (Addr × Obj)) (s : Shared) (σ : St) (H : Hp) (E : Value → Shared → Prop), Inv X pins σ H s → (∀ b ∈ fp, FpOk X pins H b) → tn i s.heap → J.go i H →
    wpAny (model P w) X.A (pyNext (.ref it)) (fun r s1 => ∃ u, r = some u ∧
      wpAny (model P w) X.A (letOwnedTupleGo tg (.ref it) u) (fun _ s2 => ∃ x H', Inv X pins σ H' s2 ∧ RelV x u ∧ J.yld i H x H' ∧ tn (i + 1) s2.heap ∧ ∀ b ∈ fp, H' b = none) E s1) E s
  done : ∀ (X : Cx), X.prog = P → X.w = w → X.K = K → X.calm = true → ∀ (i : Nat) (pins : List (Addr × Obj)) (s : Shared) (σ : St) (H : Hp) (E : Value → Shared → Prop), Inv X pins σ H s → (∀ b ∈ fp, FpOk X pins H b) → tn i s.heap → J.stop i H →
    wpAny (model P w) X.A (pyNext (.ref it)) (fun r s1 => r = none ∧ Inv X pins σ H s1) E s
  self : ∀ (A : Around) (i : Nat) (s : Shared) (Q : Value → Shared → Prop) (E : Value → Shared → Prop), tn i s.heap → Q (.ref it) s → wpAny (model P w) A (pyIter (.ref it)) Q E s
abbrev TI := St → Hp → (It → Hp → Prop) → Prop
def PIE (X : Cx) (pins : List (Addr × Obj)) (σ : St) (tg : Expr) (R : It → Hp → Prop) (itv : Value) (s2 : Shared) : Prop :=
  ∃ (it : Addr) (fp : List Addr) (tn : Nat → Heap → Prop) (J : It) (H' : Hp), itv = .ref it ∧ Inv X pins σ H' s2 ∧ Turn X.prog X.w X.K tg J fp it tn ∧ tn 0 s2.heap ∧ (∀ b ∈ fp, FpOk X pins H' b) ∧ R J H'
def PI (X : Cx) (tg iter : Expr) (wi : TI) : Prop :=
  ∀ (pins : List (Addr × Obj)) (s : Shared) (σ : St) (H : Hp) (R : It → Hp → Prop), Inv X pins σ H s → wi σ H R →
    wpAny (model X.prog X.w) X.A (eval iter X.env) (fun v s1 => wpAny (model X.prog X.w) X.A (pyIter v) (PIE X pins σ tg R) X.xe s1) X.xe s
theorem go_of {M : Model} {A : Around} {E : Value → Shared → Prop} {s : Shared} {tg : Expr} {it : Addr} {u : Value} {o : Obj} {n : String} {vs : Array Value} {Q : Unit → Shared → Prop} (ho : s.heap.get? it = some o) (hc : o.cls = .type n) (hd : o.data = .fields vs)
    (hn : ["enumerate", "zip", "dict_itemiterator", "dict_reverseitemiterator", "odict_iterator", "itertools.zip_longest", "itertools.pairwise"].contains n = false) (hQ : Q () s) : wpAny M A (letOwnedTupleGo tg (.ref it) u) Q E s := by
  unfold letOwnedTupleGo
  cases tg <;> first
    | exact wpAny_pure hQ
    | (cases u <;> first
        | exact wpAny_pure hQ
        | (refine wpAny_bind (wpAny_load ho ?_)
           rw [hc, hd]
           show wpAny M A (if (["enumerate", "zip", "dict_itemiterator", "dict_reverseitemiterator", "odict_iterator", "itertools.zip_longest", "itertools.pairwise"].contains n && vs[0]? == some (rawInt _)) = true then _ else _) Q E s
           rw [if_neg (by intro h; rw [hn, Bool.false_and] at h; cases h)]
           exact wpAny_pure hQ))
def Itl (K : PySem.W.Frag) (a : Addr) : It :=
  ⟨fun i H => ∃ xs x, SqL K H a xs ∧ xs[i]? = some x, fun i H x H' => H' = H ∧ ∀ xs, SqL K H a xs → xs[i]? = some x, fun i H => ∃ xs, SqL K H a xs ∧ xs.length ≤ i⟩
def Itt (K : PySem.W.Frag) (a : Addr) : It :=
  ⟨fun i H => ∃ xs x, SqT K H a xs ∧ xs[i]? = some x, fun i H x H' => H' = H ∧ ∀ xs, SqT K H a xs → xs[i]? = some x, fun i H => ∃ xs, SqT K H a xs ∧ xs.length ≤ i⟩
def Itr (lo : Int) (n : Nat) : It := ⟨fun i _ => i < n, fun i H x H' => H' = H ∧ x = .int (lo + i), fun i _ => n ≤ i⟩
theorem turn_list {P : Program} {w : World} {K : PySem.W.Frag} {tg : Expr} (a it : Addr) : Turn P w K tg (Itl K a) [it] it (fun i h => h.IsListIter it a i) where
  mem := by simp
  obj := fun i h st b hb => by
    have e : b = it := by simpa using hb
    subst e
    obtain ⟨o, e, c, d⟩ := st
    exact ⟨o, e, fun v z => by rw [d] at z; cases z⟩
  keep := fun i h h' st k => st.at fun o e => k it (by simp) o e
  item := by
    intro X hP hw hK hc i pins s σ H E I hf st hg
    subst hP hw hK
    obtain ⟨xs, x, hq, hx⟩ := hg
    obtain ⟨its, rv, p, hz⟩ := I.list hq
    obtain ⟨u, hu, ru⟩ := rv.get hx
    obtain ⟨f0, f1, f2, f3, f4, f5⟩ := hf it (by simp)
    refine wpAny_pyNext_list_item st p.isList (x := u) (by simpa using hu) fun h' st' sb => ?_
    have I1 : Inv X pins σ H { s with heap := h' } := I.turned (t' := s.toks) (fun b o hb e => (sb.2 b hb).trans e) f0 f1 f3 f4 f5
    obtain ⟨o, e, c, d⟩ := id st'
    exact ⟨u, rfl, go_of (s := { s with heap := h' }) e c d (by decide) ⟨x, H, I1, ru, ⟨rfl, fun ys hy => by rw [I.list_inj hy hq]; exact hx⟩, st', fun b hb => (hf b hb).1⟩⟩
  done := by
    intro X hP hw hK hc i pins s σ H E I hf st hg
    subst hP hw hK
    obtain ⟨xs, hq, hx⟩ := hg
    obtain ⟨its, rv, p, hz⟩ := I.list hq
    obtain ⟨f0, f1, f2, f3, f4, f5⟩ := hf it (by simp)
    have hl := rv.length
    exact wpAny_pyNext_list_end (I.ok.hd hc) st p.isList (by simp; omega) fun h' eb => ⟨rfl, I.turned (t' := s.toks) (fun b o hb e => eb b o hb e) f0 f1 f3 f4 f5⟩
  self := fun _ _ _ _ _ st h => wpAny_pyIter_listiter st h
theorem turn_tuple {P : Program} {w : World} {K : PySem.W.Frag} {tg : Expr} (a it : Addr) : Turn P w K tg (Itt K a) [it] it (fun i h => h.IsTupleIter it a i) where
  mem := by simp
  obj := fun i h st b hb => by
    have e : b = it := by simpa using hb
    subst e
    obtain ⟨o, e, c, d⟩ := st
    exact ⟨o, e, fun v z => by rw [d] at z; cases z⟩
  keep := fun i h h' st k => st.at fun o e => k it (by simp) o e
  item := by
    intro X hP hw hK hc i pins s σ H E I hf st hg
    subst hP hw hK
    obtain ⟨xs, x, hq, hx⟩ := hg
    obtain ⟨its, rv, p, hz⟩ := I.tuple hq
    obtain ⟨u, hu, ru⟩ := rv.get hx
    obtain ⟨f0, f1, f2, f3, f4, f5⟩ := hf it (by simp)
    refine wpAny_pyNext_tuple_item st (show s.heap.IsTuple a its.toArray from p) (x := u) (by simpa using hu) fun h' st' sb => ?_
    have I1 : Inv X pins σ H { s with heap := h' } := I.turned (t' := s.toks) (fun b o hb e => (sb.2 b hb).trans e) f0 f1 f3 f4 f5
    obtain ⟨o, e, c, d⟩ := id st'
    exact ⟨u, rfl, go_of (s := { s with heap := h' }) e c d (by decide) ⟨x, H, I1, ru, ⟨rfl, fun ys hy => by rw [I.tuple_inj hy hq]; exact hx⟩, st', fun b hb => (hf b hb).1⟩⟩
  done := by
    intro X hP hw hK hc i pins s σ H E I hf st hg
    subst hP hw hK
    obtain ⟨xs, hq, hx⟩ := hg
    obtain ⟨its, rv, p, hz⟩ := I.tuple hq
    obtain ⟨f0, f1, f2, f3, f4, f5⟩ := hf it (by simp)
    have hl := rv.length
    exact wpAny_pyNext_tuple_end (I.ok.hd hc) st (show s.heap.IsTuple a its.toArray from p) (by simp; omega) fun h' eb => ⟨rfl, I.turned (t' := s.toks) (fun b o hb e => eb b o hb e) f0 f1 f3 f4 f5⟩
  self := fun _ _ _ _ _ st h => wpAny_pyIter_tupleiter st h
theorem turn_range {P : Program} {w : World} {K : PySem.W.Frag} {tg : Expr} (it : Addr) (lo : Int) (n : Nat) : Turn P w K tg (Itr lo n) [it] it (fun i h => IsRangeIter h it (lo + (i : Nat) * 1) ((n : Int) - (i : Nat)) 1) where
  mem := by simp
  obj := fun i h st b hb => by
    have e : b = it := by simpa using hb
    subst e
    exact ⟨_, st, fun v z => by
      have z' : Data.fields _ = Data.cell v := z
      cases z'⟩
  keep := fun i h h' st k => k it (by simp) _ st
  item := by
    intro X hP hw hK hc i pins s σ H E I hf st hg
    subst hP hw hK
    obtain ⟨f0, f1, f2, f3, f4, f5⟩ := hf it (by simp)
    have W := Walks.range (prog := X.prog) (w := X.w) (I.ok.hd hc) it lo 1 n
    refine W.item i s _ _ hg st fun v h' tk hv st' kk => ?_
    obtain ⟨t, rfl⟩ := hv
    have I1 : Inv X pins σ H { s with heap := h', toks := tk } := I.turned (fun b o hb e => kk b o (by simpa using hb) e) f0 f1 f3 f4 f5
    refine ⟨_, rfl, go_of (s := { s with heap := h', toks := tk }) (n := "range_iterator") st' rfl rfl (by decide) ⟨.int (lo + i), H, I1, ⟨t, ?_⟩, ⟨rfl, rfl⟩, st', fun b hb => (hf b hb).1⟩⟩
    rw [Int.mul_one]
  done := by
    intro X hP hw hK hc i pins s σ H E I hf st hg
    subst hP hw hK
    obtain ⟨f0, f1, f2, f3, f4, f5⟩ := hf it (by simp)
    exact wpAny_pyNext_range_end (I.ok.hd hc) st (by have : n ≤ i := hg; omega) fun h' eb => ⟨rfl, I.turned (t' := s.toks) (fun b o hb e => eb b o hb e) f0 f1 f3 f4 f5⟩
  self := fun _ _ _ _ _ st h => wpAny_pyIter_rangeiter st h
end L2
namespace L2
open PySem PySem.Spec PyProof.Rows
section
variable {X : Cx} {tg : Expr}
def iList (K : PySem.W.Frag) (tl : TE) : TI := fun σ H R => tl σ H fun x H1 => ∃ a, x = .ref a ∧ (∃ xs, SqL K H1 a xs) ∧ R (Itl K a) H1
def iTup (K : PySem.W.Frag) (tl : TE) : TI := fun σ H R => tl σ H fun x H1 => ∃ a, x = .ref a ∧ (∃ xs, SqT K H1 a xs) ∧ R (Itt K a) H1
theorem pi_list {l : Expr} {tl : TE} (hl : PE X l tl) : PI X tg l (iList X.K tl) := by
  intro pins s σ H R I h
  refine thn (hl pins s σ H _ I h) fun v s1 ⟨x, H1, I1, r1, q1⟩ => ?_
  obtain ⟨a, e, ⟨xs, hq⟩, q⟩ := q1
  subst e
  cases r1
  obtain ⟨its, rv, p, hz⟩ := I1.list hq
  refine wpAny_pyIter_list p.isList ?_
  refine ⟨s1.heap.objs.size, [s1.heap.objs.size], _, _, H1, rfl, I1.kept (t' := s1.toks) fun b o e => Heap.get?_push_of_some _ e, turn_list a _, ⟨_, Heap.get?_push_size _ rfl, rfl, rfl⟩, fun b hb => ?_, q⟩
  have e : b = s1.heap.objs.size := by simpa using hb
  subst e
  exact I1.fpOk (Nat.le_refl _) (I1.hok.fresh (Nat.le_refl _))
theorem pi_tup {l : Expr} {tl : TE} (hl : PE X l tl) : PI X tg l (iTup X.K tl) := by
  intro pins s σ H R I h
  refine thn (hl pins s σ H _ I h) fun v s1 ⟨x, H1, I1, r1, q1⟩ => ?_
  obtain ⟨a, e, ⟨xs, hq⟩, q⟩ := q1
  subst e
  cases r1
  obtain ⟨its, rv, p, hz⟩ := I1.tuple hq
  refine wpAny_pyIter_tuple (show s1.heap.IsTuple a its.toArray from p) ?_
  refine ⟨s1.heap.objs.size, [s1.heap.objs.size], _, _, H1, rfl, I1.kept (t' := s1.toks) fun b o e => Heap.get?_push_of_some _ e, turn_tuple a _, ⟨_, Heap.get?_push_size _ rfl, rfl, rfl⟩, fun b hb => ?_, q⟩
  have e : b = s1.heap.objs.size := by simpa using hb
  subst e
  exact I1.fpOk (Nat.le_refl _) (I1.hok.fresh (Nat.le_refl _))
theorem range_it {pins : List (Addr × Obj)} {σ : St} {H : Hp} {s : Shared} {R : It → Hp → Prop} {E : Value → Shared → Prop} {lo hi : Int} {t u v : Tok} {tk : Nat} (I : Inv X pins σ H s) (h1 : -(2 ^ 62) ≤ lo) (h2 : lo < 2 ^ 62) (h3 : -(2 ^ 62) ≤ hi) (h4 : hi < 2 ^ 62)
    (q : R (Itr lo (hi - lo).toNat) H) : wpAny (model X.prog X.w) X.A (pyIter (.ref s.heap.objs.size)) (PIE X pins σ tg R) E { s with heap := s.heap.push { cls := .type "range", data := .fields #[.int lo t, .int hi u, .int 1 v] }, toks := tk } := by
  refine wpAny_pyIter_range (IsRange.new ..) (small_one h1 h2 h3 h4) ?_
  have I1 : Inv X pins σ H { s with heap := s.heap.push { cls := .type "range", data := .fields #[.int lo t, .int hi u, .int 1 v] }, toks := tk } := I.kept fun b o e => Heap.get?_push_of_some _ e
  refine ⟨(s.heap.push { cls := .type "range", data := .fields #[.int lo t, .int hi u, .int 1 v] }).objs.size, [(s.heap.push { cls := .type "range", data := .fields #[.int lo t, .int hi u, .int 1 v] }).objs.size], _, _, H, rfl,
    I1.kept (t' := tk) fun b o e => Heap.get?_push_of_some _ e, turn_range _ lo (hi - lo).toNat, ?_, fun b hb => ?_, q⟩
  · have e1 : lo + ((0 : Nat) : Int) * 1 = lo := by simp
    have e2 : (((hi - lo).toNat : Nat) : Int) - ((0 : Nat) : Int) = Builtin.Range.rangeSize lo hi 1 := by rw [rangeSize_one]; split <;> omega
    show IsRangeIter _ _ (lo + ((0 : Nat) : Int) * 1) ((((hi - lo).toNat : Nat) : Int) - ((0 : Nat) : Int)) 1
    rw [e1, e2]
    exact Heap.get?_push_size _ rfl
  · have e : b = (s.heap.push { cls := .type "range", data := .fields #[.int lo t, .int hi u, .int 1 v] }).objs.size := by simpa using hb
    subst e
    exact I1.fpOk (Nat.le_refl _) (I1.hok.fresh (Nat.le_refl _))
def iRng1 (ta : TA) : TI := fun σ H R => ta σ H fun vs H1 => ∃ j : Int, vs = [.int j] ∧ -(2 ^ 62) ≤ j ∧ j < 2 ^ 62 ∧ R (Itr 0 j.toNat) H1
theorem pi_range1 {a : Expr} {ta : TA} {p pos : Pos} (hg : Gl X "range") (hm : X.mg "range" = none) (ha : PA X [a] ta) (hs : starEach [a] X.env = [(false, eval a X.env)] := by rfl) : PI X tg (.Call (.Name "range" p) [a] [] pos) (iRng1 ta) := by
  intro pins s σ H R I h
  refine Call_ (ld_blt I hg hm boot_range (PyProof.Rows.callWith_type1 (thn (ha pos pins s σ H _ I h) fun us s1 ⟨vs, H1, I1, r1, q1⟩ => ?_) hs rfl))
  obtain ⟨j, e, q1, q2, q⟩ := q1
  subst e
  cases r1 with
  | cons r rr =>
    cases rr
    obtain ⟨t, rfl⟩ := r
    exact call_range_1 (range_it I1 (by omega) (by omega) q1 q2 (by simpa using q))
def tFor (wi : TI) (g : TG) (tb : TS) : TS := fun D σ H => wi σ H fun J H1 => ∃ W : Nat → Nat → St → Hp → Prop, (∃ m, W 0 m σ H1) ∧ ∀ i m σ H, W i m σ H →
  (J.stop i H ∧ D.nx σ H) ∨ (J.go i H ∧ ∃ N : St → Hp → Prop, (∀ σ' H', N σ' H' → ∃ m', m' < m ∧ W (i + 1) m' σ' H') ∧ ∀ x H', J.yld i H x H' → g x σ H' fun σ2 H2 => tb { D with nx := N, ct := N, bk := D.nx } σ2 H2)
def pinsAt (fp : List Addr) (h : Heap) : List (Addr × Obj) := fp.filterMap fun b => (h.get? b).map fun o => (b, o)
theorem mem_pinsAt {fp : List Addr} {h : Heap} {b : Addr} {o : Obj} (hb : b ∈ fp) (e : h.get? b = some o) : (b, o) ∈ pinsAt fp h := List.mem_filterMap.mpr ⟨b, hb, by rw [e]; rfl⟩
theorem of_pinsAt {fp : List Addr} {h : Heap} {p : Addr × Obj} (hp : p ∈ pinsAt fp h) : p.1 ∈ fp ∧ h.get? p.1 = some p.2 := by
  obtain ⟨b, hb, e⟩ := List.mem_filterMap.mp hp
  cases q : h.get? b with
  | none => rw [q] at e; cases e
  | some o =>
    rw [q] at e
    have e' : (b, o) = p := Option.some.inj e
    subst e'
    exact ⟨hb, q⟩
theorem Inv.pinned {pins : List (Addr × Obj)} {σ : St} {H : Hp} {s : Shared} {fp : List Addr} (I : Inv X pins σ H s) (hf : ∀ b ∈ fp, FpOk X pins H b) (ho : ∀ b ∈ fp, ∃ o, s.heap.get? b = some o ∧ ∀ v, o.data ≠ .cell v) : Inv X (pins ++ pinsAt fp s.heap) σ H s :=
  I.pins_of fun p hp => (List.mem_append.mp hp).elim (fun z => I.pin p (List.mem_append_right _ z)) fun z => by
    obtain ⟨hb, e⟩ := of_pinsAt z
    obtain ⟨f0, f1, f2, _⟩ := hf p.1 hb
    obtain ⟨o, e', d⟩ := ho p.1 hb
    rw [e] at e'; cases e'
    exact ⟨e, f0, f1, f2, d⟩
theorem Inv.unpinned {pins pl : List (Addr × Obj)} {σ : St} {H : Hp} {s : Shared} (I : Inv X (pins ++ pl) σ H s) : Inv X pins σ H s := I.pins_of fun p hp => I.pin p (List.mem_append_right _ (List.mem_append_left _ hp))
theorem ps_for {iter : Expr} {body : List Stmt} {wi : TI} {g : TG} {tb : TS} {pos : Pos} (hp : PassesOwn (model X.prog X.w) X.A X.env X.xe) (hc : X.calm = true) (hi : PI X tg iter wi) (hg : PG X tg g) (hb : PSs X body tb)
    (hs : ∀ x, foldedSetIterable iter X.env x = pure x := by intro _; rfl) : PS X (.For tg iter body [] pos) (tFor wi g tb) := by
  intro pins s σ H D I h
  refine wpAny_For (thn (hi pins s σ H _ I h) fun v s1 h1 => thn h1 fun itv s2 h2 => ?_) hs
  obtain ⟨it, fp, tn, J, H2, e, I2, T, st2, f2, W, ⟨m0, w0⟩, turn⟩ := h2
  subst e
  -- what stays true of the iterator's objects through the loop
  have stat : ∀ {H' : Hp}, (∀ b ∈ fp, H' b = none) → ∀ b ∈ fp, FpOk X pins H' b := fun hn b hb => ⟨hn b hb, (f2 b hb).2⟩
  refine codeAny_forLoop_any (fun n s' => ∃ i σ' H', Inv X pins σ' H' s' ∧ tn i s'.heap ∧ (∀ b ∈ fp, H' b = none) ∧ W i n σ' H') ?_ m0 ⟨0, σ, H2, I2, st2, fun b hb => (f2 b hb).1, w0⟩
  rintro n s3 ⟨i, σ3, H3, I3, st3, fr3, w3⟩
  rcases turn i n σ3 H3 w3 with ⟨stop, qn⟩ | ⟨go, N, hN, step⟩
  · refine wpAny_passesOwn hp (thn (T.done X rfl rfl rfl hc i pins s3 σ3 H3 X.xe I3 (stat fr3) st3 stop) fun r s4 ⟨hr, I4⟩ => ?_)
    subst hr
    exact wpAny_execs_nil ⟨σ3, H3, I4, qn⟩
  · refine wpAny_passesOwn hp (thn (T.item X rfl rfl rfl hc i pins s3 σ3 H3 X.xe I3 (stat fr3) st3 go) fun r s4 ⟨u, hr, h4⟩ => ?_)
    subst hr
    refine wpAny_passesOwn hp (thn h4 fun _ s5 ⟨x, H5, I5, r5, y5, st5, fr5⟩ => ?_)
    have I5' := I5.pinned (stat fr5) (T.obj _ _ st5)
    refine wpAny_passesOwn hp (thn (hg _ s5 σ3 H5 x u _ I5' r5 (step x H5 y5)) fun _ s6 ⟨σ6, H6, I6, q6⟩ => ?_)
    refine wpAny_passesOwn hp (thn (hb _ s6 σ6 H6 _ I6 q6) fun f s7 q7 => ?_)
    have again : ∀ {σ7 : St} {H7 : Hp}, Inv X (pins ++ pinsAt fp s5.heap) σ7 H7 s7 → N σ7 H7 → ∃ m, m < n ∧ ∃ i σ' H', Inv X pins σ' H' s7 ∧ tn i s7.heap ∧ (∀ b ∈ fp, H' b = none) ∧ W i m σ' H' := fun {σ7 H7} I7 n7 => by
      obtain ⟨m', hm, w7⟩ := hN σ7 H7 n7
      refine ⟨m', hm, i + 1, σ7, H7, I7.unpinned, T.keep _ _ _ st5 fun b hb o e => (I7.pin (b, o) (List.mem_append_right _ (List.mem_append_right _ (mem_pinsAt hb e)))).1, fun b hb => ?_, w7⟩
      obtain ⟨o, e, d⟩ := T.obj _ _ st5 b hb
      exact (I7.pin (b, o) (List.mem_append_right _ (List.mem_append_right _ (mem_pinsAt hb e)))).2.1
    cases f with
    | next => obtain ⟨σ7, H7, I7, n7⟩ := q7; exact again I7 n7
    | cont => obtain ⟨σ7, H7, I7, n7⟩ := q7; exact again I7 n7
    | brk => obtain ⟨σ7, H7, I7, q7⟩ := q7; exact ⟨σ7, H7, I7.unpinned, q7⟩
    | ret v => obtain ⟨x7, σ7, H7, I7, r7, q7⟩ := q7; exact ⟨x7, σ7, H7, I7.unpinned, r7, q7⟩
end
theorem for_list {K : PySem.W.Frag} {a : Addr} {xs : List V} {g : TG} {tb : TS} {D : Ends} {σ : St} {H : Hp} (Pv : Nat → St → Hp → Prop) (h0 : Pv 0 σ H) (hl : ∀ i σ H, i ≤ xs.length → Pv i σ H → SqL K H a xs)
    (hs : ∀ i x σ H, xs[i]? = some x → Pv i σ H → g x σ H fun σ2 H2 => tb { D with nx := Pv (i + 1), ct := Pv (i + 1), bk := D.nx } σ2 H2) (hd : ∀ σ H, Pv xs.length σ H → D.nx σ H) :
    ∃ W : Nat → Nat → St → Hp → Prop, (∃ m, W 0 m σ H) ∧ ∀ i m σ H, W i m σ H →
      ((Itl K a).stop i H ∧ D.nx σ H) ∨ ((Itl K a).go i H ∧ ∃ N : St → Hp → Prop, (∀ σ' H', N σ' H' → ∃ m', m' < m ∧ W (i + 1) m' σ' H') ∧ ∀ x H', (Itl K a).yld i H x H' → g x σ H' fun σ2 H2 => tb { D with nx := N, ct := N, bk := D.nx } σ2 H2) := by
  refine ⟨fun i m σ H => m = xs.length - i ∧ i ≤ xs.length ∧ Pv i σ H, ⟨xs.length, by simp, Nat.zero_le _, h0⟩, ?_⟩
  rintro i m σ H ⟨rfl, hi, p⟩
  have q := hl i σ H hi p
  by_cases hlt : i < xs.length
  · refine .inr ⟨⟨xs, xs[i], q, by simp [hlt]⟩, Pv (i + 1), fun σ' H' p' => ⟨xs.length - (i + 1), by omega, rfl, hlt, p'⟩, fun x H' y => ?_⟩
    obtain ⟨e, y⟩ := y
    subst e
    exact hs i x σ _ (y xs q) p
  · have e : i = xs.length := by omega
    subst e
    exact .inl ⟨⟨xs, q, Nat.le_refl _⟩, hd σ H p⟩
theorem for_tup {K : PySem.W.Frag} {a : Addr} {xs : List V} {g : TG} {tb : TS} {D : Ends} {σ : St} {H : Hp} (Pv : Nat → St → Hp → Prop) (h0 : Pv 0 σ H) (hl : ∀ i σ H, i ≤ xs.length → Pv i σ H → SqT K H a xs)
    (hs : ∀ i x σ H, xs[i]? = some x → Pv i σ H → g x σ H fun σ2 H2 => tb { D with nx := Pv (i + 1), ct := Pv (i + 1), bk := D.nx } σ2 H2) (hd : ∀ σ H, Pv xs.length σ H → D.nx σ H) :
    ∃ W : Nat → Nat → St → Hp → Prop, (∃ m, W 0 m σ H) ∧ ∀ i m σ H, W i m σ H →
      ((Itt K a).stop i H ∧ D.nx σ H) ∨ ((Itt K a).go i H ∧ ∃ N : St → Hp → Prop, (∀ σ' H', N σ' H' → ∃ m', m' < m ∧ W (i + 1) m' σ' H') ∧ ∀ x H', (Itt K a).yld i H x H' → g x σ H' fun σ2 H2 => tb { D with nx := N, ct := N, bk := D.nx } σ2 H2) := by
  refine ⟨fun i m σ H => m = xs.length - i ∧ i ≤ xs.length ∧ Pv i σ H, ⟨xs.length, by simp, Nat.zero_le _, h0⟩, ?_⟩
  rintro i m σ H ⟨rfl, hi, p⟩
  have q := hl i σ H hi p
  by_cases hlt : i < xs.length
  · refine .inr ⟨⟨xs, xs[i], q, by simp [hlt]⟩, Pv (i + 1), fun σ' H' p' => ⟨xs.length - (i + 1), by omega, rfl, hlt, p'⟩, fun x H' y => ?_⟩
    obtain ⟨e, y⟩ := y
    subst e
    exact hs i x σ _ (y xs q) p
  · have e : i = xs.length := by omega
    subst e
    exact .inl ⟨⟨xs, q, Nat.le_refl _⟩, hd σ H p⟩
theorem for_range {lo : Int} {n : Nat} {g : TG} {tb : TS} {D : Ends} {σ : St} {H : Hp} (Pv : Nat → St → Hp → Prop) (h0 : Pv 0 σ H)
    (hs : ∀ i σ H, i < n → Pv i σ H → g (.int (lo + i)) σ H fun σ2 H2 => tb { D with nx := Pv (i + 1), ct := Pv (i + 1), bk := D.nx } σ2 H2) (hd : ∀ σ H, Pv n σ H → D.nx σ H) :
    ∃ W : Nat → Nat → St → Hp → Prop, (∃ m, W 0 m σ H) ∧ ∀ i m σ H, W i m σ H →
      ((Itr lo n).stop i H ∧ D.nx σ H) ∨ ((Itr lo n).go i H ∧ ∃ N : St → Hp → Prop, (∀ σ' H', N σ' H' → ∃ m', m' < m ∧ W (i + 1) m' σ' H') ∧ ∀ x H', (Itr lo n).yld i H x H' → g x σ H' fun σ2 H2 => tb { D with nx := N, ct := N, bk := D.nx } σ2 H2) := by
  refine ⟨fun i m σ H => m = n - i ∧ i ≤ n ∧ Pv i σ H, ⟨n, by simp, Nat.zero_le _, h0⟩, ?_⟩
  rintro i m σ H ⟨rfl, hi, p⟩
  by_cases hlt : i < n
  · refine .inr ⟨hlt, Pv (i + 1), fun σ' H' p' => ⟨n - (i + 1), by omega, rfl, hlt, p'⟩, fun x H' y => ?_⟩
    obtain ⟨e, y⟩ := y
    subst e y
    exact hs i σ _ hlt p
  · have e : i = n := by omega
    subst e
    exact .inl ⟨Nat.le_refl _, hd σ H p⟩
end L2
namespace L2
open PySem PySem.Spec PyProof.Rows
abbrev R2 := V → V → Hp → VK → Prop
def OpR (X : Cx) (f : Value → Value → Sem Value) (r : R2) : Prop :=
  ∀ (pins : List (Addr × Obj)) (s : Shared) (σ : St) (H : Hp) (x y : V) (v u : Value) (Q : VK), Inv X pins σ H s → RelV x v → RelV y u → r x y H Q →
    wpAny (model X.prog X.w) X.A (f v u) (EP X pins σ Q) X.xe s
def UnR (X : Cx) (f : Value → Sem Value) (r : V → Hp → VK → Prop) : Prop :=
  ∀ (pins : List (Addr × Obj)) (s : Shared) (σ : St) (H : Hp) (x : V) (v : Value) (Q : VK), Inv X pins σ H s → RelV x v → r x H Q →
    wpAny (model X.prog X.w) X.A (f v) (EP X pins σ Q) X.xe s
def CallR (X : Cx) (f : Value) (r : List V → Hp → VK → Prop) : Prop :=
  ∀ (pins : List (Addr × Obj)) (s : Shared) (σ : St) (H : Hp) (xs : List V) (us : List Value) (Q : VK), Inv X pins σ H s → Vals xs us → r xs H Q →
    wpAny (model X.prog X.w) X.A (call f us) (EP X pins σ Q) X.xe s
def tOp (r : R2) (ta tb : TE) : TE := fun σ H Q => ta σ H fun x H1 => tb σ H1 fun y H2 => r x y H2 Q
def tUn (r : V → Hp → VK → Prop) (ta : TE) : TE := fun σ H Q => ta σ H fun x H1 => r x H1 Q
def rI (C : Int → Int → Prop) (g : Int → Int → V) : R2 := fun x y H Q => ∃ i j, x = .int i ∧ y = .int j ∧ C i j ∧ Q (g i j) H
def rI0 (g : Int → Int → V) : R2 := fun x y H Q => ∃ i j, x = .int i ∧ y = .int j ∧ Q (g i j) H
def rU (g : Int → V) : V → Hp → VK → Prop := fun x H Q => ∃ i, x = .int i ∧ Q (g i) H
section
variable {X : Cx} {a b c : Expr} {ta tb tc : TE} {pos : Pos}
theorem binT (ha : PE X a ta) (hb : PE X b tb) {pins : List (Addr × Obj)} {s : Shared} {σ : St} {H : Hp} {R : V → V → Hp → Prop} (I : Inv X pins σ H s)
    (h : ta σ H fun x H1 => tb σ H1 fun y H2 => R x y H2) {Q : Value → Shared → Prop} {f : Value → Value → Sem Value}
    (hf : ∀ v u s2 x y H2, Inv X pins σ H2 s2 → RelV x v → RelV y u → R x y H2 → wpAny (model X.prog X.w) X.A (f v u) Q X.xe s2) :
    wpAny (model X.prog X.w) X.A (eval a X.env) (fun v s₁ => wpAny (model X.prog X.w) X.A (eval b X.env) (fun u s₂ => wpAny (model X.prog X.w) X.A (f v u) Q X.xe s₂) X.xe s₁) X.xe s := by
  refine thn (ha pins s σ H _ I h) fun v s1 ⟨x, H1, I1, r1, q1⟩ => ?_
  refine thn (hb pins s1 σ H1 _ I1 q1) fun u s2 ⟨y, H2, I2, r2, q2⟩ => ?_
  exact hf v u s2 x y H2 I2 r1 r2 q2
theorem pe_op {op : Operator} {r : R2} (ho : OpR X (binaryOp op) r) (ha : PE X a ta) (hb : PE X b tb) : PE X (.BinOp a op b pos) (tOp r ta tb) := by
  intro pins s σ H Q I h
  exact wpAny_BinOp (binT ha hb I h fun v u s2 x y H2 I2 rx ry q => ho pins s2 σ H2 x y v u Q I2 rx ry q)
theorem pe_un {op : UnaryOp} {r : V → Hp → VK → Prop} (ho : UnR X (unaryOp op) r) (ha : PE X a ta) : PE X (.UnaryOp op a pos) (tUn r ta) := by
  intro pins s σ H Q I h
  exact UnaryOp_ (thn (ha pins s σ H _ I h) fun v s1 ⟨x, H1, I1, r1, q1⟩ => ho pins s1 σ H1 x v Q I1 r1 q1)
theorem opI {f : Value → Value → Sem Value} {C : Int → Int → Prop} {g : Int → Int → Int}
    (rule : ∀ (i j : Int) (t u : Tok) (s : Shared) (Q : Value → Shared → Prop) (E : Value → Shared → Prop), C i j → Q (.int (g i j) s.toks) { s with toks := s.toks + 1 } → wpAny (model X.prog X.w) X.A (f (.int i t) (.int j u)) Q E s) :
    OpR X f (rI C fun i j => .int (g i j)) := by
  intro pins s σ H x y v u Q I rx ry h
  obtain ⟨i, j, rfl, rfl, hc, q⟩ := h
  obtain ⟨t, rfl⟩ := rx
  obtain ⟨t', rfl⟩ := ry
  exact rule i j t t' s _ _ hc ⟨.int (g i j), H, I.tok _, ⟨_, rfl⟩, q⟩
theorem opI0 {f : Value → Value → Sem Value} {g : Int → Int → Int}
    (rule : ∀ (i j : Int) (t u : Tok) (s : Shared) (Q : Value → Shared → Prop) (E : Value → Shared → Prop), Q (.int (g i j) s.toks) { s with toks := s.toks + 1 } → wpAny (model X.prog X.w) X.A (f (.int i t) (.int j u)) Q E s) :
    OpR X f (rI0 fun i j => .int (g i j)) := by
  intro pins s σ H x y v u Q I rx ry h
  obtain ⟨i, j, rfl, rfl, q⟩ := h
  obtain ⟨t, rfl⟩ := rx
  obtain ⟨t', rfl⟩ := ry
  exact rule i j t t' s _ _ ⟨.int (g i j), H, I.tok _, ⟨_, rfl⟩, q⟩
theorem opB0 {f : Value → Value → Sem Value} {g : Int → Int → Bool}
    (rule : ∀ (i j : Int) (t u : Tok) (s : Shared) (Q : Value → Shared → Prop) (E : Value → Shared → Prop), Q (.bool (g i j)) s → wpAny (model X.prog X.w) X.A (f (.int i t) (.int j u)) Q E s) :
    OpR X f (rI0 fun i j => .bl (g i j)) := by
  intro pins s σ H x y v u Q I rx ry h
  obtain ⟨i, j, rfl, rfl, q⟩ := h
  obtain ⟨t, rfl⟩ := rx
  obtain ⟨t', rfl⟩ := ry
  exact rule i j t t' s _ _ ⟨.bl (g i j), H, I, rfl, q⟩
def CDiv (i j : Int) : Prop := 0 < j ∧ j < 1073741824
def CPow (i j : Int) : Prop := 0 ≤ j ∧ j ≤ 1000000 ∧ i.natAbs < 2 ^ 64
def CMul (i j : Int) : Prop := (-(2 ^ 64) < i ∧ i < 2 ^ 64) ∨ (-(2 ^ 64) < j ∧ j < 2 ^ 64)
theorem CMul.ok {i j : Int} (h : CMul i j) : IntMulOk i j := by
  rcases h with ⟨h1, h2⟩ | ⟨h1, h2⟩
  · exact .of_left (intBits_le_64 h1 h2)
  · exact .of_right (intBits_le_64 h1 h2)
theorem two_pow_nn (k : Nat) : (0 : Int) ≤ 2 ^ k := by
  rw [two_pow_cast]
  exact Int.natCast_nonneg _
theorem op_add : OpR X (binaryOp .Add) (rI0 fun i j => .int (i + j)) := opI0 fun _ _ _ _ _ _ _ q => add_int q
theorem op_sub : OpR X (binaryOp .Sub) (rI0 fun i j => .int (i - j)) := opI0 fun _ _ _ _ _ _ _ q => sub_int q
theorem op_mul : OpR X (binaryOp .Mult) (rI CMul fun i j => .int (i * j)) := opI fun _ _ _ _ _ _ _ hc q => mul_int q hc.ok
theorem op_fdiv : OpR X (binaryOp .FloorDiv) (rI CDiv fun i j => .int (i / j)) := opI fun i j _ _ _ _ _ hc q => by
  have h1 : (0 : Int) < j := hc.1
  have h2 : j < 1073741824 := hc.2
  exact floordiv_int (by omega) (by rw [Int.fdiv_eq_ediv_of_nonneg i (by omega)]; exact q) (.inl (PyProof.noPylong_small (by omega)))
theorem op_mod : OpR X (binaryOp .Mod) (rI (fun _ j => 0 < j) fun i j => .int (i % j)) := opI fun i j _ _ _ _ _ hc q => by
  have h1 : (0 : Int) < j := hc
  exact mod_int' (by omega) (by rw [Int.fmod_eq_emod_of_nonneg i (by omega)]; exact q)
theorem op_pow : OpR X (binaryOp .Pow) (rI CPow fun i j => .int (i ^ j.toNat)) := opI fun _ _ _ _ _ _ _ hc q => pow_int_small hc.1 hc.2.1 hc.2.2 q
theorem op_shr : OpR X (binaryOp .RShift) (rI (fun _ j => 0 ≤ j) fun i j => .int (i / 2 ^ j.toNat)) := opI fun i j _ _ _ _ _ hc q =>
  rshift_int hc (by rw [Int.fdiv_eq_ediv_of_nonneg i (two_pow_nn _)]; exact q)
theorem op_and : OpR X (binaryOp .BitAnd) (rI0 fun i j => .int (Builtin.bitAnd i j)) := opI0 fun _ _ _ _ _ _ _ q => and_int q
theorem unI {f : Value → Sem Value} {g : Int → Int}
    (rule : ∀ (i : Int) (t : Tok) (s : Shared) (Q : Value → Shared → Prop) (E : Value → Shared → Prop), Q (.int (g i) s.toks) { s with toks := s.toks + 1 } → wpAny (model X.prog X.w) X.A (f (.int i t)) Q E s) :
    UnR X f (rU fun i => .int (g i)) := by
  intro pins s σ H x v Q I rx h
  obtain ⟨i, rfl, q⟩ := h
  obtain ⟨t, rfl⟩ := rx
  exact rule i t s _ _ ⟨.int (g i), H, I.tok _, ⟨_, rfl⟩, q⟩
theorem un_neg : UnR X (unaryOp .USub) (rU fun i => .int (-i)) := unI fun _ _ _ _ _ q => neg_int q
end
section
variable {X : Cx} {a b c : Expr} {ta tb tc : TE} {pos : Pos}
theorem fin_bl {pins : List (Addr × Obj)} {σ : St} {H : Hp} {s : Shared} {Q : VK} {k k' : Bool} (I : Inv X pins σ H s) (q : Q (.bl k) H) (e : k = k') : EP X pins σ Q (.bool k') s := by
  subst e
  exact ⟨.bl k, H, I, rfl, q⟩
theorem op_lt : OpR X (compareOp .Lt) (rI0 fun i j => .bl (decide (i < j))) := opB0 fun _ _ _ _ _ _ _ q => lt_int q
theorem op_le : OpR X (compareOp .LtE) (rI0 fun i j => .bl (decide (i ≤ j))) := opB0 fun _ _ _ _ _ _ _ q => le_int q
theorem op_gt : OpR X (compareOp .Gt) (rI0 fun i j => .bl (decide (j < i))) := opB0 fun _ _ _ _ _ _ _ q => gt_int q
theorem op_ge : OpR X (compareOp .GtE) (rI0 fun i j => .bl (decide (j ≤ i))) := opB0 fun _ _ _ _ _ _ _ q => ge_int q
theorem op_isN : OpR X (compareOp .Is) (fun x y H Q => y = .non ∧ Q (.bl (decide (x = .non))) H) := by
  intro pins s σ H x y v u Q I rx ry h
  obtain ⟨rfl, q⟩ := h
  cases ry
  refine is_none_gen (fin_bl I q ?_)
  cases x <;> first
    | (cases rx; rfl)
    | (obtain ⟨t, rfl⟩ := rx; rfl)
theorem op_notN : OpR X (compareOp .IsNot) (fun x y H Q => y = .non ∧ Q (.bl (!decide (x = .non))) H) := by
  intro pins s σ H x y v u Q I rx ry h
  obtain ⟨rfl, q⟩ := h
  cases ry
  refine isnot_none_gen (fin_bl I q ?_)
  cases x <;> first
    | (cases rx; rfl)
    | (obtain ⟨t, rfl⟩ := rx; rfl)
theorem OpR.or {f : Value → Value → Sem Value} {r r' : R2} (h : OpR X f r) (h' : OpR X f r') : OpR X f (fun x y H Q => r x y H Q ∨ r' x y H Q) := by
  intro pins s σ H x y v u Q I rx ry q
  rcases q with q | q
  · exact h pins s σ H x y v u Q I rx ry q
  · exact h' pins s σ H x y v u Q I rx ry q
theorem nomark (b : Expr) {op : CmpOp} (h : op ≠ .In := by decide) (h2 : op ≠ .NotIn := by decide) : behindInMarks op b = false := by
  have e1 : (op == CmpOp.In) = false := by cases op <;> first | rfl | exact absurd rfl h
  have e2 : (op == CmpOp.NotIn) = false := by cases op <;> first | rfl | exact absurd rfl h2
  cases b <;> simp [behindInMarks, e1, e2]
theorem pe_cmpR {op : CmpOp} {r : R2} (ho : OpR X (compareOp op) r) (ha : PE X a ta) (hb : PE X b tb) (hm : behindInMarks op b = false) : PE X (.Compare a [op] [b] pos) (tOp r ta tb) := by
  intro pins s σ H Q I h
  exact wpAny_Compare1 (binT ha hb I h fun v u s2 x y H2 I2 rx ry q => ho pins s2 σ H2 x y v u Q I2 rx ry q) hm
def tTest (t : TE) : TT := fun σ H Q => t σ H fun x H' => ∃ k, x = .bl k ∧ Q k H'
theorem pt_cmpR {op : CmpOp} {r : R2} (ho : OpR X (compareOp op) r) (ha : PE X a ta) (hb : PE X b tb) (hm : behindInMarks op b = false) : PT X (.Compare a [op] [b] pos) (tTest (tOp r ta tb)) := by
  intro pins s σ H Q I h
  refine wpAny_isTrue_Compare1 (thn (ha pins s σ H _ I h) fun v s1 ⟨x, H1, I1, r1, q1⟩ => thn (hb pins s1 σ H1 _ I1 q1) fun u s2 ⟨y, H2, I2, r2, q2⟩ =>
    thn (ho pins s2 σ H2 x y v u _ I2 r1 r2 q2) fun c s3 ⟨z, H3, I3, r3, k, e, q3⟩ => ?_) hm
  subst e
  cases r3
  exact wpAny_truthy_bool ⟨H3, I3, q3⟩
def tChain (r r' : R2) (ta tb tc : TE) : TE := fun σ H Q => ta σ H fun x H1 => tb σ H1 fun y H2 => r x y H2 fun z H3 => ∃ k, z = .bl k ∧
  (if k = true then tc σ H3 fun w' H4 => r' y w' H4 Q else Q (.bl false) H3)
theorem pe_chain {op op' : CmpOp} {r r' : R2} (ho : OpR X (compareOp op) r) (ho' : OpR X (compareOp op') r') (ha : PE X a ta) (hb : PE X b tb) (hc : PE X c tc)
    (hm : lastMarks [op, op'] [b, c] = false := by with_unfolding_all rfl) : PE X (.Compare a [op, op'] [b, c] pos) (tChain r r' ta tb tc) := by
  intro pins s σ H Q I h
  refine Compare_chain (thn (ha pins s σ H _ I h) fun v s1 ⟨x, H1, I1, r1, q1⟩ => chain_link (thn (hb pins s1 σ H1 _ I1 q1) fun u s2 ⟨y, H2, I2, r2, q2⟩ =>
    thn (ho pins s2 σ H2 x y v u _ I2 r1 r2 q2) fun d s3 ⟨z, H3, I3, r3, k, e, q3⟩ => ?_)) hm
  subst e
  cases r3
  refine wpAny_truthy_bool ?_
  cases k with
  | false => exact ite_ff ⟨.bl false, H3, I3, rfl, q3⟩
  | true => exact ite_tt (chain_last (thn (hc pins s3 σ H3 _ I3 q3) fun w' s4 ⟨z', H4, I4, r4, q4⟩ => ho' pins s4 σ H4 y z' u w' Q I4 r2 r4 q4))
theorem pt_chain {op op' : CmpOp} {r r' : R2} (ho : OpR X (compareOp op) r) (ho' : OpR X (compareOp op') r') (ha : PE X a ta) (hb : PE X b tb) (hc : PE X c tc)
    (hm : lastMarks [op, op'] [b, c] = false := by with_unfolding_all rfl) : PT X (.Compare a [op, op'] [b, c] pos) (tTest (tChain r r' ta tb tc)) := by
  intro pins s σ H Q I h
  refine isTrue_chain (thn (ha pins s σ H _ I h) fun v s1 ⟨x, H1, I1, r1, q1⟩ => test_link (thn (hb pins s1 σ H1 _ I1 q1) fun u s2 ⟨y, H2, I2, r2, q2⟩ =>
    thn (ho pins s2 σ H2 x y v u _ I2 r1 r2 q2) fun d s3 ⟨z, H3, I3, r3, k, e, q3⟩ => ?_)) hm
  subst e
  cases r3
  refine wpAny_truthy_bool ?_
  cases k with
  | false =>
    obtain ⟨k', e', q'⟩ := q3
    cases e'
    exact ite_ff ⟨H3, I3, q'⟩
  | true =>
    refine ite_tt (test_last (thn (hc pins s3 σ H3 _ I3 q3) fun w' s4 ⟨z', H4, I4, r4, q4⟩ => thn (ho' pins s4 σ H4 y z' u w' _ I4 r2 r4 q4) fun d' s5 ⟨z2, H5, I5, r5, k2, e2, q5⟩ => ?_))
    subst e2
    cases r5
    exact wpAny_truthy_bool ⟨H5, I5, q5⟩
theorem line63 : (sizeLine : Nat) < 2 ^ 63 := by rw [sizeLine_eq]; decide
theorem op_add_str : OpR X (binaryOp .Add) (fun x y H Q => ∃ i j, x = .str i ∧ y = .str j ∧ i.length + j.length ≤ sizeLine ∧ Q (.str (i ++ j)) H) := by
  intro pins s σ H x y v u Q I rx ry h
  obtain ⟨i, j, rfl, rfl, hz, q⟩ := h
  obtain ⟨t, rfl⟩ := rx
  obtain ⟨t', rfl⟩ := ry
  exact add_str (fun t' tk => ⟨.str (i ++ j), H, I.tok _, ⟨_, rfl⟩, q⟩) hz
theorem vals1 {x : V} {us : List Value} (r : Vals [x] us) : ∃ u, us = [u] ∧ RelV x u := by
  cases r with
  | cons r1 r2 => cases r2; exact ⟨_, rfl, r1⟩
theorem vals2 {x y : V} {us : List Value} (r : Vals [x, y] us) : ∃ u w', us = [u, w'] ∧ RelV x u ∧ RelV y w' := by
  cases r with
  | cons r1 r2 =>
    cases r2 with
    | cons r3 r4 => cases r4; exact ⟨_, _, rfl, r1, r3⟩
theorem call_ord : CallR X (.builtin "ord") (fun xs H Q => ∃ x, xs = [.str x] ∧ x.length = 1 ∧ Q (.int (x.cps.getD 0 0 : Nat)) H) := by
  intro pins s σ H xs us Q I r h
  obtain ⟨x, rfl, hz, q⟩ := h
  obtain ⟨u, rfl, t, rfl⟩ := vals1 r
  exact ord_of_one hz ⟨.int _, H, I.tok _, ⟨_, rfl⟩, q⟩
end
end L2
namespace L2
open PySem PySem.Spec PyProof.Rows
structure ObjM (h : Heap) (x dx C : Addr) (mA : Str → Option Value) : Prop where
  obj : h.get? x = some (PySem.W.instObj C dx)
  ns : h.Ns1 dx mA
  ne : dx ≠ x
section
variable {prog : Program} {w : World} {A : Around} {E : Value → Shared → Prop} {s : Shared} {K : PySem.W.Frag} {x dx C f : Addr} {mA : Str → Option Value} {name : Str} {v : Value}
end
theorem RelO.some_of {v : V} {o : Option Value} (r : RelO (some v) o) : ∃ u, o = some u ∧ RelV v u := by
  cases o with
  | none => exact (show False from r).elim
  | some u => exact ⟨u, rfl, r⟩
section
variable {P : Program} {w : World} {H H' : Hp} {h h' : Heap} {a C dx : Addr} {fs fs' : List (Str × V)}
end
structure Cls (K : PySem.W.Frag) (C : Addr) : Prop where
  pg : PySem.W.plainGet K C Str.empty = true
  hd : PySem.W.hasDictIn K C = true
  po : PySem.W.plainOver K C = true
  sa : PySem.W.findIn K (.ref C) "__setattr__" = some (some (.builtin "object.__setattr__"))
theorem Cls.get {K : PySem.W.Frag} {C : Addr} (c : Cls K C) (f : Str) : PySem.W.plainGet K C f = true := c.pg
structure Con (K : PySem.W.Frag) (C : Addr) (f : Str) (v : V) (u : Value) : Prop where
  at_ : PySem.W.findIn K (.ref C) f = some (some u)
  rel : RelV v u
  get : PySem.W.specialIn K u "__get__" = some none
  cp : PySem.W.copiedNames.contains f = false
structure Meth (K : PySem.W.Frag) (C : Addr) (m : Str) (f : Addr) : Prop where
  at_ : PySem.W.findIn K (.ref C) m = some (some (.ref f))
  fn : PySem.W.isFn K (.ref f) = true
  kp : PySem.W.keepIn K (.ref f) = true
section
variable {X : Cx} {pins : List (Addr × Obj)} {σ : St} {H : Hp} {s : Shared} {a C dx : Addr} {fs : List (Str × V)} {f : Str} {v : V} {A : Around} {E : Value → Shared → Prop}
theorem Inv.made (I : Inv X pins σ H s) : Inv X pins σ (upd (upd H s.heap.objs.size (.own (s.heap.objs.size + 1))) (s.heap.objs.size + 1) (.ins C s.heap.objs.size []))
    { s with heap := (s.heap.push PySem.W.emptyDict).push (PySem.W.instObj C s.heap.objs.size) } := by
  have e1 : (s.heap.push PySem.W.emptyDict).get? s.heap.objs.size = some PySem.W.emptyDict := Heap.get?_push_size s.heap rfl
  have e2 : ((s.heap.push PySem.W.emptyDict).push (PySem.W.instObj C s.heap.objs.size)).get? (s.heap.objs.size + 1) = some (PySem.W.instObj C s.heap.objs.size) := by
    have := Heap.get?_push_size (s.heap.push PySem.W.emptyDict) (o := PySem.W.instObj C s.heap.objs.size) rfl
    rwa [Heap.size_push] at this
  have e3 : (s.heap.push PySem.W.emptyDict).Ns s.heap.objs.size (fun _ => none) := ⟨PySem.W.emptyDict, #[], _, e1, rfl, (fun e he => absurd he (by simp)), fun _ => rfl⟩
  have I1 := I.laid (a := s.heap.objs.size) (o := .own (s.heap.objs.size + 1)) (h' := s.heap.push PySem.W.emptyDict) (t' := s.toks) (fun b u q => Heap.get?_push_of_some _ q) (Nat.le_refl _) ⟨_, e1⟩
  refine I1.laid (a := s.heap.objs.size + 1) (o := .ins C s.heap.objs.size []) (t' := s.toks) (fun b u q => Heap.get?_push_of_some _ q) (Nat.le_of_eq (Heap.size_push _ _)) ?_
  have ne : s.heap.objs.size ≠ s.heap.objs.size + 1 := Nat.ne_of_lt (Nat.lt_succ_self _)
  refine ⟨by rw [upd_ne ne, upd_same], Nat.zero_le _, ne, e2, fun _ => none, (Heap.Ns1.of_empty e3).at fun o q => Heap.get?_push_of_some _ q, fun _ => True.intro, fun y hy => absurd rfl hy⟩
end
section
variable {X : Cx} {o e value : Expr} {f : Str} {pos pos' tpos : Pos} {ta tv : TE}
def rAdd : V → V → Hp → VK → Prop := fun x y H Q => ∃ i j, x = .int i ∧ y = .int j ∧ Q (.int (i + j)) H
def rSub : V → V → Hp → VK → Prop := fun x y H Q => ∃ i j, x = .int i ∧ y = .int j ∧ Q (.int (i - j)) H
end
section
variable {X : Cx} {pins : List (Addr × Obj)} {σ : St} {H : Hp} {s : Shared} {A : Around} {E : Value → Shared → Prop} {Q : Value → Shared → Prop} {c : Value} {b : Bool}
inductive TyOf (K : PySem.W.Frag) (H : Hp) : V → Value → Prop where
  | non : TyOf K H .non (.type "NoneType")
  | bl (x : Bool) : TyOf K H (.bl x) (.type "bool")
  | int (i : Int) : TyOf K H (.int i) (.type "int")
  | str (x : Str) : TyOf K H (.str x) (.type "str")
  | flt (x : UInt64) : TyOf K H (.flt x) (.type "float")
  | lst {a : Addr} {xs : List V} (e : H a = some (.lst xs)) : TyOf K H (.ref a) (.type "list")
  | frz {a : Addr} {o : Obj} {xs : List V} (e : H a = some (.frz o (.lst xs))) : TyOf K H (.ref a) (.type "list")
  | tup {a : Addr} {xs : List V} (e : H a = some (.tup xs)) : TyOf K H (.ref a) (.type "tuple")
  | dK {a : Addr} {kvs : List (Key × V)} (e : H a = some (.dK kvs)) : TyOf K H (.ref a) (.type "dict")
  | dT {a : Addr} {kvs : List (List Key × V)} (e : H a = some (.dT kvs)) : TyOf K H (.ref a) (.type "dict")
  | ins {a C dx : Addr} {fs : List (Str × V)} (e : H a = some (.ins C dx fs)) (cl : Cls K C) (ha : PySem.W.findIn K (.ref C) "__class__" = some (some (.builtin "object.__class__")))
      (hn : PySem.W.specialIn K (.builtin "object.__class__") "__get__" = some (some (.builtin "getset_descriptor.__get__"))) (htk : PySem.W.takesIn K (.builtin "object.__class__") = some true)
      (hm : PySem.W.mroIn K C (.type "object") = some true) : TyOf K H (.ref a) (.ref C)
end
end L2
namespace L2
open PySem PySem.Spec PyProof.Rows
structure Room (k : Nat) (A : Around) : Prop where
  hd : A.handled = none
  dp : A.depth + 3 * k + 5 < recursionLimit
  un : A.units + 16 * k + 200 < cLine
theorem Room.mono {j k : Nat} {A : Around} (r : Room k A) (h : j ≤ k) : Room j A := ⟨r.hd, by have := r.dp; omega, by have := r.un; omega⟩
theorem Room.deeper {k : Nat} {A : Around} (r : Room (k + 1) A) (env : Env) : Room k (A.deeper env) :=
  ⟨r.hd, by have := r.dp; show A.depth + 1 + 3 * k + 5 < _; omega, by have := r.un; show A.units + 3 + 16 * k + 200 < _; omega⟩
theorem Room.in1 {k : Nat} {A : Around} (r : Room (k + 1) A) : Room k A.in1 :=
  ⟨r.hd, by have := r.dp; show A.depth + 3 * k + 5 < _; omega, by have := r.un; show A.units + 1 + 16 * k + 200 < _; omega⟩
theorem Room.depth {k : Nat} {A : Around} (r : Room k A) : A.depth < recursionLimit := by have := r.dp; omega
theorem Room.units {k : Nat} {A : Around} (r : Room k A) : A.units + 64 < cLine := by have := r.un; omega
def tNil : TA := fun _ H Q => Q [] H
def tCons (ta : TE) (tr : TA) : TA := fun σ H Q => ta σ H fun x H1 => tr σ H1 fun xs H2 => Q (x :: xs) H2
section
variable {X : Cx} {e : Expr} {es : List Expr} {te : TE} {t : TA} {pos : Pos}
theorem pa_nil : PA X [] tNil := fun _ _ _ _ H Q I h => Calls.spliced_nil ⟨[], H, I, .nil, h⟩
theorem pa_cons (ha : PE X e te) (hr : PA X es t) (hs : starEach (e :: es) X.env = (false, eval e X.env) :: starEach es X.env := by rfl) : PA X (e :: es) (tCons te t) := by
  intro pos pins s σ H Q I h
  rw [hs]
  show wpAny _ _ (spliced ((false, eval e X.env) :: backTo pos (starEach es X.env))) _ _ s
  refine Calls.spliced_cons (thn (ha pins s σ H _ I h) fun u s1 ⟨x, H1, I1, r1, q1⟩ => ?_)
  exact thn (hr pos pins s1 σ H1 _ I1 q1) fun us s2 ⟨xs, H2, I2, r2, q2⟩ => ⟨x :: xs, H2, I2, .cons r1 r2, q2⟩
def tTup (t : TA) : TE := fun σ H Q => t σ H fun xs H1 => xs.length ≤ sizeLine ∧ ∀ p, H1 p = none → Q (.ref p) (upd H1 p (.tup xs))
def tLst (t : TA) : TE := fun σ H Q => t σ H fun xs H1 => xs.length ≤ sizeLine ∧ ∀ p, H1 p = none → Q (.ref p) (upd H1 p (.lst xs))
theorem pe_tup {x1} (h : PA X es t) : PE X (.Tuple es x1 pos) (tTup t) := by
  intro pins s σ H Q I hq
  refine wpAny_Tuple_spliced (thn (h pos pins s σ H _ I hq) fun us s1 ⟨xs, H1, I1, r, z, q⟩ => ⟨by rw [← r.length]; exact z, ?_⟩)
  have hf : H1 s1.heap.objs.size = none := I1.hok.fresh (Nat.le_refl _)
  refine ⟨.ref s1.heap.objs.size, upd H1 s1.heap.objs.size (.tup xs), I1.laid (t' := s1.toks) (fun b u e => Heap.get?_push_of_some _ e) (Nat.le_refl _) ?_, rfl, q _ hf⟩
  exact ⟨z, us, r, ⟨_, Heap.get?_push_size _ rfl, rfl, _, rfl⟩⟩
theorem pe_lst (h : PA X es t) : PE X (.List es pos) (tLst t) := by
  intro pins s σ H Q I hq
  refine wpAny_List_spliced (thn (h pos pins s σ H _ I hq) fun us s1 ⟨xs, H1, I1, r, z, q⟩ => ⟨by rw [← r.length]; exact z, ?_⟩)
  have hf : H1 s1.heap.objs.size = none := I1.hok.fresh (Nat.le_refl _)
  refine ⟨.ref s1.heap.objs.size, upd H1 s1.heap.objs.size (.lst xs), I1.laid (t' := s1.toks) (fun b u e => Heap.get?_push_of_some _ e) (Nat.le_refl _) ?_, rfl, q _ hf⟩
  exact ⟨z, us, 0, r, Heap.get?_push_size _ rfl⟩
end
abbrev Sp := List V → Hp → VK → XK → Prop
abbrev CXT := List Env → Hp → Shared → XK → Value → Shared → Prop
structure Env0 (P : Program) (w : World) (K : PySem.W.Frag) (mg : Str → Option Value) (base : Heap) (A : Around) (outer : List Env) (s : Shared) (H : Hp) : Prop where
  frames : A.frames = some outer
  mod : Mod K mg base
  bs : ∀ b o, base.get? b = some o → s.heap.get? b = some o ∧ H b = none
  bsz : base.objs.size ≤ s.heap.objs.size
  funs : s.heap.FunFrames base outer
  frf : ∀ b ∈ frs outer, H b = none
  hok : HOk P w H s.heap
  bare : AllBare s.gens
def CE (outer : List Env) (P : Program) (w : World) (H : Hp) (s : Shared) (Q : VK) (u : Value) (s' : Shared) : Prop :=
  ∃ v H', s'.os = s.os ∧ AllBare s'.gens ∧ Un (frs outer) [] H H' s.heap s'.heap ∧ HOk P w H' s'.heap ∧ RelV v u ∧ Q v H'
def CR (CX : CXT) (outer : List Env) (P : Program) (w : World) (H : Hp) (s : Shared) (Q : VK) (E : XK) (r : Result) (s' : Shared) : Prop :=
  match r with
  | .ok (.ret u) => CE outer P w H s Q u s'
  | .ok _ => False
  | .error e => CX outer H s E e s'
structure FnOk (P : Program) (w : World) (K : PySem.W.Frag) (mg : Str → Option Value) (base : Heap) (CX : CXT) (k : Nat) (f : Addr) (fd : FuncData) (ps : List Str) (sp : Sp) : Prop where
  len : ∀ vs H Q E, sp vs H Q E → vs.length = ps.length
  run : ∀ (A : Around) (outer : List Env) (s : Shared) (H : Hp) (args : Args) (us : List Value) (vs : List V) (Q : VK) (E : XK), Room k A → Env0 P w K mg base A outer s H → BindsTo s fd args (ps.zip us) → Vals vs us → sp vs H Q E →
    codeAny (model P w) A (.call (.ref f) args) (CR CX outer P w H s Q E) s
theorem FnOk.mono {P : Program} {w : World} {K : PySem.W.Frag} {mg : Str → Option Value} {base : Heap} {CX : CXT} {j k : Nat} {f : Addr} {fd : FuncData} {ps : List Str} {sp : Sp} (F : FnOk P w K mg base CX j f fd ps sp) (h : j ≤ k) :
    FnOk P w K mg base CX k f fd ps sp := ⟨F.len, fun A outer s H args us vs Q E hr => F.run A outer s H args us vs Q E (hr.mono h)⟩
theorem FnOk.imp {P : Program} {w : World} {K : PySem.W.Frag} {mg : Str → Option Value} {base : Heap} {CX : CXT} {k : Nat} {f : Addr} {fd : FuncData} {ps : List Str} {sp sp' : Sp} (F : FnOk P w K mg base CX k f fd ps sp)
    (h : ∀ vs H Q E, sp' vs H Q E → sp vs H Q E) : FnOk P w K mg base CX k f fd ps sp' :=
  ⟨fun vs H Q E q => F.len vs H Q E (h _ _ _ _ q), fun A outer s H args us vs Q E hr he hb hv hs => F.run A outer s H args us vs Q E hr he hb hv (h _ _ _ _ hs)⟩
theorem Env0.in1 {P : Program} {w : World} {K : PySem.W.Frag} {mg : Str → Option Value} {base : Heap} {A : Around} {outer : List Env} {s : Shared} {H : Hp} (e : Env0 P w K mg base A outer s H) :
    Env0 P w K mg base A.in1 outer s H := ⟨e.frames, e.mod, e.bs, e.bsz, e.funs, e.frf, e.hok, e.bare⟩
section
variable {X : Cx} {pins : List (Addr × Obj)} {σ : St} {H : Hp} {s s' : Shared}
theorem Inv.env0 (I : Inv X pins σ H s) : Env0 X.prog X.w X.K X.mg X.base X.A X.stack s H :=
  ⟨I.ok.frames, I.ok.mod, I.bs, Nat.le_trans I.ok.bsz I.sz, I.stack, I.stkFree, I.hok, I.bare⟩
theorem Inv.after {Q : VK} {u : Value} (I : Inv X pins σ H s) (h : CE X.stack X.prog X.w H s Q u s') : EP X pins σ Q u s' := by
  obtain ⟨v, H', os, bare, un, hok, r, q⟩ := h
  obtain ⟨hh, g, d, t, os'⟩ := s'
  obtain rfl : os' = s.os := os
  exact ⟨v, H', I.call (h' := hh) (g' := g) (d' := d) (t' := t) (ch := []) un hok bare (fun b z => absurd z (by simp)), r, q⟩
end
def tCall (sp : Sp) (dvs : List V) (E : XK) (t : TA) : TE := fun σ H Q => t σ H fun vs H1 => sp (vs ++ dvs) H1 Q E
def Binds (K : PySem.W.Frag) (fd : FuncData) (ps : List Str) (ds : List Value) : Prop :=
  ∀ (s : Shared) (us : List Value), K.In s.heap → (us ++ ds).length = ps.length → BindsTo s fd ⟨us, []⟩ (ps.zip (us ++ ds))
theorem Binds.all {K : PySem.W.Frag} {fd : FuncData} {ps : List Str} (h : ∀ us : List Value, us.length = ps.length → bindArgs fd ⟨us, []⟩ = pure (ps.zip us)) : Binds K fd ps [] := fun s us _ hl => by
  rw [List.append_nil] at hl ⊢
  exact .of_eq (h us hl)
def Passes (CX : CXT) (X : Cx) (E : XK) : Prop := ∀ (pins : List (Addr × Obj)) (σ : St) (H : Hp) (s : Shared) (e : Value) (s' : Shared), Inv X pins σ H s → CX X.stack H s E e s' → X.xe e s'
section
variable {X : Cx} {CX : CXT} {k : Nat} {f C : Addr} {fd : FuncData} {ps : List Str} {sp : Sp} {dvs : List V} {ds : List Value} {E : XK} {x m : Str} {p pos apos : Pos} {e o : Expr} {es : List Expr} {ta : TE} {t : TA}
theorem run_fn {pins : List (Addr × Obj)} {σ : St} {H : Hp} {s : Shared} {Q : VK} {us : List Value} {vs : List V} (F : FnOk X.prog X.w X.K X.mg X.base CX k f fd ps sp) (hr : Room k X.A) (hb : Binds X.K fd ps ds) (hd : Vals dvs ds) (hx : Passes CX X E)
    (I : Inv X pins σ H s) (r : Vals vs us) (h : sp (vs ++ dvs) H Q E) : wpAny (model X.prog X.w) X.A (call (.ref f) us) (EP X pins σ Q) X.xe s := by
  have r2 : Vals (vs ++ dvs) (us ++ ds) := r.append hd
  have hl : (us ++ ds).length = ps.length := by rw [← r2.length]; exact F.len _ _ _ _ h
  refine wpAny_call (codeAny_mono (F.run X.A X.stack s H ⟨us, []⟩ (us ++ ds) (vs ++ dvs) Q E hr I.env0 (hb s us I.kIn hl) r2 h) fun r s' hq => ?_)
  cases r with
  | error e => exact hx pins σ H s e s' I hq
  | ok fl =>
    cases fl with
    | ret u => exact I.after hq
    | next => exact False.elim hq
    | brk => exact False.elim hq
    | cont => exact False.elim hq
theorem pe_call (F : FnOk X.prog X.w X.K X.mg X.base CX k f fd ps sp) (hr : Room k X.A) (hg : Gl X x) (hm : X.mg x = some (.ref f)) (hk : PySem.W.keepIn X.K (.ref f) = true) (hb : Binds X.K fd ps ds) (hd : Vals dvs ds) (hx : Passes CX X E)
    (ha : PA X (e :: es) t) (hdb : (x == ("__debug__" : Str)) = false := by decide) (he : starEach (e :: es) X.env = (false, eval e X.env) :: starEach es X.env := by rfl) (hpl : (backTo pos (starEach es X.env)).any (·.1) = false := by rfl) :
    PE X (.Call (.Name x p) (e :: es) [] pos) (tCall sp dvs E t) := by
  intro pins s σ H Q I h
  refine wpAny_Call_Name_kw (ld_glob I hg hm ?_ hdb)
  refine PySem.W.callWith_K (h₀ := X.base) I.ok.mod.kin hk (thn (ha pos pins s σ H _ I h) fun us s1 ⟨vs, H1, I1, r, q⟩ => ⟨I1.kIn, ?_⟩) he hpl
  exact run_fn F hr hb hd hx I1 r q
theorem pe_call0 (F : FnOk X.prog X.w X.K X.mg X.base CX k f fd ps sp) (hr : Room k X.A) (hg : Gl X x) (hm : X.mg x = some (.ref f)) (hk : PySem.W.keepIn X.K (.ref f) = true) (hb : Binds X.K fd ps ds) (hd : Vals dvs ds) (hx : Passes CX X E)
    (hdb : (x == ("__debug__" : Str)) = false := by decide) : PE X (.Call (.Name x p) [] [] pos) (tCall sp dvs E tNil) := by
  intro pins s σ H Q I h
  refine wpAny_Call_Name_kw (ld_glob I hg hm ?_ hdb)
  exact PySem.W.callWith_K0 I.kIn hk (run_fn (us := []) F hr hb hd hx I .nil h)
structure Mk (K : PySem.W.Frag) (C f : Addr) : Prop where
  makes : PySem.W.makesIn K C = true
  init : PySem.W.findIn K (.ref C) "__init__" = some (some (.ref f))
  fn : PySem.W.isFn K (.ref f) = true
  kp : PySem.W.keepIn K (.ref C) = true
end
section
variable {X : Cx} {CX : CXT} {k : Nat} {f C : Addr} {fd : FuncData} {ps ks : List Str} {sp : Sp} {E : XK} {x m : Str} {p pos apos kpos : Pos} {e o : Expr} {es : List Expr} {kws : List Keyword} {te ta : TE} {t tk : TA} {nm : Option Str}
structure KBinds (K : PySem.W.Frag) (fd : FuncData) (ps ks : List Str) (g : List Value → List Value → List Value) (gV : List V → List V → List V) : Prop where
  to : ∀ (s : Shared) (us ws : List Value), K.In s.heap → (g us ws).length = ps.length → BindsTo s fd ⟨us, ks.zip ws⟩ (ps.zip (g us ws))
  rel : ∀ {vs : List V} {us : List Value} {zs : List V} {ws : List Value}, Vals vs us → Vals zs ws → Vals (gV vs zs) (g us ws)
variable {g : List Value → List Value → List Value} {gV : List V → List V → List V}
end
structure FnScope (N P : List Str) (sc : Scope) : Prop where
  kind : sc.kind = .function
  co : sc.isCoroutine = false
  gen : sc.isGenerator = false
  nd : N.Nodup
  pre : N.take P.length = P
  par : ∀ x ∈ P, sc.names.lookup x = some .local ∨ sc.names.lookup x = some .cell
  nofree : ∀ y ∈ sc.names, y.2 ≠ .free
theorem bindL_out {kindOf : Str → Option NameKind} {x : Str} : ∀ {binds : List (Str × Value)} {m : Str → Option Value}, (∀ v, (x, v) ∉ binds) → bindL kindOf binds m x = m x
  | [], _, _ => rfl
  | (n, v) :: r, m, h => by
    unfold bindL
    rw [bindL_out fun w hw => h w (List.mem_cons_of_mem _ hw)]
    split
    · have : x ≠ n := by rintro rfl; exact h v List.mem_cons_self
      simp [this]
    · rfl
theorem bindC_out {kindOf : Str → Option NameKind} {x : Str} : ∀ {binds : List (Str × Value)} {m : Str → Option Value}, (∀ v, (x, v) ∉ binds) → bindC kindOf binds m x = m x
  | [], _, _ => rfl
  | (n, v) :: r, m, h => by
    unfold bindC
    rw [bindC_out fun w hw => h w (List.mem_cons_of_mem _ hw)]
    split
    · rfl
    · have : x ≠ n := by rintro rfl; exact h v List.mem_cons_self
      simp [this]
theorem bindL_get {kindOf : Str → Option NameKind} {x : Str} {v : Value} : ∀ {P : List Str} {vs : List Value} {i : Nat} {m : Str → Option Value}, P.Nodup → P[i]? = some x → vs[i]? = some v → kindOf x = some .local →
    bindL kindOf (P.zip vs) m x = some v
  | [], _, _, _, _, h, _, _ => by simp at h
  | _ :: _, [], _, _, _, _, h, _ => by simp at h
  | p :: P, w :: vs, 0, m, nd, h1, h2, hk => by
    simp at h1 h2; subst h1; subst h2
    show bindL kindOf ((p, w) :: P.zip vs) m p = _
    unfold bindL
    rw [bindL_out fun v hv => (List.nodup_cons.mp nd).1 (List.of_mem_zip hv).1, if_pos hk]
    simp
  | p :: P, w :: vs, i + 1, m, nd, h1, h2, hk => by
    show bindL kindOf ((p, w) :: P.zip vs) m x = _
    unfold bindL
    exact bindL_get (i := i) (List.nodup_cons.mp nd).2 (by simpa using h1) (by simpa using h2) hk
theorem bindC_get {kindOf : Str → Option NameKind} {x : Str} {v : Value} : ∀ {P : List Str} {vs : List Value} {i : Nat} {m : Str → Option Value}, P.Nodup → P[i]? = some x → vs[i]? = some v → kindOf x ≠ some .local →
    bindC kindOf (P.zip vs) m x = some v
  | [], _, _, _, _, h, _, _ => by simp at h
  | _ :: _, [], _, _, _, _, h, _ => by simp at h
  | p :: P, w :: vs, 0, m, nd, h1, h2, hk => by
    simp at h1 h2; subst h1; subst h2
    show bindC kindOf ((p, w) :: P.zip vs) m p = _
    unfold bindC
    rw [bindC_out fun v hv => (List.nodup_cons.mp nd).1 (List.of_mem_zip hv).1, if_neg hk]
    simp
  | p :: P, w :: vs, i + 1, m, nd, h1, h2, hk => by
    show bindC kindOf ((p, w) :: P.zip vs) m x = _
    unfold bindC
    exact bindC_get (i := i) (List.nodup_cons.mp nd).2 (by simpa using h1) (by simpa using h2) hk
def start (N : List Str) (vs : List V) : St := vs.map some ++ List.replicate (N.length - vs.length) none
def cxOf (CX : CXT) (P : Program) (w : World) (K : PySem.W.Frag) (mg : Str → Option Value) (base : Heap) (N : List Str) (qual : Str) (scope : Scope) (f : Addr) (cd : Value) (A : Around) (outer : List Env) (s : Shared) (H : Hp) (E : XK) : Cx where
  prog := P
  w := w
  K := K
  mg := mg
  base := base
  A := A.deeper (envOfC qual scope s.heap.objs.size f cd)
  N := N
  s₀ := s
  H₀ := H
  env := envOfC qual scope s.heap.objs.size f cd
  outer := outer
  stack := envOfC qual scope s.heap.objs.size f cd :: outer
  ex := []
  calm := true
  fn := fun _ => true
  pn := []
  xe := fun e s' => wpAny (model P w) (A.deeper (envOfC qual scope s.heap.objs.size f cd)) (leaving (envOfC qual scope s.heap.objs.size f cd) e) (fun _ s'' => CX outer H s E e s'') (fun e' s'' => CX outer H s E e' s'') s'
theorem cell_has {sc : Scope} {n : Nat} {x : Str} (h : sc.names.lookup x = some .cell) : ∃ c, (cellsFrom n sc.names []).lookup x = some c := by
  have q := PySem.W.cellsFrom_some sc.names n [] (.inl h)
  exact Option.isSome_iff_exists.mp q
theorem inv_start {CX : CXT} {P : Program} {w : World} {K : PySem.W.Frag} {mg : Str → Option Value} {base : Heap} {N ps : List Str} {qual : Str} {scope : Scope} {f : Addr} {cd : Value} {A : Around} {outer : List Env} {s s1 : Shared} {H : Hp} {E : XK} {us : List Value} {vs : List V}
    (S : FnScope N ps scope) (hd : A.handled = none) (e0 : Env0 P w K mg base A outer s H) (hl : vs.length = ps.length) (r : Vals vs us)
    (x : InCallC s s.heap.objs.size (bindL (envOfC qual scope s.heap.objs.size f cd).kindOf (ps.zip us) fun _ => none) (cellsFrom (s.heap.objs.size + 1) scope.names []) (bindC (envOfC qual scope s.heap.objs.size f cd).kindOf (ps.zip us) fun _ => none) s1) :
    Inv (cxOf CX P w K mg base N qual scope f cd A outer s H E) [] (start N vs) H s1 := by
  have hpl : ps.length ≤ N.length := by have := congrArg List.length S.pre; rw [List.length_take] at this; omega
  obtain ⟨h1, tk, rfl, hk⟩ := x.done
  have noA : ∀ b : Addr, b ∉ (cxOf CX P w K mg base N qual scope f cd A outer s H E).ex := fun b z => absurd (show b ∈ ([] : List Addr) from z) (by simp)
  refine ⟨⟨e0.mod, S.kind, rfl, rfl, Nat.le_refl _, fun y z c h1 h2 => ?_, fun y hy => ?_, fun y c _ h => ?_, fun _ => hd, Around.frames_deeper e0.frames, .inr ⟨rfl, rfl⟩, fun b z => absurd z (noA b), e0.bs, e0.bsz, fun b _ _ => noA b, fun b z => absurd z (noA b), e0.funs, e0.frf⟩,
    rfl, e0.bare, Un.kept hk, ⟨_, x.toInCall.ns, fun i y v h1 h2 h3 => ?_⟩, fun y c h => ⟨_, x.cell y c h⟩, e0.hok.fresh (Nat.le_refl _), fun y c h => ?_, fun p hp => absurd (show p ∈ ([] : List (Addr × Obj)) from hp) (by simp), e0.hok.kept hk, ?_⟩
  · exact name_of_addr x.apart (PySem.mem_of_lookup h1) (PySem.mem_of_lookup h2)
  · have hy : scope.names.lookup y = some .cell ∨ scope.names.lookup y = some .free := hy
    rcases hy with hy | hy
    · exact cell_has hy
    · exact absurd rfl (S.nofree _ (PySem.mem_of_lookup hy))
  · exact Nat.le_of_lt (x.above y c (PySem.mem_of_lookup h))
  · have hi : i < vs.length := by
      unfold start at h2
      by_cases hi : i < vs.length
      · exact hi
      · rw [List.getElem?_append_right (by simpa using hi)] at h2
        rw [List.getElem?_replicate] at h2
        split at h2 <;> cases h2
    have ha : vs[i]? = some v := by
      unfold start at h2
      rw [List.getElem?_append_left (by simpa using hi), List.getElem?_map] at h2
      cases e : vs[i]? with
      | none => rw [e] at h2; cases h2
      | some a => rw [e] at h2; cases h2; rfl
    obtain ⟨u, hu, rv⟩ := r.get ha
    have hp : ps[i]? = some y := by
      rw [← S.pre, List.getElem?_take_of_lt (by omega)]; exact h1
    have ndP : ps.Nodup := by rw [← S.pre]; exact S.nd.sublist (List.take_sublist _ _)
    refine ⟨u, rv, ?_⟩
    rcases S.par y (List.mem_of_getElem? hp) with k | k
    · exact .inl ⟨k, bindL_get ndP hp hu k⟩
    · obtain ⟨c, e⟩ := cell_has (n := s.heap.objs.size + 1) k
      refine .inr ⟨.inl k, c, e, ?_⟩
      have q := x.cell y c e
      rw [bindC_get ndP hp hu (by show scope.names.lookup y ≠ _; rw [k]; decide)] at q
      exact q
  · exact e0.hok.fresh (Nat.le_of_lt (x.above y c (PySem.mem_of_lookup h)))
  · unfold start
    show _ = N.length
    rw [List.length_append, List.length_map, List.length_replicate]
    omega
theorem fn_of {CX : CXT} {P : Program} {w : World} {K : PySem.W.Frag} {mg : Str → Option Value} {base : Heap} {k : Nat} {f : Addr} {name qual : Str} {params : Arguments} {body : List Stmt} {scope : Scope} {dV kV doc pm cdv ct oc : Value} {an od : Option Addr}
    {osl : Array (Option Value)} {N ps : List Str} {sp : Sp} (lk : K.lookup f = some ⟨oc, od, .func (PySem.W.fnOf name qual params body scope dV kV doc pm an cdv ct), osl⟩) (hcd : PySem.W.codeIn K cdv qual = true) (S : FnScope N ps scope)
    (len : ∀ vs H Q E, sp vs H Q E → vs.length = ps.length)
    (hbody : ∀ (A : Around) (outer : List Env) (s : Shared) (H : Hp) (vs : List V) (Q : VK) (E : XK), Room k (A.deeper (envOfC qual scope s.heap.objs.size f cdv)) → sp vs H Q E →
      ∃ t, PSs (cxOf CX P w K mg base N qual scope f cdv A outer s H E) body t ∧ t { nx := fun _ H' => Q .non H', rt := Q } (start N vs) H) :
    FnOk P w K mg base CX (k + 1) f (PySem.W.fnOf name qual params body scope dV kV doc pm an cdv ct) ps sp := by
  refine ⟨len, fun A outer s H args us vs Q E hr e0 hb r hsp => ?_⟩
  have hl := len _ _ _ _ hsp
  have KX : K.In s.heap := e0.mod.kin.keeps fun b o e => (e0.bs b o e).1
  have lim : s.heap.NoLimit := e0.mod.nolimit.keeps fun b o e => (e0.bs b o e).1
  have hkind : ∀ y ∈ ps.zip us, scope.names.lookup y.1 = some .local ∨ (scope.names.lookup y.1 = some .cell ∧ ((cellsFrom (s.heap.objs.size + 1) scope.names []).lookup y.1).isSome = true) := fun ⟨n, v⟩ hy => by
    rcases S.par n (List.of_mem_zip hy).1 with q | q
    · exact .inl q
    · exact .inr ⟨q, PySem.W.cellsFrom_some _ _ _ (.inl q)⟩
  refine codeAny_call_function hr.depth (KX _ _ lk) rfl S.co S.gen rfl (PySem.W.codeRec_of KX hcd) (hb _ _ _ _ ?_)
  refine wpAny_newFunctionEnv_cells S.kind hkind fun env he s1 x => ?_
  subst he
  refine ⟨lim.keeps x.toInCall.keep, codeAny_func ?_⟩
  obtain ⟨t, ht, hq⟩ := hbody A outer s H vs Q E (hr.deeper _) hsp
  have I : Inv (cxOf CX P w K mg base N qual scope f cdv A outer s H E) [] (start N vs) H s1 := inv_start S hr.hd e0 hl r x
  refine wpAny_mono (ht [] s1 (start N vs) H _ I hq) (fun fl s' hs => ?_) fun e s' hs => hs
  have fin : ∀ {σ' : St} {H' : Hp} {v : V} {u : Value}, Inv (cxOf CX P w K mg base N qual scope f cdv A outer s H E) [] σ' H' s' → RelV v u → Q v H' → CE outer P w H s Q u s' :=
    fun {σ' H' v u} J rv q => ⟨v, H', J.os, J.bare, J.base, J.hok, rv, q⟩
  cases fl with
  | ret u =>
    obtain ⟨v, σ', H', J, rv, q⟩ := hs
    exact fin J rv q
  | next =>
    obtain ⟨σ', H', J, q⟩ := hs
    exact fin (v := V.non) (u := Value.none) J rfl q
  | brk =>
    obtain ⟨_, _, _, q⟩ := hs
    exact False.elim q
  | cont =>
    obtain ⟨_, _, _, q⟩ := hs
    exact False.elim q
end L2
namespace L2
open PySem PySem.Spec PyProof.Rows
section
variable {X : Cx} {x : Str} {p pos : Pos} {e : Expr} {es : List Expr} {t : TA} {id T : String} {r : List V → Hp → VK → Prop}
def tCB (r : List V → Hp → VK → Prop) (t : TA) : TE := fun σ H Q => t σ H fun vs H1 => r vs H1 Q
theorem pe_callB (hc : CallR X (.builtin id) r) (hg : Gl X x) (hm : X.mg x = none) (hv : bootBuiltins x = some (.builtin id)) (ha : PA X (e :: es) t) (hn : x ≠ "__name__" := by decide) (hdb : (x == ("__debug__" : Str)) = false := by decide)
    (he : starEach (e :: es) X.env = (false, eval e X.env) :: starEach es X.env := by rfl) (hpl : (backTo pos (starEach es X.env)).any (·.1) = false := by rfl) : PE X (.Call (.Name x p) (e :: es) [] pos) (tCB r t) := by
  intro pins s σ H Q I h
  refine wpAny_Call_Name_kw (ld_blt I hg hm hv ?_ hn hdb)
  exact PyProof.Rows.callWith_builtin1 (thn (ha pos pins s σ H _ I h) fun us s1 ⟨vs, H1, I1, r1, q1⟩ => hc pins s1 σ H1 vs us Q I1 r1 q1) he hpl
theorem pe_callTy (hc : CallR X (.type T) r) (hg : Gl X x) (hm : X.mg x = none) (hv : bootBuiltins x = some (.type T)) (ha : PA X (e :: es) t) (hn : x ≠ "__name__" := by decide) (hdb : (x == ("__debug__" : Str)) = false := by decide)
    (he : starEach (e :: es) X.env = (false, eval e X.env) :: starEach es X.env := by rfl) (hpl : (backTo pos (starEach es X.env)).any (·.1) = false := by rfl) : PE X (.Call (.Name x p) (e :: es) [] pos) (tCB r t) := by
  intro pins s σ H Q I h
  refine wpAny_Call_Name_kw (ld_blt I hg hm hv ?_ hn hdb)
  exact PyProof.Rows.callWith_type1 (thn (ha pos pins s σ H _ I h) fun us s1 ⟨vs, H1, I1, r1, q1⟩ => hc pins s1 σ H1 vs us Q I1 r1 q1) he hpl
end
end L2
namespace HT
open PySem PyProof.Rows
section
open PySem.SeqAt
open PySem.AutoSeq1 (wpAny_loadPart')
open PySem.MeetsSeq PySem.MeetsSeq2 PySem.MeetsSeq3
end
section
variable {prog : Program} {w : World} {A : Around} {E : Value → Shared → Prop} {s : Shared}
theorem cat_tup {t b : Addr} {vs ws : List Value} {Q : Value → Shared → Prop} (ht : IsTup s.heap t vs.toArray) (hb : IsTup s.heap b ws.toArray) (hv : vs ≠ [])
    (h1 : ws = [] → Q (.ref t) s) (h2 : ws ≠ [] → Q (.ref s.heap.objs.size) { s with heap := s.heap.push { cls := .type "tuple", data := .seq (vs ++ ws).toArray } })
    (hsz : vs.length + ws.length ≤ sizeLine) : wpAny (model prog w) A (binaryOp .Add (.ref t) (.ref b)) Q E s := by
  obtain ⟨⟨cls, dd, data, sl⟩, ho, hc, n, hd⟩ := id ht
  obtain ⟨⟨cls2, dd2, data2, sl2⟩, ho2, hc2, n2, hd2⟩ := id hb
  simp only at hc hd hc2 hd2
  subst hc hd hc2 hd2
  have e : vs.toArray ++ ws.toArray = (vs ++ ws).toArray := by simp
  by_cases hw : ws = []
  · exact concat_meets ⟨_, ho, rfl⟩ ⟨_, ho2, rfl⟩ noFill_tuple_add seq_tuple_add PySem.F.slot_tuple_add PySem.F.entry_tuple_add (PySem.F.args_tuple_add_2 _ _)
      (tuple_addW1 t b vs.toArray ws.toArray n n2 dd dd2 sl sl2 (by simpa using hv) (by simp [hw])) ⟨ho, ho2, h1 hw⟩
  · refine concat_meets ⟨_, ho, rfl⟩ ⟨_, ho2, rfl⟩ noFill_tuple_add seq_tuple_add PySem.F.slot_tuple_add PySem.F.entry_tuple_add (PySem.F.args_tuple_add_2 _ _)
      (tuple_addW2 t b vs.toArray ws.toArray n n2 dd dd2 sl sl2 (by simpa using hv) (by simpa using hw) (by rw [List.size_toArray, List.size_toArray]; exact hsz)) ⟨ho, ho2, ?_⟩
    rw [e]
    exact h2 hw
def sIx (n d : Nat) : Option Int → Nat
  | none => d
  | some v => if v < 0 then (v + (n : Int)).toNat else min v.toNat n
theorem sIx_le (n d : Nat) (hd : d ≤ n) (o : Option Int) : sIx n d o ≤ n := by
  cases o with
  | none => exact hd
  | some v =>
    show (if v < 0 then (v + (n : Int)).toNat else min v.toNat n) ≤ n
    by_cases hv : v < 0
    · rw [if_pos hv]; omega
    · rw [if_neg hv]; exact Nat.min_le_right _ _
theorem clip_eq (v : Int) (n d : Nat) : (if v < 0 then max (v + (n : Int)) 0 else min v (n : Int)) = ((sIx n d (some v) : Nat) : Int) := by
  show (if v < 0 then max (v + (n : Int)) 0 else min v (n : Int)) = (((if v < 0 then (v + (n : Int)).toNat else min v.toNat n) : Nat) : Int)
  by_cases hv : v < 0
  · simp only [if_pos hv]; omega
  · simp only [if_neg hv]; omega
theorem adjust_gen (lo hi : Option Int) (n : Nat) : Builtin.Slice.sliceAdjust lo hi 1 (n : Int) = (((sIx n 0 lo : Nat) : Int), ((sIx n n hi : Nat) : Int)) := by
  have h1 : ¬ ((1 : Int) < 0) := by omega
  unfold Builtin.Slice.sliceAdjust
  simp only [h1, if_false]
  refine Prod.ext ?_ ?_
  · cases lo with
    | none => rfl
    | some v => exact clip_eq v n 0
  · cases hi with
    | none => rfl
    | some v => exact clip_eq v n n
theorem places_gen (i j : Nat) : Builtin.Slice.slicePlaces (i : Int) (j : Int) 1 = j - i := by
  unfold Builtin.Slice.slicePlaces
  have h1 : (1 : Int) > 0 := by omega
  simp only [h1, if_true, Int.ediv_one]
  split <;> omega
theorem slicePart_ {v : Value} {o : Option Int} {Q : Option Int → Shared → Prop} (p : IsPart v o) (h : Q o s) : wpAny (model prog w) A (Builtin.Slice.slicePartIndex v) Q E s := by
  cases p with
  | none => exact slicePart_none h
  | int i t => exact slicePart_int h
theorem sliceApplied_gen {sl : Addr} {vl vu : Value} {lo hi : Option Int} {n : Nat} {Q : Int × Int × Nat → Shared → Prop} (hs : s.heap.IsSliceOf sl vl vu .none) (pl : IsPart vl lo) (pu : IsPart vu hi)
    (h : Q (((sIx n 0 lo : Nat) : Int), 1, sIx n n hi - sIx n 0 lo) s) : wpAny (model prog w) A (Builtin.Slice.sliceApplied (.ref sl) (pure (n : Int))) Q E s := by
  obtain ⟨os, hos, hcs, hds⟩ := id hs
  unfold Builtin.Slice.sliceApplied Builtin.Slice.sliceFields
  refine wpAny_bind (wpAny_bind (wpAny_field hos hds (x := vl) rfl (wpAny_bind (wpAny_field hos hds (x := vu) rfl (wpAny_bind (wpAny_field hos hds (x := .none) rfl (wpAny_pure ?_)))))))
  refine wpAny_bind (slicePart_none ?_)
  show wpAny _ _ (if ((1 : Int) == 0) = true then _ else _) _ _ s
  rw [if_neg (by decide)]
  refine wpAny_bind (slicePart_ pl (wpAny_bind (slicePart_ pu (wpAny_bind (wpAny_pure ?_)))))
  show wpAny _ _ (match Builtin.Slice.sliceAdjust lo hi 1 (n : Int) with | (lo, hi) => pure (lo, (1 : Int), Builtin.Slice.slicePlaces lo hi 1)) _ _ s
  rw [adjust_gen lo hi n]
  show wpAny _ _ (pure (((sIx n 0 lo : Nat) : Int), (1 : Int), Builtin.Slice.slicePlaces ((sIx n 0 lo : Nat) : Int) ((sIx n n hi : Nat) : Int) 1)) _ _ s
  rw [places_gen]
  exact wpAny_pure h
theorem pick_gen (xs : Array Value) (i k : Nat) : ((List.range k).filterMap fun (m : Nat) => xs[((i : Int) + (m : Int) * 1).toNat]?).toArray = ((xs.toList.drop i).take k).toArray := by
  have e : (fun (m : Nat) => xs[((i : Int) + (m : Int) * 1).toNat]?) = fun m => xs[i + m]? := by
    funext m
    have : ((i : Int) + (m : Int) * 1).toNat = i + m := by omega
    rw [this]
  rw [e]
  have := pick_run xs i k
  rw [List.filterMap_map] at this
  have e2 : ((fun x => xs[x]?) ∘ fun x => i + x) = fun m => xs[i + m]? := rfl
  rw [e2] at this
  rw [this]
theorem getItem_tuple_cut {t sl : Addr} {items : Array Value} {vl vu : Value} {lo hi : Option Int} {Q : Value → Shared → Prop} (ht : IsTup s.heap t items) (hs : s.heap.IsSliceOf sl vl vu .none) (pl : IsPart vl lo) (pu : IsPart vu hi)
    (hw : ¬ (sIx items.size 0 lo = 0 ∧ sIx items.size items.size hi = items.size))
    (h : Q (.ref s.heap.objs.size) { s with heap := s.heap.push { cls := .type "tuple", data := .seq ((items.toList.drop (sIx items.size 0 lo)).take (sIx items.size items.size hi - sIx items.size 0 lo)).toArray } })
    (hsz : items.size ≤ sizeLine) : wpAny (model prog w) A (getItem (.ref t) (.ref sl)) Q E s := by
  have htake : sizeOk (.seq ((items.toList.drop (sIx items.size 0 lo)).take (sIx items.size items.size hi - sIx items.size 0 lo)).toArray) := by
    show ((items.toList.drop (sIx items.size 0 lo)).take (sIx items.size items.size hi - sIx items.size 0 lo)).toArray.size ≤ sizeLine
    rw [List.size_toArray, List.length_take, List.length_drop, Array.length_toList]
    omega
  have hj : sIx items.size items.size hi ≤ items.size := sIx_le _ _ (Nat.le_refl _) hi
  obtain ⟨os, hos, hcs, hds⟩ := id hs
  have hTs : s.TypeIs (.ref sl) "slice" := ⟨os, hos, hcs⟩
  unfold getItem
  try with_reducible refine wpAny_holding ?_
  first | refine wpAny_bind (wpAny_pure ?_) | skip
  refine wpAny_bind (wpAny_sequenceKey ht.typeIs (by decide) ?_)
  refine wpAny_bind (wpAny_callSpecial?_slot (name := Str.ofString "__getitem__") ht.typeIs PyProof.Rows.slot_tuple_getitem
    (wpAny_call_entry PyProof.Rows.slot_tuple_getitem ht.typeIs entry_tuple_getitem ?_ (args_tuple_getitem _ _)))
  show wpAny _ _ (Builtin.Tuple.tupleItemsOf (.ref t) >>= _) _ _ s
  refine wpAny_bind (tupleItemsOf_ ht ?_)
  refine wpAny_bind (wpAny_typeOf hTs ?_)
  rw [if_pos (by decide)]
  refine wpAny_bind (sliceApplied_gen hs pl pu ?_)
  have hno : ¬ ((((sIx items.size 0 lo : Nat) : Int) == 0 && (1 : Int) == 1 && (sIx items.size items.size hi - sIx items.size 0 lo) == items.size) = true) := by
    intro q
    rw [Bool.and_eq_true, Bool.and_eq_true] at q
    have q1 : ((sIx items.size 0 lo : Nat) : Int) = 0 := eq_of_beq q.1.1
    have q2 : sIx items.size items.size hi - sIx items.size 0 lo = items.size := eq_of_beq q.2
    exact hw ⟨by omega, by omega⟩
  show wpAny _ _ (if (((sIx items.size 0 lo : Nat) : Int) == 0 && (1 : Int) == 1 && (sIx items.size items.size hi - sIx items.size 0 lo) == items.size) = true then _ else _) _ _ s
  rw [if_neg hno, pick_gen]
  first
    | exact wpAny_bind (m := Builtin.Tuple.tupleExact _) (wpAny_newObj_type (wpAny_pure ⟨_, rfl, wpAny_pure h⟩) htake)
    | exact wpAny_bind (m := Builtin.Tuple.tupleExact _) (wpAny_newObj_type (wpAny_bind (wpAny_pure (wpAny_pure ⟨_, rfl, wpAny_pure h⟩))) htake)
    | exact wpAny_bind (wpAny_bind (m := Builtin.Tuple.tupleExact _) (wpAny_newObj_type (wpAny_pure (wpAny_pure ⟨_, rfl, wpAny_pure h⟩)) htake))
    | exact wpAny_bind (wpAny_bind (m := Builtin.Tuple.tupleExact _) (wpAny_newObj_type (wpAny_pure ⟨_, rfl, wpAny_pure h⟩) htake))
end
end HT
namespace L2
open PySem PySem.Spec PyProof.Rows
abbrev TO := St → Hp → (Option Int → Hp → Prop) → Prop
def PO (X : Cx) (e : Option Expr) (t : TO) : Prop :=
  ∀ (pins : List (Addr × Obj)) (s : Shared) (σ : St) (H : Hp) (Q : Option Int → Hp → Prop), Inv X pins σ H s → t σ H Q →
    wpAny (model X.prog X.w) X.A (evalPart e X.env) (fun u s' => ∃ o H', Inv X pins σ H' s' ∧ IsPart u o ∧ Q o H') X.xe s
def tNoPart : TO := fun _ H Q => Q none H
def tPart (t : TE) : TO := fun σ H Q => t σ H fun x H1 => ∃ i, x = .int i ∧ Q (some i) H1
section
variable {X : Cx} {e : Expr} {te : TE} {lo hi : Option Expr} {tl th : TO} {pos p2 : Pos}
theorem po_none : PO X none tNoPart := by
  intro pins s σ H Q I h
  rw [evalPart_none]
  exact wpAny_pure ⟨none, H, I, .none, h⟩
theorem po_some (h : PE X e te) : PO X (some e) (tPart te) := by
  intro pins s σ H Q I hw
  rw [evalPart_some]
  refine thn (h pins s σ H _ I hw) fun u s1 ⟨x, H1, I1, r1, q1⟩ => ?_
  obtain ⟨i, rfl, q⟩ := q1
  obtain ⟨t, rfl⟩ := r1
  exact ⟨some i, H1, I1, .int i t, q⟩
def SlR (X : Cx) (r : V → Option Int → Option Int → Hp → VK → Prop) : Prop :=
  ∀ (pins : List (Addr × Obj)) (s : Shared) (σ : St) (H : Hp) (x : V) (v vl vu : Value) (lo hi : Option Int) (sl : Addr) (Q : VK), Inv X pins σ H s → RelV x v → s.heap.IsSliceOf sl vl vu .none → IsPart vl lo → IsPart vu hi → r x lo hi H Q →
    ∃ T id, typeLookup (.type T) "__getitem__" = pure (some (.builtin id)) ∧ s.TypeIs v T ∧ wpAny (model X.prog X.w) X.A (getItem v (.ref sl)) (EP X pins σ Q) X.xe s
theorem SlR.or {r r' : V → Option Int → Option Int → Hp → VK → Prop} (h : SlR X r) (h' : SlR X r') : SlR X (fun x lo hi H Q => r x lo hi H Q ∨ r' x lo hi H Q) := by
  intro pins s σ H x v vl vu lo hi sl Q I rx hs pl pu q
  rcases q with q | q
  · exact h pins s σ H x v vl vu lo hi sl Q I rx hs pl pu q
  · exact h' pins s σ H x v vl vu lo hi sl Q I rx hs pl pu q
def tSl (r : V → Option Int → Option Int → Hp → VK → Prop) (te : TE) (tl th : TO) : TE := fun σ H Q => te σ H fun x H1 => tl σ H1 fun l H2 => th σ H2 fun u H3 => r x l u H3 Q
theorem pe_slice {r : V → Option Int → Option Int → Hp → VK → Prop} (hr : SlR X r) (he : PE X e te) (hl : PO X lo tl) (hu : PO X hi th) : PE X (.Subscript e (.Slice lo hi none p2) pos) (tSl r te tl th) := by
  intro pins s σ H Q I h
  refine Subscript_ (thn (he pins s σ H _ I h) fun v s1 ⟨x, H1, I1, r1, q1⟩ => ?_)
  refine wpAny_Slice (thn (hl pins s1 σ H1 _ I1 q1) fun vl s2 ⟨l, H2, I2, pl, q2⟩ => thn (hu pins s2 σ H2 _ I2 q2) fun vu s3 ⟨u, H3, I3, pu, q3⟩ => ?_)
  rw [evalPart_none]
  refine wpAny_pure ?_
  have I4 : Inv X pins σ H3 { s3 with heap := s3.heap.push { cls := .type "slice", data := .fields #[vl, vu, .none] } } := I3.kept (t' := s3.toks) fun b ob q => Heap.get?_push_of_some _ q
  obtain ⟨T, id, hT, ht, hg⟩ := hr pins { s3 with heap := s3.heap.push { cls := .type "slice", data := .fields #[vl, vu, .none] } } σ H3 x v vl vu l u s3.heap.objs.size Q I4 r1 (Heap.IsSliceOf.new ..) pl pu q3
  show wpAny (model X.prog X.w) X.A (subscriptTail e (.Slice lo hi none p2) v (.ref s3.heap.objs.size)) (EP X pins σ Q) X.xe { s3 with heap := s3.heap.push { cls := .type "slice", data := .fields #[vl, vu, .none] } }
  exact tail_any (ops := [.ref s3.heap.objs.size, v]) ht hT hg (by with_unfolding_all rfl)
def cutV (xs : List V) (lo hi : Option Int) : List V := (xs.drop (HT.sIx xs.length 0 lo)).take (HT.sIx xs.length xs.length hi - HT.sIx xs.length 0 lo)
theorem cutV_length (xs : List V) (lo hi : Option Int) : (cutV xs lo hi).length ≤ xs.length := by
  unfold cutV
  rw [List.length_take, List.length_drop]
  omega
def rSlT (K : PySem.W.Frag) : V → Option Int → Option Int → Hp → VK → Prop := fun x lo hi H Q => ∃ a xs, x = .ref a ∧ SqT K H a xs ∧
  ¬ (HT.sIx xs.length 0 lo = 0 ∧ HT.sIx xs.length xs.length hi = xs.length) ∧ ∀ p, H p = none → Q (.ref p) (upd H p (.tup (cutV xs lo hi)))
theorem sl_tup : SlR X (rSlT X.K) := by
  intro pins s σ H x v vl vu lo hi sl Q I rx hs pl pu h
  obtain ⟨a, xs, rfl, hx, hw, q⟩ := h
  cases rx
  obtain ⟨its, r, ht, hz⟩ := I.tuple hx
  have hlen : its.toArray.size = xs.length := by rw [List.size_toArray]; exact r.length.symm
  refine ⟨"tuple", _, PyProof.Rows.slot_tuple_getitem.lookup, ht.typeIs, ?_⟩
  refine HT.getItem_tuple_cut ht hs pl pu (by rw [hlen]; exact hw) ?_ (by rw [hlen]; exact hz)
  rw [hlen]
  refine ⟨.ref s.heap.objs.size, _, I.laid (t' := s.toks) (o := .tup (cutV xs lo hi)) (fun b ob q => Heap.get?_push_of_some _ q) (Nat.le_refl _) ?_, rfl, q _ (I.hok.fresh (Nat.le_refl _))⟩
  exact ⟨Nat.le_trans (cutV_length xs lo hi) hz, _, (r.drop (HT.sIx xs.length 0 lo)).take (HT.sIx xs.length xs.length hi - HT.sIx xs.length 0 lo), IsTup.new _ _⟩
def rCatT (K : PySem.W.Frag) : R2 := fun x y H Q => ∃ a b xs ys, x = .ref a ∧ y = .ref b ∧ SqT K H a xs ∧ SqT K H b ys ∧ xs ≠ [] ∧ xs.length + ys.length ≤ sizeLine ∧
  (ys = [] → Q (.ref a) H) ∧ (ys ≠ [] → ∀ p, H p = none → Q (.ref p) (upd H p (.tup (xs ++ ys))))
theorem Vals.nil_iff {xs : List V} {us : List Value} (r : Vals xs us) : us = [] ↔ xs = [] := by
  cases r with
  | nil => simp
  | cons _ _ => simp
theorem op_catT : OpR X (binaryOp .Add) (rCatT X.K) := by
  intro pins s σ H x y v u Q I rx ry h
  obtain ⟨a, b, xs, ys, rfl, rfl, ha, hb, hx, hz, q1, q2⟩ := h
  cases rx
  cases ry
  obtain ⟨its, r1, p1, _⟩ := I.tuple ha
  obtain ⟨its2, r2, p2, _⟩ := I.tuple hb
  refine HT.cat_tup p1 p2 (fun z => hx (r1.nil_iff.mp z)) (fun z => ⟨.ref a, H, I, rfl, q1 (r2.nil_iff.mp z)⟩) (fun z => ?_) (by rw [← r1.length, ← r2.length]; exact hz)
  refine ⟨.ref s.heap.objs.size, _, I.laid (t' := s.toks) (o := .tup (xs ++ ys)) (fun b ob q => Heap.get?_push_of_some _ q) (Nat.le_refl _) ?_, rfl, q2 (fun w => z (r2.nil_iff.mpr w)) _ (I.hok.fresh (Nat.le_refl _))⟩
  exact ⟨by rw [List.length_append]; exact hz, _, r1.append r2, IsTup.new _ _⟩
end
end L2
namespace L2
open PySem PySem.Spec PyProof.Rows
def ixN (n : Nat) (i : Int) : Option Nat := if 0 ≤ i then (if i < n then some i.toNat else none) else if -(n : Int) ≤ i then some (i + n).toNat else none
def atI {α : Type} (xs : List α) (i : Int) : Option α := (ixN xs.length i).bind fun j => xs[j]?
theorem ixN_seq {n : Nat} {i : Int} {j : Nat} (h : ixN n i = some j) : seqIndex? i n = some j ∧ j < n ∧ -(n : Int) ≤ i ∧ i < n := by
  unfold ixN at h
  by_cases h0 : 0 ≤ i
  · rw [if_pos h0] at h
    by_cases h1 : i < n
    · rw [if_pos h1] at h
      have e : i.toNat = j := Option.some.inj h
      exact ⟨by rw [seqIndex_of h0 h1, e], by omega, by omega, h1⟩
    · rw [if_neg h1] at h; cases h
  · rw [if_neg h0] at h
    by_cases h1 : -(n : Int) ≤ i
    · rw [if_pos h1] at h
      have e : (i + n).toNat = j := Option.some.inj h
      exact ⟨by rw [seqIndex_neg (by omega) h1, e], by omega, h1, by omega⟩
    · rw [if_neg h1] at h; cases h
theorem atI_get {α : Type} {xs : List α} {i : Int} {v : α} (h : atI xs i = some v) : ∃ j, seqIndex? i xs.length = some j ∧ xs[j]? = some v ∧ j < xs.length ∧ -(xs.length : Int) ≤ i ∧ i < xs.length := by
  unfold atI at h
  cases e : ixN xs.length i with
  | none => rw [e] at h; cases h
  | some j =>
    rw [e] at h
    obtain ⟨h1, h2, h3, h4⟩ := ixN_seq e
    exact ⟨j, h1, h, h2, h3, h4⟩
theorem atI_nat {α : Type} {xs : List α} {j : Nat} {v : α} (h : xs[j]? = some v) : atI xs (j : Int) = some v := by
  have hj : j < xs.length := (List.getElem?_eq_some_iff.mp h).1
  have e : ixN xs.length (j : Int) = some j := by
    unfold ixN
    rw [if_pos (by omega), if_pos (by omega)]; simp
  unfold atI; rw [e]; exact h
def PlainIx (b : Expr) : Prop := ∀ o i, subscripted b false o i = operate [o, i] (getItem o i)
def IxR (X : Cx) (r : R2) : Prop :=
  ∀ (value slice : Expr) (pins : List (Addr × Obj)) (s : Shared) (σ : St) (H : Hp) (x y : V) (v u : Value) (Q : VK), Inv X pins σ H s → RelV x v → RelV y u → r x y H Q →
    subscripted slice false v u = operate [v, u] (getItem v u) → wpAny (model X.prog X.w) X.A (subscriptTail value slice v u) (EP X pins σ Q) X.xe s
def MtR (X : Cx) (id : String) (r : V → List V → Hp → VK → Prop) : Prop :=
  ∀ (pins : List (Addr × Obj)) (s : Shared) (σ : St) (H : Hp) (x : V) (xs : List V) (v : Value) (us : List Value) (Q : VK), Inv X pins σ H s → RelV x v → Vals xs us → r x xs H Q →
    wpAny (model X.prog X.w) X.A (call (.builtin id) (v :: us)) (EP X pins σ Q) X.xe s
section
variable {X : Cx} {a b : Expr} {ta tb : TE} {pos : Pos}
theorem IxR.or {r r' : R2} (h : IxR X r) (h' : IxR X r') : IxR X (fun x y H Q => r x y H Q ∨ r' x y H Q) := by
  intro value slice pins s σ H x y v u Q I rx ry q hs
  rcases q with q | q
  · exact h value slice pins s σ H x y v u Q I rx ry q hs
  · exact h' value slice pins s σ H x y v u Q I rx ry q hs
theorem MtR.or {id : String} {r r' : V → List V → Hp → VK → Prop} (h : MtR X id r) (h' : MtR X id r') : MtR X id (fun x xs H Q => r x xs H Q ∨ r' x xs H Q) := by
  intro pins s σ H x xs v us Q I rx rs q
  rcases q with q | q
  · exact h pins s σ H x xs v us Q I rx rs q
  · exact h' pins s σ H x xs v us Q I rx rs q
theorem pe_ix {r : R2} (hr : IxR X r) (ha : PE X a ta) (hb : PE X b tb) (hs : PlainIx b) : PE X (.Subscript a b pos) (tOp r ta tb) := by
  intro pins s σ H Q I h
  exact Subscript_ (binT ha hb I h fun v u s2 x y H2 I2 rx ry q => hr a b pins s2 σ H2 x y v u Q I2 rx ry q (hs _ _))
def rIxL (K : PySem.W.Frag) : R2 := fun x y H Q => ∃ p xs i v, x = .ref p ∧ y = .int i ∧ SqL K H p xs ∧ atI xs i = some v ∧ Q v H
def rIxT (K : PySem.W.Frag) : R2 := fun x y H Q => ∃ p xs i v, x = .ref p ∧ y = .int i ∧ SqT K H p xs ∧ atI xs i = some v ∧ Q v H
def rIxS : R2 := fun x y H Q => ∃ z i c, x = .str z ∧ y = .int i ∧ z.length ≤ sizeLine ∧ atI z.cps.toList i = some c ∧ Q (.str ⟨#[c]⟩) H
theorem ix_list : IxR X (rIxL X.K) := by
  intro value slice pins s σ H x y v u Q I rx ry h hs
  obtain ⟨p, xs, i, z, rfl, rfl, hq, he, q⟩ := h
  cases rx
  obtain ⟨t, rfl⟩ := ry
  obtain ⟨its, r, pl, hz⟩ := I.list hq
  obtain ⟨j, h1, h2, h3, h4, h5⟩ := atI_get he
  obtain ⟨w, ew, rw'⟩ := r.get h2
  have hl := r.length
  have hn := line63
  have fin : EP X pins σ Q w s := ⟨z, H, I, rw', q⟩
  by_cases h0 : 0 ≤ i
  · have hj : i.toNat = j := by
      rw [seqIndex_of h0 h5] at h1
      exact Option.some.inj h1
    exact item_listR pl.isList h0 (by omega) (by rw [hj]; simpa using ew) fin hs
  · have hj : (i + (its.toArray.size : Int)).toNat = j := by
      rw [seqIndex_neg (by omega) h4] at h1
      rw [List.size_toArray, ← hl]
      exact Option.some.inj h1
    exact subscriptTail_builtinR (x := w) pl.isList.typeIs slot_list_getitem.lookup
      (wpAny_getItem_list_neg (Q := fun r s' => r = w ∧ EP X pins σ Q r s') pl.isList (by omega) (by rw [List.size_toArray] <;> omega) (by omega) (by rw [hj]; simpa using ew) ⟨rfl, fin⟩) hs
theorem ix_tup : IxR X (rIxT X.K) := by
  intro value slice pins s σ H x y v u Q I rx ry h hs
  obtain ⟨p, xs, i, z, rfl, rfl, hq, he, q⟩ := h
  cases rx
  obtain ⟨t, rfl⟩ := ry
  obtain ⟨its, r, pl, hz⟩ := I.tuple hq
  obtain ⟨j, h1, h2, h3, h4, h5⟩ := atI_get he
  obtain ⟨w, ew, rw'⟩ := r.get h2
  have hl := r.length
  have hn := line63
  have fin : EP X pins σ Q w s := ⟨z, H, I, rw', q⟩
  exact subscriptTail_builtinR (x := w) pl.typeIs slot_tuple_getitem.lookup
    (getItem_tuple (j := j) (Q := fun r s' => r = w ∧ EP X pins σ Q r s') pl (by omega) (by omega) (by rw [List.size_toArray, ← hl]; exact h1) (by simpa using ew) ⟨rfl, fin⟩) hs
theorem ix_str : IxR X rIxS := by
  intro value slice pins s σ H x y v u Q I rx ry h hs
  obtain ⟨z, i, c, rfl, rfl, hz, he, q⟩ := h
  obtain ⟨t, rfl⟩ := rx
  obtain ⟨t', rfl⟩ := ry
  obtain ⟨j, h1, h2, h3, h4, h5⟩ := atI_get he
  have hl : z.cps.toList.length = z.length := by simp [Str.length]
  rw [hl] at h1 h4 h5
  have hn := line63
  exact tail_any (typeIs_str s z t) slot_str_getitem.lookup (getItem_str (c := c) (by
    have e1 : decide (i < -(2 ^ 63 : Int)) = false := decide_eq_false (by omega)
    have e2 : decide (i ≥ 2 ^ 63) = false := decide_eq_false (by omega)
    rw [e1, e2, Bool.or_false]) (by rw [h1]; simpa using h2) ⟨.str ⟨#[c]⟩, H, I.tok _, ⟨_, rfl⟩, q⟩) hs
def rIx (K : PySem.W.Frag) : R2 := fun x y H Q => rIxL K x y H Q ∨ rIxT K x y H Q ∨ rIxS x y H Q
theorem mapSeq_set (its : List Value) (n j : Nat) (u : Value) : Obj.mapSeq (·.setIfInBounds j u) { cls := .type "list", data := .seq its.toArray n } = { cls := .type "list", data := .seq (its.set j u).toArray n } := by
  simp [Obj.mapSeq]
theorem Inv.lst {pins : List (Addr × Obj)} {σ : St} {H : Hp} {s : Shared} {p : Addr} {xs : List V} (I : Inv X pins σ H s) (h : H p = some (.lst xs)) :
    ∃ (its : List Value) (n : Nat), Vals xs its ∧ s.heap.get? p = some { cls := .type "list", data := .seq its.toArray n } ∧ xs.length ≤ sizeLine := by
  obtain ⟨z, its, n, r, e⟩ := I.hok p _ h
  exact ⟨its, n, r, e, z⟩
theorem Inv.lstUpd {pins : List (Addr × Obj)} {σ : St} {H : Hp} {s : Shared} {p : Addr} {xs ys : List V} {its its' : List Value} {n n' : Nat} {f : Obj → Obj} (I : Inv X pins σ H s) (h : H p = some (.lst xs))
    (ho : s.heap.get? p = some { cls := .type "list", data := .seq its.toArray n }) (hf : f { cls := .type "list", data := .seq its.toArray n } = { cls := .type "list", data := .seq its'.toArray n' }) (r : Vals ys its') (hz : ys.length ≤ sizeLine) (t : Nat) :
    Inv X pins σ (upd H p (.lst ys)) { s with heap := s.heap.update p f, toks := t } := by
  have e : (s.heap.update p f).get? p = some { cls := .type "list", data := .seq its'.toArray n' } := by
    rw [Heap.get?_update_self f ho (by rw [hf] <;> rfl), hf]
  refine I.write (x := p) (e := p) (by rw [h]; trivial) (.inl rfl) (fun b u hb q => (Heap.get?_update_other _ _ (Ne.symm hb)).trans q) ⟨_, e⟩ ?_
  exact ⟨hz, its', n', r, e⟩
def rSetL : V → V → V → Hp → (Hp → Prop) → Prop := fun o i v H Q => ∃ p xs k j, o = .ref p ∧ i = .int k ∧ H p = some (.lst xs) ∧ ixN xs.length k = some j ∧ Q (upd H p (.lst (xs.set j v)))
theorem set_list : PSet X rSetL := by
  intro pins s σ H o i v ov iv u Q I ro ri rv h
  obtain ⟨p, xs, k, j, rfl, rfl, hp, hj, q⟩ := h
  cases ro
  obtain ⟨t, rfl⟩ := ri
  obtain ⟨its, n, r, ho, hz⟩ := I.lst hp
  obtain ⟨h1, h2, h3, h4⟩ := ixN_seq hj
  have hl := r.length
  have hn := line63
  have I' : Inv X pins σ (upd H p (.lst (xs.set j v))) { s with heap := s.heap.update p (Obj.mapSeq (·.setIfInBounds j u)) } :=
    I.lstUpd hp ho (mapSeq_set its n j u) (r.set rv j) (by rw [List.length_set]; exact hz) s.toks
  by_cases h0 : 0 ≤ k
  · have hk : k.toNat = j := by
      rw [seqIndex_of h0 h4] at h1
      exact Option.some.inj h1
    exact PySem.W.ki_setAt ho h0 (by omega) (by rw [List.size_toArray, ← hl]; exact h4) (by rw [hk]; exact ⟨_, I', q⟩)
  · have hk : (k + (its.toArray.size : Int)).toNat = j := by
      rw [seqIndex_neg (by omega) h3] at h1
      rw [List.size_toArray, ← hl]
      exact Option.some.inj h1
    exact PySem.W.ki_setBack ho (by omega) (by rw [List.size_toArray, ← hl]; exact h3) (by omega) (by rw [hk]; exact ⟨_, I', q⟩)
theorem slice_bounds (lo hi : Option Int) (n : Nat) : (sliceBounds lo hi none n).1 = ((HT.sIx n 0 lo : Nat) : Int) ∧ (sliceBounds lo hi none n).2.1 = ((HT.sIx n n hi : Nat) : Int) ∧ (sliceBounds lo hi none n).2.2 = 1 := by
  refine ⟨?_, ?_, rfl⟩
  · cases lo with
    | none => simp [sliceBounds, HT.sIx]
    | some i =>
      simp only [sliceBounds, HT.sIx, Option.getD_none, show (1 : Int) > 0 by decide, if_true]
      by_cases h : i < 0
      · simp only [h, if_true] <;> omega
      · simp only [h, if_false] <;> omega
  · cases hi with
    | none => simp [sliceBounds, HT.sIx]
    | some i =>
      simp only [sliceBounds, HT.sIx, Option.getD_none, show (1 : Int) > 0 by decide, if_true]
      by_cases h : i < 0
      · simp only [h, if_true] <;> omega
      · simp only [h, if_false] <;> omega
theorem slicePick_cut (its : List Value) (lo hi : Option Int) : slicePick its.toArray lo hi none = ((its.drop (HT.sIx its.length 0 lo)).take (HT.sIx its.length its.length hi - HT.sIx its.length 0 lo)).toArray := by
  obtain ⟨h1, h2, h3⟩ := slice_bounds lo hi its.toArray.size
  unfold slicePick
  rw [h1, h2, h3]
  simp only [sliceRange_one, pick_run, List.size_toArray] <;> rfl
def rSlL (K : PySem.W.Frag) : V → Option Int → Option Int → Hp → VK → Prop := fun x lo hi H Q => ∃ a xs, x = .ref a ∧ SqL K H a xs ∧ ∀ p, H p = none → Q (.ref p) (upd H p (.lst (cutV xs lo hi)))
theorem sl_list : SlR X (rSlL X.K) := by
  intro pins s σ H x v vl vu lo hi sl Q I rx hs pl pu h
  obtain ⟨a, xs, rfl, hx, q⟩ := h
  cases rx
  obtain ⟨its, r, ht, hz⟩ := I.list hx
  have hlen := r.length
  refine ⟨"list", _, slot_list_getitem.lookup, ht.isList.typeIs, ?_⟩
  refine wpAny_getItem_list_slice ht.isList hs pl pu .none (by simp) ?_ (by rw [List.size_toArray] <;> omega)
  rw [slicePick_cut, ← hlen]
  refine ⟨.ref s.heap.objs.size, _, I.laid (t' := s.toks) (o := .lst (cutV xs lo hi)) (fun b ob q => Heap.get?_push_of_some _ q) (Nat.le_refl _) ?_, rfl, q _ (I.hok.fresh (Nat.le_refl _))⟩
  exact ⟨Nat.le_trans (cutV_length xs lo hi) hz, _, 0, (r.drop (HT.sIx xs.length 0 lo)).take (HT.sIx xs.length xs.length hi - HT.sIx xs.length 0 lo), Heap.get?_push_size _ rfl⟩
theorem call_len_seq : CallR X (.builtin "len") (fun xs H Q => ∃ p ys, xs = [.ref p] ∧ (SqL X.K H p ys ∨ SqT X.K H p ys) ∧ Q (.int ys.length) H) := by
  intro pins s σ H xs us Q I r h
  obtain ⟨p, ys, rfl, hq, q⟩ := h
  obtain ⟨u, rfl, rx⟩ := vals1 r
  cases rx
  have hn := line63
  rcases hq with hq | hq
  · obtain ⟨its, r', pl, hz⟩ := I.list hq
    have hlen := r'.length
    exact Calls.call_len_list pl.isList (by simp only [List.size_toArray] <;> omega) ⟨.int ys.length, H, I.tok _, ⟨s.toks + 1, by rw [List.size_toArray, hlen]⟩, q⟩
  · obtain ⟨its, r', pl, hz⟩ := I.tuple hq
    have hlen := r'.length
    exact len_tuple pl (by simp only [List.size_toArray] <;> omega) ⟨.int ys.length, H, I.tok _, ⟨s.toks + 1, by rw [List.size_toArray, hlen]⟩, q⟩
theorem call_len_str : CallR X (.builtin "len") (fun xs H Q => ∃ z, xs = [.str z] ∧ z.length ≤ sizeLine ∧ Q (.int z.length) H) := by
  intro pins s σ H xs us Q I r h
  obtain ⟨z, rfl, hz, q⟩ := h
  obtain ⟨u, rfl, t, rfl⟩ := vals1 r
  have hn := line63
  exact len_str (by omega) ⟨.int z.length, H, I.tok _, ⟨_, rfl⟩, q⟩
theorem CallR.or {f : Value} {r r' : List V → Hp → VK → Prop} (h : CallR X f r) (h' : CallR X f r') : CallR X f (fun xs H Q => r xs H Q ∨ r' xs H Q) := by
  intro pins s σ H xs us Q I rs q
  rcases q with q | q
  · exact h pins s σ H xs us Q I rs q
  · exact h' pins s σ H xs us Q I rs q
theorem call_list_of : CallR X (.type "list") (fun xs H Q => ∃ p ys, xs = [.ref p] ∧ (SqL X.K H p ys ∨ SqT X.K H p ys) ∧ ∀ l, H l = none → Q (.ref l) (upd H l (.lst ys))) := by
  intro pins s σ H xs us Q I r h
  obtain ⟨p, ys, rfl, hq, q⟩ := h
  obtain ⟨u, rfl, rx⟩ := vals1 r
  cases rx
  have fin : ∀ (its : List Value), Vals ys its → ys.length ≤ sizeLine → ∀ (h' : Heap) (c' : Nat), (∀ b o', s.heap.get? b = some o' → h'.get? b = some o') →
      h'.get? s.heap.objs.size = some { cls := .type "list", dict := none, data := .seq its.toArray c', slots := #[] } → EP X pins σ Q (.ref s.heap.objs.size) { s with heap := h' } := fun its r' hz h' c' kp e =>
    ⟨.ref s.heap.objs.size, _, I.laid (t' := s.toks) kp (Nat.le_refl _) (show ObjOk X.prog X.w _ h' _ (.lst ys) from ⟨hz, its, c', r', e⟩), rfl, q _ (I.hok.fresh (Nat.le_refl _))⟩
  rcases hq with hq | hq
  · obtain ⟨its, r', pl, hz⟩ := I.list hq
    have hlen := r'.length
    obtain ⟨o, ho, hc, n, hd⟩ := pl.isList
    exact call_list_seq p (.inl rfl) ho hc hd (fun h' c' kp e => fin its r' hz h' c' kp e) (by simp only [List.size_toArray] <;> omega)
  · obtain ⟨its, r', pl, hz⟩ := I.tuple hq
    have hlen := r'.length
    obtain ⟨o, ho, hc, n, hd⟩ := pl
    exact call_list_seq p (.inr rfl) ho hc hd (fun h' c' kp e => fin its r' hz h' c' kp e) (by simp only [List.size_toArray] <;> omega)
theorem call_tuple_of : CallR X (.type "tuple") (fun xs H Q => ∃ p ys, xs = [.ref p] ∧ ((SqL X.K H p ys ∧ ∀ l, H l = none → Q (.ref l) (upd H l (.tup ys))) ∨ (SqT X.K H p ys ∧ Q (.ref p) H))) := by
  intro pins s σ H xs us Q I r h
  obtain ⟨p, ys, rfl, h⟩ := h
  obtain ⟨u, rfl, rx⟩ := vals1 r
  cases rx
  rcases h with ⟨hq, q⟩ | ⟨hq, q⟩
  · obtain ⟨its, r', pl, hz⟩ := I.list hq
    have hlen := r'.length
    refine call_tuple_list pl.isList (fun h' kp => ?_) (by simp only [List.size_toArray] <;> omega)
    have I1 : Inv X pins σ H { s with heap := h' } := I.kept (t' := s.toks) kp
    have I2 : Inv X pins σ (upd H h'.objs.size (.tup ys)) { s with heap := h'.push { cls := .type "tuple", data := .seq its.toArray } } :=
      I1.laid (t' := s.toks) (fun b o e => Heap.get?_push_of_some _ e) (Nat.le_refl _) (show ObjOk X.prog X.w _ _ _ (.tup ys) from ⟨hz, its, r', IsTup.new _ _⟩)
    exact ⟨.ref h'.objs.size, _, I2, rfl, q _ (I1.hok.fresh (Nat.le_refl _))⟩
  · obtain ⟨its, r', pl, hz⟩ := I.tuple hq
    exact call_tuple_same pl ⟨.ref p, H, I, rfl, q⟩
def tyV (K : PySem.W.Frag) (T : String) (x : V) (H : Hp) : Prop := match x with
  | .str _ => T = "str"
  | .int _ => T = "int"
  | .ref p => (T = "list" ∧ ∃ xs, SqL K H p xs) ∨ (T = "tuple" ∧ ∃ o, K.lookup p = some o ∧ o.cls = .type "tuple" ∧ o.dict = none) ∨
      (T = "dict" ∧ ((∃ kvs, H p = some (.dK kvs)) ∨ ∃ kvs, H p = some (.dT kvs))) ∨ (T = "set" ∧ ∃ S n, H p = some (.set S n))
  | _ => False
theorem tyV_is {pins : List (Addr × Obj)} {σ : St} {H : Hp} {s : Shared} {T : String} {x : V} {v : Value} (I : Inv X pins σ H s) (r : RelV x v) (ty : tyV X.K T x H) :
    s.TypeIs v T ∧ ∀ a, v = .ref a → ∃ ob, s.heap.get? a = some ob ∧ ob.dict = none := by
  cases x with
  | str z =>
    obtain ⟨t, rfl⟩ := r
    cases (show T = "str" from ty)
    exact ⟨typeIs_str s z t, fun _ e => nomatch e⟩
  | int i =>
    obtain ⟨t, rfl⟩ := r
    cases (show T = "int" from ty)
    exact ⟨typeIs_int s i t, fun _ e => nomatch e⟩
  | ref p =>
    cases r
    rcases ty with ⟨rfl, xs, hq⟩ | ⟨rfl, o, hk, hc, hd⟩ | ⟨rfl, hk⟩ | ⟨rfl, S, n, hk⟩
    · obtain ⟨its, _, pl, _⟩ := I.list hq
      refine ⟨pl.isList.typeIs, fun a e => ?_⟩
      cases e
      obtain ⟨o, n, e, c, hd, _⟩ := pl
      exact ⟨o, e, hd⟩
    · refine ⟨⟨o, I.kIn p o hk, hc⟩, fun a e => ?_⟩
      cases e
      exact ⟨o, I.kIn _ o hk, hd⟩
    · have z : ∃ o, s.heap.get? p = some o ∧ o.ExactDict := by
        rcases hk with ⟨kvs, hk⟩ | ⟨kvs, hk⟩
        · obtain ⟨_, _, _, _, o, _, _, e, ex, _⟩ := I.hok p _ hk
          exact ⟨o, e, ex⟩
        · obtain ⟨_, _, _, _, o, _, _, e, ex, _⟩ := I.hok p _ hk
          exact ⟨o, e, ex⟩
      obtain ⟨o, e, ex⟩ := z
      refine ⟨⟨o, e, ex.1⟩, fun a e2 => ?_⟩
      cases e2
      exact ⟨o, e, ex.2.1⟩
    · obtain ⟨o, _, _, _, e, ex, _⟩ := I.hok p _ hk
      refine ⟨⟨o, e, ex.1⟩, fun a e2 => ?_⟩
      cases e2
      exact ⟨o, e, ex.2.1⟩
  | _ => exact False.elim ty
def tBM (K : PySem.W.Frag) (T : String) (r : V → List V → Hp → VK → Prop) (to : TE) (t : TA) : TE := fun σ H Q => to σ H fun x H1 => tyV K T x H1 ∧ t σ H1 fun xs H2 => r x xs H2 Q
variable {o e : Expr} {es : List Expr} {to : TE} {t : TA} {name : Str} {apos cpos : Pos} {T id : String} {r : V → List V → Hp → VK → Prop}
theorem pe_bm (pa : PlainAttrs T) (slot : Slot T name id) (hty : typeOf (.builtin id) = pure (.type "method_descriptor")) (hm : MtR X id r) (ho : PE X o to) (ha : PA X (e :: es) t)
    (hbase : attributeBase o name X.env (eval o X.env) = eval o X.env := by rfl)
    (hfew : ((backTo cpos (starEach (e :: es) X.env)).all (fun x => !x.1) && (backToKw cpos (keywordEach [] X.env)).all (fun x => x.1.isSome)
      && decide ((e :: es).length + ([] : List Keyword).length + (if ([] : List Keyword).isEmpty then 0 else 1) < 30)) = true := by rfl)
    (hline : (apos.endLine == cpos.line) = true := by rfl) (hs : starEach (e :: es) X.env = (false, eval e X.env) :: starEach es X.env := by rfl) (hplain : (backTo cpos (starEach es X.env)).any (·.1) = false := by rfl) :
    PE X (.Call (.Attribute o name apos) (e :: es) [] cpos) (tBM X.K T r to t) := by
  intro pins s σ H Q I h
  refine wpAny_Call_method_late hbase hfew hline rfl (thn (ho pins s σ H _ I h) fun v s1 ⟨x, H1, I1, r1, ty, q1⟩ => ?_)
  obtain ⟨h1, h2⟩ := tyV_is I1 r1 ty
  refine ⟨T, id, pa, slot, hty, h1, h2, ?_⟩
  have hA := ha cpos pins s1 σ H1 _ I1 q1
  rw [hs] at hA ⊢
  refine Calls.callWith_builtin (by show (false || (backTo cpos (starEach es X.env)).any (·.1)) = false; rw [hplain] <;> rfl) (Calls.evalArgs_plain ?_)
  exact thn hA fun us s2 ⟨vs, H2, I2, r2, q2⟩ => hm pins s2 σ H2 x vs v us Q I2 r1 r2 q2
end
end L2
namespace L2
open PySem PySem.Spec PyProof.Rows
def MtM (X : Cx) (id : String) (r : V → List V → Hp → VK → Prop) : Prop :=
  ∀ (pins : List (Addr × Obj)) (s : Shared) (σ : St) (H : Hp) (x : V) (xs : List V) (v : Value) (us : List Value) (Q : VK), Inv X pins σ H s → RelV x v → Vals xs us → r x xs H Q →
    wpAny (model X.prog X.w) X.A (call (.builtin id) (v :: us)) (EP X pins σ Q) X.xe s
theorem Vals.one : ∀ {x : V} {us : List Value}, Vals [x] us → ∃ u, us = [u] ∧ RelV x u
  | _, _, .cons r .nil => ⟨_, rfl, r⟩
theorem Vals.two : ∀ {x y : V} {us : List Value}, Vals [x, y] us → ∃ u v, us = [u, v] ∧ RelV x u ∧ RelV y v
  | _, _, _, .cons r (.cons q .nil) => ⟨_, _, rfl, r, q⟩
theorem Vals.zero : ∀ {us : List Value}, Vals [] us → us = []
  | _, .nil => rfl
theorem Vals.rep {xs : List V} {us : List Value} (h : Vals xs us) : ∀ k : Nat, Vals (List.replicate k xs).flatten (List.replicate k us).flatten
  | 0 => .nil
  | k + 1 => by
    rw [List.replicate_succ, List.replicate_succ, List.flatten_cons, List.flatten_cons]
    exact Vals.append h (Vals.rep h k)
theorem foldl_rep (its : List Value) : ∀ (k : Nat) (acc : List Value),
    List.foldl (fun x1 x2 => x1 ++ x2) acc.toArray (List.replicate k its.toArray) = (acc ++ (List.replicate k its).flatten).toArray
  | 0, acc => by simp
  | k + 1, acc => by
    have e : acc.toArray ++ its.toArray = (acc ++ its).toArray := by simp
    have e2 : (acc ++ its) ++ (List.replicate k its).flatten = acc ++ (List.replicate (k + 1) its).flatten := by
      rw [List.replicate_succ, List.flatten_cons, List.append_assoc]
    rw [← e2, ← foldl_rep its k (acc ++ its), ← e, List.replicate_succ, List.foldl_cons]
section
variable {X : Cx} {pins : List (Addr × Obj)} {σ : St} {H : Hp} {s : Shared} {l b : Addr} {xs ys zs : List V}
theorem Inv.lset {its its' : List Value} {n : Nat} {f : Array Value → Array Value} {t' : Nat} (I : Inv X pins σ H s) (hH : H l = some (.lst xs))
    (e : s.heap.get? l = some { cls := .type "list", data := .seq its.toArray n }) (hf : f its.toArray = its'.toArray) (hv : Vals ys its') (hz : ys.length ≤ sizeLine) :
    Inv X pins σ (upd H l (.lst ys)) { s with heap := s.heap.update l (Obj.mapSeq f), toks := t' } := by
  have q := PySem.IsL.update e f
  rw [hf] at q
  refine I.write (x := l) (e := l) (by rw [hH]; exact trivial) (.inl rfl) (fun b' u hb hu => (Heap.get?_update_other s.heap (Obj.mapSeq f) (Ne.symm hb)).trans hu) ⟨_, q⟩ ?_
  exact ⟨hz, its', _, hv, q⟩
theorem Inv.lnew {its : List Value} {t' : Nat} (I : Inv X pins σ H s) (hv : Vals ys its) (hz : ys.length ≤ sizeLine) :
    Inv X pins σ (upd H s.heap.objs.size (.lst ys)) { s with heap := s.heap.push { cls := .type "list", data := .seq its.toArray }, toks := t' } :=
  I.laid (fun _ _ q => Heap.get?_push_of_some _ q) (Nat.le_refl _) ⟨hz, its, 0, hv, Heap.get?_push_size _ rfl⟩
theorem Inv.fresh (I : Inv X pins σ H s) : H s.heap.objs.size = none := I.hok.fresh (Nat.le_refl _)
theorem Inv.lstM (I : Inv X pins σ H s) (hH : H l = some (.lst xs)) : xs.length ≤ sizeLine ∧ ∃ (its : List Value) (n : Nat), Vals xs its ∧ xs.length = its.length ∧ s.heap.get? l = some { cls := .type "list", data := .seq its.toArray n } := by
  obtain ⟨z, its, n, r, e⟩ := I.hok l _ hH
  exact ⟨z, its, n, r, r.length, e⟩
theorem notLongL {n : Nat} (h : n ≤ sizeLine) : Builtin.List.listTooLong n = false := by
  unfold Builtin.List.listTooLong
  exact decide_eq_false (by omega)
end
section
variable {X : Cx}
def rAppend : V → List V → Hp → VK → Prop := fun x vs H Q => ∃ l xs y, x = .ref l ∧ vs = [y] ∧ H l = some (.lst xs) ∧ xs.length < sizeLine ∧ Q .non (upd H l (.lst (xs ++ [y])))
theorem mt_append : MtM X "list.append" rAppend := by
  intro pins s σ H x vs v us Q I rx rv h
  obtain ⟨l, xs, y, rfl, rfl, hH, hz, q⟩ := h
  cases rx
  obtain ⟨u, rfl, ru⟩ := rv.one
  obtain ⟨z, its, n, r, hl, e⟩ := I.lstM hH
  refine call_meets F.slot_list_append ⟨_, e, rfl⟩ F.entry_list_append (F.args_list_append_2 _ _) (PySem.list_append l its.toArray n u (by rw [List.size_toArray]; omega)) ⟨e, ?_⟩
  refine ⟨.non, _, I.lset (its' := its ++ [u]) hH e (by simp) (r.append (.cons ru .nil)) ?_, rfl, q⟩
  rw [List.length_append, List.length_singleton]
  omega
def rRep : R2 := fun x y H Q => ∃ l k xs, x = .ref l ∧ y = .int k ∧ H l = some (.lst xs) ∧ -(2 ^ 63) ≤ k ∧ k < 2 ^ 63 ∧ xs.length * k.toNat ≤ sizeLine ∧
  ∀ p, H p = none → Q (.ref p) (upd H p (.lst (List.replicate k.toNat xs).flatten))
theorem len_rep {α : Type} (xs : List α) (k : Nat) : (List.replicate k xs).flatten.length = k * xs.length := by
  induction k with
  | zero => simp
  | succ k ih => rw [List.replicate_succ, List.flatten_cons, List.length_append, ih, Nat.succ_mul, Nat.add_comm]
theorem op_rep : OpR X (binaryOp .Mult) rRep := by
  intro pins s σ H x y v u Q I rx ry h
  obtain ⟨l, k, xs, rfl, rfl, hH, h1, h2, hz, q⟩ := h
  cases rx
  obtain ⟨t, rfl⟩ := ry
  obtain ⟨z, its, n, r, hl, e⟩ := I.lstM hH
  have hlen : its.toArray.size * k.toNat ≤ sizeLine := by rw [List.size_toArray, ← hl]; exact hz
  have hcap : ¬ its.toArray.size * k.toNat > (2 ^ 63 - 1) / 8 := by
    have : (sizeLine : Nat) ≤ (2 ^ 63 - 1) / 8 := by decide
    omega
  have hfit : ¬ (!Builtin.List.listFitsIndex k) = true := by
    rw [fitsIndex_both h1 h2]
    exact Bool.false_ne_true
  have hlong : ¬ Builtin.List.listTooLong (its.toArray.size * k.toNat) = true := by
    rw [notLongL hlen]
    exact Bool.false_ne_true
  have hnew : List.foldl (fun x1 x2 => x1 ++ x2) #[] (List.replicate (if its.toArray.isEmpty = true then 0 else k.toNat) its.toArray) = (List.replicate k.toNat its).flatten.toArray := by
    have f0 : ∀ m : Nat, List.foldl (fun x1 x2 => x1 ++ x2) #[] (List.replicate m its.toArray) = (List.replicate m its).flatten.toArray := fun m => by
      have := foldl_rep its m []
      rw [List.nil_append] at this
      exact this
    rw [f0]
    cases its with
    | nil => simp
    | cons a r' => rw [if_neg (by simp)]
  refine wpAny_binaryOp_repeat_ref (T := "list") (U := "int") (by decide) ⟨_, e, rfl⟩ (fun s' => typeIs_int s' k t) noFill_list_mul F.fills_int_mul F.slot_int_rmul repeat_list F.slot_int_index.lookup
    (call_meets F.slot_int_rmul (typeIs_int s k t) F.entry_int_rmul (F.args_int_rmul_2 _ _) (int___rmul___int_list k t l its.toArray n)
      ⟨e, rfl, ⟨_, e, rfl⟩, call_meets F.slot_list_mul ⟨_, e, rfl⟩ F.entry_list_mul (F.args_list_mul_2 _ _) (AutoListH.list___mul___list_int_3 l its.toArray n k t hfit hcap hlong) ⟨e, ?_⟩⟩)
  rw [hnew]
  exact ⟨.ref _, _, I.lnew (t' := s.toks) (r.rep k.toNat) (by rw [len_rep, Nat.mul_comm]; exact hz), rfl, q _ I.fresh⟩
end
section
variable {prog : Program} {w : World} {A : Around} {E : Value → Shared → Prop} {s : Shared}
set_option maxRecDepth 100000 in
end
section
variable {X : Cx}
end
end L2
namespace L2
open PySem PySem.Spec PyProof.Rows
section
variable {κ : Type} [DecidableEq κ]
def valV (kvs : List (κ × V)) (k : κ) : Option V := (kvs.find? fun kv => decide (kv.1 = k)).map (·.2)
def putK (kvs : List (κ × V)) (k : κ) (v : V) : List (κ × V) :=
  if (kvs.any fun kv => decide (kv.1 = k)) = true then kvs.map (fun kv => if kv.1 = k then (kv.1, v) else kv) else kvs ++ [(k, v)]
def dropK (kvs : List (κ × V)) (k : κ) : List (κ × V) := kvs.filter fun kv => decide (kv.1 ≠ k)
theorem valV_pos {p : κ × V} {r : List (κ × V)} {k : κ} (e : p.1 = k) : valV (p :: r) k = some p.2 := by simp [valV, List.find?_cons, e]
theorem valV_neg {p : κ × V} {r : List (κ × V)} {k : κ} (e : ¬ p.1 = k) : valV (p :: r) k = valV r k := by simp [valV, List.find?_cons, e]
theorem valV_any (k : κ) : ∀ kvs : List (κ × V), (kvs.any fun kv => decide (kv.1 = k)) = (valV kvs k).isSome
  | [] => rfl
  | p :: r => by
    rw [List.any_cons]
    by_cases e : p.1 = k
    · simp only [valV_pos e, decide_eq_true e, Bool.true_or, Option.isSome_some]
    · rw [valV_neg e, decide_eq_false e, Bool.false_or]; exact valV_any k r
theorem length_putK (kvs : List (κ × V)) (k : κ) (v : V) : (putK kvs k v).length ≤ kvs.length + 1 := by
  unfold putK
  split
  · rw [List.length_map]; omega
  · rw [List.length_append, List.length_cons, List.length_nil]; omega
theorem putK_new {kvs : List (κ × V)} {k : κ} (v : V) (h : valV kvs k = none) : putK kvs k v = kvs ++ [(k, v)] := by
  unfold putK
  rw [valV_any, h]
  exact if_neg (by decide)
theorem RelO.isSome_eq {o : Option V} {u : Option Value} (r : RelO o u) : o.isSome = u.isSome := by
  cases o with
  | none => cases u with
    | none => rfl
    | some _ => exact (show False from r).elim
  | some _ => cases u with
    | none => exact (show False from r).elim
    | some _ => rfl
theorem RelO.getD {o : Option V} {u : Option Value} {d : V} {d' : Value} (r : RelO o u) (rd : RelV d d') : RelV (o.getD d) (u.getD d') := by
  cases o with
  | none => cases u with
    | none => exact rd
    | some _ => exact (show False from r).elim
  | some _ => cases u with
    | none => exact (show False from r).elim
    | some _ => exact r
theorem KV.val {kvs : List (κ × V)} {vs : List (κ × Value)} (r : KV kvs vs) (k : κ) : RelO (valV kvs k) (valueAt vs k) := by
  unfold KV at r
  induction r with
  | nil => exact True.intro
  | @cons p q ps qs h t ih =>
    obtain ⟨h1, h2⟩ := h
    by_cases e : p.1 = k
    · have e' : q.1 = k := h1.symm.trans e
      have b : valueAt (q :: qs) k = some q.2 := by simp [valueAt, List.find?_cons, e']
      rw [valV_pos e, b]; exact h2
    · have e' : ¬ q.1 = k := fun z => e (h1.trans z)
      have b : valueAt (q :: qs) k = valueAt qs k := by simp [valueAt, List.find?_cons, e']
      rw [valV_neg e, b]; exact ih
theorem KV.any {kvs : List (κ × V)} {vs : List (κ × Value)} (r : KV kvs vs) (k : κ) : (kvs.any fun kv => decide (kv.1 = k)) = vs.any fun kv => decide (kv.1 = k) := by
  unfold KV at r
  induction r with
  | nil => rfl
  | cons h t ih => rw [List.any_cons, List.any_cons, ih, h.1]
theorem KV.repl {kvs : List (κ × V)} {vs : List (κ × Value)} (r : KV kvs vs) (k : κ) {y : V} {u : Value} (ry : RelV y u) :
    KV (kvs.map fun kv => if kv.1 = k then (kv.1, y) else kv) (vs.map fun kv => if kv.1 = k then (kv.1, u) else kv) := by
  unfold KV at r ⊢
  induction r with
  | nil => exact .nil
  | @cons p q ps qs h t ih =>
    rw [List.map_cons, List.map_cons]
    refine .cons ?_ ih
    obtain ⟨h1, h2⟩ := h
    by_cases e : p.1 = k
    · rw [if_pos e, if_pos (h1.symm.trans e)]; exact ⟨h1, ry⟩
    · rw [if_neg e, if_neg (fun z => e (h1.trans z))]; exact ⟨h1, h2⟩
theorem KV.put {kvs : List (κ × V)} {vs : List (κ × Value)} (r : KV kvs vs) (k : κ) {y : V} {u : Value} (ry : RelV y u) : KV (putK kvs k y) (stored vs k u) := by
  unfold putK stored
  rw [r.any k]
  by_cases e : (vs.any fun kv => decide (kv.1 = k)) = true
  · rw [if_pos e, if_pos e]; exact r.repl k ry
  · rw [if_neg e, if_neg e]; exact Paired.snoc r ⟨rfl, ry⟩
theorem KV.drop {kvs : List (κ × V)} {vs : List (κ × Value)} (r : KV kvs vs) (k : κ) : KV (dropK kvs k) (without vs k) := by
  unfold KV at r ⊢
  unfold dropK without
  induction r with
  | nil => exact .nil
  | @cons p q ps qs h t ih =>
    obtain ⟨h1, h2⟩ := h
    rw [List.filter_cons, List.filter_cons]
    by_cases e : p.1 = k
    · have a : ¬ decide (p.1 ≠ k) = true := by simp [e]
      have b : ¬ decide (q.1 ≠ k) = true := by simp [h1.symm.trans e]
      rw [if_neg a, if_neg b]; exact ih
    · have e' : ¬ q.1 = k := fun z => e (h1.trans z)
      have a : decide (p.1 ≠ k) = true := by simp [e]
      have b : decide (q.1 ≠ k) = true := by simp [e']
      rw [if_pos a, if_pos b]; exact .cons ⟨h1, h2⟩ ih
theorem KV.keys {kvs : List (κ × V)} {vs : List (κ × Value)} (r : KV kvs vs) : kvs.map (·.1) = vs.map (·.1) := by
  unfold KV at r
  induction r with
  | nil => rfl
  | cons h t ih => rw [List.map_cons, List.map_cons, ih, h.1]
theorem KV.length {kvs : List (κ × V)} {vs : List (κ × Value)} (r : KV kvs vs) : kvs.length = vs.length := Paired.length r
end
theorem kV_is {P : Program} {w : World} {k : Key} {u : Value} (r : RelV (kV k) u) : (mixKind P w).is k u = true := by
  cases k with
  | inl i => obtain ⟨t, e⟩ := (show ∃ t, u = Value.int i t from r); subst e; exact mixKind_int P w i t
  | inr x => obtain ⟨t, e⟩ := (show ∃ t, u = Value.str x t from r); subst e; exact mixKind_str P w x t
theorem items_are {P : Program} {w : World} : ∀ {ks : List Key} {us : List Value}, Vals (ks.map kV) us → ItemsAre (mixKind P w) ks us
  | [], _, r => by rw [List.map_nil] at r; cases r; exact .nil
  | k :: ks, _, r => by
    rw [List.map_cons] at r
    cases r with
    | cons h t => exact .cons (kV_is h) (items_are t)
abbrev KT (H : Hp) : List (List Key × V) → List (List Key × Addr × Value) → Prop := Paired fun p q => p.1 = q.1 ∧ H q.2.1 = some (.tup (p.1.map kV)) ∧ RelV p.2 q.2.2
theorem KT.val {H : Hp} {kvs : List (List Key × V)} {xs : List (List Key × Addr × Value)} (r : KT H kvs xs) (k : List Key) : RelO (valV kvs k) ((atKey xs k).map (·.2)) := by
  induction r with
  | nil => exact True.intro
  | @cons p q ps qs h t ih =>
    obtain ⟨h1, _, h2⟩ := h
    by_cases e : p.1 = k
    · have e' : q.1 = k := h1.symm.trans e
      have b : atKey (q :: qs) k = some q.2 := by simp [atKey, List.find?_cons, e']
      rw [valV_pos e, b]; exact h2
    · have e' : ¬ q.1 = k := fun z => e (h1.trans z)
      have b : atKey (q :: qs) k = atKey qs k := by simp [atKey, List.find?_cons, e']
      rw [valV_neg e, b]; exact ih
theorem KT.repl {H : Hp} {kvs : List (List Key × V)} {xs : List (List Key × Addr × Value)} (r : KT H kvs xs) (k : List Key) {y : V} {u : Value} (ry : RelV y u) :
    KT H (kvs.map fun kv => if kv.1 = k then (kv.1, y) else kv) (xs.map (putAt k u)) := by
  induction r with
  | nil => exact .nil
  | @cons p q ps qs h t ih =>
    rw [List.map_cons, List.map_cons]
    refine .cons ?_ ih
    obtain ⟨h1, h2, h3⟩ := h
    unfold putAt
    by_cases e : p.1 = k
    · rw [if_pos e, if_pos (h1.symm.trans e)]; exact ⟨h1, h2, ry⟩
    · rw [if_neg e, if_neg (fun z => e (h1.trans z))]; exact ⟨h1, h2, h3⟩
theorem KT.put {H : Hp} {kvs : List (List Key × V)} {xs : List (List Key × Addr × Value)} (r : KT H kvs xs) (k : List Key) {b : Addr} {y : V} {u : Value} (hb : H b = some (.tup (k.map kV))) (ry : RelV y u) :
    KT H (putK kvs k y) (storedH xs k b u) := by
  have e : (kvs.any fun kv => decide (kv.1 = k)) = (atKey xs k).isSome := by
    rw [valV_any, (r.val k).isSome_eq, Option.isSome_map]
  unfold putK storedH
  rw [e]
  by_cases q : (atKey xs k).isSome = true
  · rw [if_pos q, if_pos q]; exact r.repl k ry
  · rw [if_neg q, if_neg q]; exact Paired.snoc r ⟨rfl, hb, ry⟩
theorem KT.keeps {H H' : Hp} {kvs : List (List Key × V)} {xs : List (List Key × Addr × Value)} (r : KT H kvs xs) (ht : ∀ b ys, H b = some (.tup ys) → H' b = some (.tup ys)) : KT H' kvs xs :=
  Paired.mapP r fun _ _ z => ⟨z.1, ht _ _ z.2.1, z.2.2⟩
section
variable {P : Program} {w : World} {H : Hp} {h : Heap} {a : Addr}
theorem rd_of {u : HO} (ok : HOk P w H h) (e : Rd H a u) : ObjOk P w H h a u := e.ok ok
theorem dk_rd {kvs : List (Key × V)} (ok : HOk P w H h) (e : Rd H a (.dK kvs)) : kvs.length ≤ sizeLine ∧ (a == sysModules) = false ∧ ∃ vs, KV kvs vs ∧ h.DictOf (mixKind P w) a vs :=
  show ObjOk P w H h a (.dK kvs) from rd_of ok e
theorem dk_of {kvs : List (Key × V)} (ok : HOk P w H h) (e : H a = some (.dK kvs)) : kvs.length ≤ sizeLine ∧ (a == sysModules) = false ∧ ∃ vs, KV kvs vs ∧ h.DictOf (mixKind P w) a vs := dk_rd ok (.inl e)
theorem key_of {ks : List Key} (ok : HOk P w H h) (e : H a = some (.tup (ks.map kV))) : (tupleKind (mixKind P w)).is h ks a := by
  obtain ⟨_, its, r, o, h1, h2, n, h3⟩ := (show ObjOk P w H h a (.tup (ks.map kV)) from ok a _ e)
  exact ⟨o, its.toArray, n, h1, h2, h3, by simpa using items_are r⟩
theorem dt_rd {kvs : List (List Key × V)} (ok : HOk P w H h) (e : Rd H a (.dT kvs)) : kvs.length ≤ sizeLine ∧ (a == sysModules) = false ∧
    ∃ xs, KT H kvs xs ∧ h.DictOfH (tupleKind (mixKind P w)) a xs := by
  obtain ⟨z, y, xs, r, o, es, ep, h1, h2, h3, h4, h5⟩ := (show ObjOk P w H h a (.dT kvs) from rd_of ok e)
  refine ⟨z, y, xs, r, o, es, ep, h1, h2, h3, h4, fun x hx => ?_, h5⟩
  have all : ∀ {l : List (List Key × V)} {m : List (List Key × Addr × Value)}, KT H l m → ∀ x ∈ m, (tupleKind (mixKind P w)).is h x.1 x.2.1 := by
    intro l m q
    induction q with
    | nil => intro x hx; exact nomatch hx
    | @cons p q ps qs hq t ih =>
      intro x hx
      rcases List.mem_cons.mp hx with e | hx
      · subst e
        exact key_of ok (by rw [← hq.1]; exact hq.2.1)
      · exact ih x hx
  exact all r x hx
end
def DGet (H : Hp) (a : Addr) (y : V) (r : Option V) : Prop :=
  (∃ kvs k, Rd H a (.dK kvs) ∧ y = kV k ∧ r = valV kvs k) ∨ ∃ kvs k b, Rd H a (.dT kvs) ∧ y = .ref b ∧ H b = some (.tup (k.map kV)) ∧ r = valV kvs k
def DPut (H : Hp) (a : Addr) (y v : V) (H' : Hp) : Prop :=
  (∃ kvs k, H a = some (.dK kvs) ∧ y = kV k ∧ kvs.length < sizeLine ∧ H' = upd H a (.dK (putK kvs k v))) ∨
  ∃ kvs k b, H a = some (.dT kvs) ∧ y = .ref b ∧ H b = some (.tup (k.map kV)) ∧ kvs.length < sizeLine ∧ H' = upd H a (.dT (putK kvs k v))
theorem DGet.k {H : Hp} {a : Addr} {kvs : List (Key × V)} {k : Key} (e : H a = some (.dK kvs)) : DGet H a (kV k) (valV kvs k) := .inl ⟨kvs, k, .inl e, rfl, rfl⟩
theorem DGet.t {H : Hp} {a b : Addr} {kvs : List (List Key × V)} {k : List Key} (e : H a = some (.dT kvs)) (eb : H b = some (.tup (k.map kV))) : DGet H a (.ref b) (valV kvs k) := .inr ⟨kvs, k, b, .inl e, rfl, eb, rfl⟩
theorem DPut.k {H : Hp} {a : Addr} {kvs : List (Key × V)} {k : Key} {v : V} (e : H a = some (.dK kvs)) (hl : kvs.length < sizeLine) : DPut H a (kV k) v (upd H a (.dK (putK kvs k v))) := .inl ⟨kvs, k, e, rfl, hl, rfl⟩
theorem DPut.t {H : Hp} {a b : Addr} {kvs : List (List Key × V)} {k : List Key} {v : V} (e : H a = some (.dT kvs)) (eb : H b = some (.tup (k.map kV))) (hl : kvs.length < sizeLine) :
    DPut H a (.ref b) v (upd H a (.dT (putK kvs k v))) := .inr ⟨kvs, k, b, e, rfl, eb, hl, rfl⟩
section
variable {X : Cx} {pins : List (Addr × Obj)} {σ : St} {H : Hp} {s : Shared} {a : Addr} {y v : V} {u r : Value} {o : Option V} {A : Around} {E : Value → Shared → Prop}
theorem Inv.big (I : Inv X pins σ H s) : sysModules < s.heap.objs.size := by
  have h : mainGlobals < s.heap.objs.size := (I.mod.glob.keeps I.bk).lt
  exact Nat.lt_trans (by decide) h
theorem d_getItem {Q : Value → Shared → Prop} (hu : A.units + 1 < cLine) (I : Inv X pins σ H s) (g : DGet H a y (some v)) (ry : RelV y u) (h : ∀ w' s', Inv X pins σ H s' → RelV v w' → Q w' s') :
    wpAny (model X.prog X.w) A (getItem (.ref a) u) Q E s := by
  rcases g with ⟨kvs, k, e, ey, l⟩ | ⟨kvs, k, b, e, ey, eb, l⟩
  · subst ey
    obtain ⟨z, hd, vs, rel, dd⟩ := dk_rd I.hok e
    obtain ⟨w', hw, rw'⟩ := RelO.some_of (v := v) (o := valueAt vs k) (by rw [l]; exact rel.val k)
    exact wpAny_getItem_of (kV_is ry) dd.mapOf hw (h w' _ (I.tok _) rw')
  · subst ey
    cases (show u = Value.ref b from ry)
    obtain ⟨z, hd, xs, rel, dd⟩ := dt_rd I.hok e
    obtain ⟨w', hw, rw'⟩ := RelO.some_of (v := v) (o := (atKey xs k).map (·.2)) (by rw [l]; exact rel.val k)
    obtain ⟨p, hp, hp2⟩ := Option.map_eq_some_iff.mp hw
    refine wpAny_getItem_heap (tupleKind_room_in1 hu) (key_of I.hok eb) dd hp ?_
    rw [hp2]
    exact h w' _ (I.tok _) rw'
theorem d_write {h' : Heap} {t' : Nat} {ob : HO} (I : Inv X pins σ H s) (mu : Mut (H a)) (hs : Heap.SameBut a s.heap h') (he : ∃ q, h'.get? a = some q) (new : ObjOk X.prog X.w (upd H a ob) h' a ob) :
    Inv X pins σ (upd H a ob) { s with heap := h', toks := t' } :=
  I.write (x := a) (e := a) mu (.inl rfl) (fun b q hb z => (hs.2 b hb).trans z) he new
theorem dk_new {P : Program} {w : World} {H' : Hp} {h' : Heap} {kvs : List (Key × V)} {vs : List (Key × Value)} (z : kvs.length ≤ sizeLine) (hd : (a == sysModules) = false) (rel : KV kvs vs) (dd : h'.DictOf (mixKind P w) a vs) :
    ObjOk P w H' h' a (.dK kvs) := ⟨z, hd, vs, rel, dd⟩
end
section
variable {X : Cx} {pins : List (Addr × Obj)} {σ : St} {H : Hp} {s : Shared} {a : Addr} {kvs : List (Key × V)} {k : Key} {u : Value} {A : Around} {E : Value → Shared → Prop}
end
def NoSl (i : Expr) : Prop := ∀ ov iv, subscripted i false ov iv = operate [ov, iv] (getItem ov iv)
theorem subD_of {prog : Program} {w : World} {A : Around} {E : Value → Shared → Prop} {s : Shared} {env : Env} {value slice : Expr} {pos : Pos} {T id : String} {Q : Value → Shared → Prop}
    (hl : typeLookup (.type T) "__getitem__" = pure (some (.builtin id))) (hs : NoSl slice)
    (h : wpAny (model prog w) A (eval value env) (fun o s₁ => wpAny (model prog w) A (eval slice env) (fun i s₂ => s₂.TypeIs o T ∧ wpAny (model prog w) A (getItem o i) Q E s₂) E s₁) E s) :
    wpAny (model prog w) A (eval (.Subscript value slice pos) env) Q E s := by
  refine Subscript_ (wpAny_mono h (fun o s₁ h₁ => wpAny_mono h₁ (fun i s₂ h₂ => ?_) fun _ _ x => x) fun _ _ x => x)
  obtain ⟨hT, h₂⟩ := h₂
  unfold subscriptTail
  refine wpAny_bind ?_
  rw [getitemInPython_of_ne hT.not_modules]
  refine wpAny_bind (wpAny_specialOf hT hl ?_)
  have fin : wpAny (model prog w) A (subscripted slice false o i) (fun r s₃ => wpAny (model prog w) A (letTemporaryGo value o r >>= fun _ => pure r) Q E s₃) E s₂ := by
    rw [hs o i]
    exact wpAny_operating (wpAny_mono h₂ (fun r s₃ h₃ => wpAny_bind (wpAny_letTemporaryGo (wpAny_pure h₃))) fun _ _ x => x)
  first
    | exact wpAny_pure (wpAny_bind fin)
    | exact wpAny_bind (wpAny_pure (wpAny_bind fin))
    | exact wpAny_bind fin
theorem dict_typeIs {X : Cx} {pins : List (Addr × Obj)} {σ : St} {H : Hp} {s : Shared} {a : Addr} {y : V} {o : Option V} (I : Inv X pins σ H s) (g : DGet H a y o) : s.TypeIs (.ref a) "dict" := by
  rcases g with ⟨kvs, k, e, _, _⟩ | ⟨kvs, k, b, e, _, _, _⟩
  · obtain ⟨_, _, vs, _, dd⟩ := dk_rd I.hok e
    exact dd.typeIs
  · obtain ⟨_, _, xs, _, dd⟩ := dt_rd I.hok e
    exact dd.typeIs
def tDGet (td ty : TE) : TE := fun σ H Q => td σ H fun x H1 => ty σ H1 fun y H2 => ∃ a v, x = .ref a ∧ DGet H2 a y (some v) ∧ Q v H2
section
variable {X : Cx} {o i e value : Expr} {pos pos' tpos : Pos} {td ty tv : TE}
theorem pe_dget (hu : X.A.units + 1 < cLine) (ho : PE X o td) (hi : PE X i ty) (hs : NoSl i) : PE X (.Subscript o i pos) (tDGet td ty) := by
  intro pins s σ H Q I h
  refine subD_of PySem.F.slot_dict_getitem.lookup hs (thn (ho pins s σ H _ I h) fun u s1 ⟨x, H1, I1, rx, q1⟩ => thn (hi pins s1 σ H1 _ I1 q1) fun iv s2 ⟨y, H2, I2, ry, a, v, ex, g, q2⟩ => ?_)
  subst ex
  obtain rfl : u = Value.ref a := rx
  exact ⟨dict_typeIs I2 g, d_getItem hu I2 g ry fun w' s3 I3 rw' => ⟨v, H2, I3, rw', q2⟩⟩
end
theorem dk_empty {P : Program} {w : World} {H : Hp} (h : Heap) (hb : sysModules < h.objs.size) : ObjOk P w H (h.push { cls := .type "dict", data := .dict #[] }) h.objs.size (.dK []) :=
  ⟨Nat.zero_le _, beq_eq_false_iff_ne.mpr (Ne.symm (Nat.ne_of_lt hb)), [], .nil, Heap.DictOf.new h⟩
section
variable {X : Cx} {pos : Pos}
end
def tPairs : List (TE × TE) → St → Hp → (List (V × V) → Hp → Prop) → Prop
  | [], _, H, Q => Q [] H
  | (tk, tv) :: r, σ, H, Q => tk σ H fun x H1 => tv σ H1 fun y H2 => tPairs r σ H2 fun ps H3 => Q ((x, y) :: ps) H3
abbrev VV : List (V × V) → List (Value × Value) → Prop := Paired fun p q => RelV p.1 q.1 ∧ RelV p.2 q.2
def PPs (X : Cx) (pos : Pos) (keys : List (Option Expr)) (values : List Expr) (trs : List (TE × TE)) : Prop :=
  ∀ (pins : List (Addr × Obj)) (s : Shared) (σ : St) (H : Hp) (Q : List (V × V) → Hp → Prop), Inv X pins σ H s → tPairs trs σ H Q →
    wpAny (model X.prog X.w) X.A (evalPairs (pairTrees keys values X.env pos)) (fun vs s' => ∃ ps H', Inv X pins σ H' s' ∧ VV ps vs ∧ Q ps H') X.xe s
def mergeK (kvs more : List (Key × V)) : List (Key × V) := more.foldl (fun acc kv => putK acc kv.1 kv.2) kvs
theorem KV.merge : ∀ {more : List (Key × V)} {rs : List (Key × Value)} {kvs : List (Key × V)} {vs : List (Key × Value)}, KV more rs → KV kvs vs → KV (mergeK kvs more) (merged vs rs) := by
  intro more rs kvs vs r
  unfold KV at r
  induction r generalizing kvs vs with
  | nil => intro q; exact q
  | @cons p q ps qs h t ih =>
    intro r0
    have e : KV (putK kvs p.1 p.2) (stored vs q.1 q.2) := by
      have := r0.put p.1 h.2
      rw [← h.1]; exact this
    exact ih e
theorem length_mergeK : ∀ (more kvs : List (Key × V)), (mergeK kvs more).length ≤ kvs.length + more.length
  | [], kvs => by show kvs.length ≤ kvs.length + 0; omega
  | p :: r, kvs => by
    have h1 := length_mergeK r (putK kvs p.1 p.2)
    have h2 := length_putK kvs p.1 p.2
    show (mergeK (putK kvs p.1 p.2) r).length ≤ _
    rw [List.length_cons]; omega
theorem carries_of {P : Program} {w : World} : ∀ {kvs : List (Key × V)} {ws : List (Value × Value)}, VV (kvs.map fun kv => (kV kv.1, kv.2)) ws → ∃ rs, Carries (mixKind P w) ws rs ∧ KV kvs rs
  | [], _, r => by rw [List.map_nil] at r; cases r; exact ⟨[], True.intro, .nil⟩
  | p :: kvs, _, r => by
    rw [List.map_cons] at r
    cases r with
    | @cons a b as bs h t =>
      obtain ⟨rs, c, q⟩ := carries_of (P := P) (w := w) t
      obtain ⟨b1, b2⟩ := b
      exact ⟨(p.1, b2) :: rs, ⟨kV_is h.1, rfl, c⟩, .cons ⟨rfl, h.2⟩ q⟩
def tDisp (trs : List (TE × TE)) : TE := fun σ H Q => ∀ p, H p = none → tPairs trs σ (upd H p (.dK [])) fun ps H2 => H2 p = some (.dK []) ∧ ∃ kvs : List (Key × V), ps = kvs.map (fun kv => (kV kv.1, kv.2)) ∧ kvs.length ≤ 15 ∧ Q (.ref p) (upd H2 p (.dK (mergeK [] kvs)))
theorem pe_disp {X : Cx} {pos : Pos} {keys : List (Option Expr)} {values : List Expr} {trs : List (TE × TE)} (h : PPs X pos keys values trs) (hall : keys.all (·.isSome) = true) (hl : keys.length = values.length) (h0 : keys ≠ [])
    (h15 : keys.length ≤ 15) : PE X (.Dict keys values pos) (tDisp trs) := by
  intro pins s σ H Q I q
  have hn := I.hok.fresh (Nat.le_refl s.heap.objs.size)
  have I1 := I.laid (a := s.heap.objs.size) (o := .dK []) (h' := s.heap.push { cls := .type "dict", data := .dict #[] }) (t' := s.toks) (fun _ _ q => Heap.get?_push_of_some _ q) (Nat.le_refl _) (dk_empty s.heap I.big)
  refine wpAny_Dict_walk (knd := mixKind X.prog X.w) hall hl h0 h15 (thn (h pins _ σ _ _ I1 (q _ hn)) fun ws s2 ⟨ps, H2, I2, rel, e, kvs, ep, lk, q2⟩ => ?_)
  subst ep
  obtain ⟨rs, c, rk⟩ := carries_of (P := X.prog) (w := X.w) rel
  obtain ⟨z, hd, vs0, r0, dd⟩ := dk_of I2.hok e
  cases r0
  refine ⟨rs, c, dd, fun h' dd' hs => ⟨.ref s.heap.objs.size, _, ?_, rfl, q2⟩⟩
  have hz : (mergeK [] kvs).length ≤ sizeLine := by
    have h1 := length_mergeK kvs []
    rw [List.length_nil] at h1
    rw [sizeLine_eq]; omega
  have he : ∃ q, h'.get? s.heap.objs.size = some q := let ⟨q, _, _, hq, _⟩ := dd'; ⟨q, hq⟩
  exact d_write I2 (by rw [e]; exact True.intro) hs he (dk_new hz hd (rk.merge .nil) dd')
structure M1 (X : Cx) (o : Expr) (m : Str) (apos : Pos) (e : Expr) (cpos : Pos) : Prop where
  base : attributeBase o m X.env (eval o X.env) = eval o X.env
  few : ((backTo cpos (starEach [e] X.env)).all (fun x => !x.1) && (backToKw cpos (keywordEach [] X.env)).all (fun x => x.1.isSome)
    && decide (([e] : List Expr).length + ([] : List Keyword).length + (if ([] : List Keyword).isEmpty then 0 else 1) < 30)) = true
  line : (apos.endLine == cpos.line) = true
  trees : backTo cpos (starEach [e] X.env) = [(false, eval e X.env)]
structure M2 (X : Cx) (o : Expr) (m : Str) (apos : Pos) (e f : Expr) (cpos : Pos) : Prop where
  base : attributeBase o m X.env (eval o X.env) = eval o X.env
  few : ((backTo cpos (starEach [e, f] X.env)).all (fun x => !x.1) && (backToKw cpos (keywordEach [] X.env)).all (fun x => x.1.isSome)
    && decide (([e, f] : List Expr).length + ([] : List Keyword).length + (if ([] : List Keyword).isEmpty then 0 else 1) < 30)) = true
  line : (apos.endLine == cpos.line) = true
  trees : backTo cpos (starEach [e, f] X.env) = [(false, eval e X.env), (false, eval f X.env)]
section
variable {X : Cx} {pins : List (Addr × Obj)} {σ : St} {H : Hp} {s : Shared} {a : Addr} {y d : V} {u r : Value} {o : Option V} {A : Around} {E : Value → Shared → Prop}
end
section
variable {X : Cx} {o e f : Expr} {apos cpos : Pos} {td ty tx : TE}
end
section
variable {X : Cx} {pins : List (Addr × Obj)} {σ : St} {H : Hp} {s : Shared} {a : Addr} {kvs : List (Key × V)} {A : Around} {E : Value → Shared → Prop}
end
section
variable {X : Cx} {pins : List (Addr × Obj)} {σ : St} {H : Hp} {s : Shared} {a : Addr} {y : V} {u : Value} {A : Around} {E : Value → Shared → Prop}
end
end L2
namespace Att
open PySem PySem.W PySem.Calls PyProof.Rows
theorem ints_of_wellAll {P : Params} {h : Heap} : ∀ (ns : List Int) (vs : List Value), WellAll P h vs (ns.map WData.int) → IntsAre vs ns := by
  intro ns
  induction ns with
  | nil =>
    intro vs w
    rw [List.map_nil] at w
    cases w
    exact .nil
  | cons n ns ih =>
    intro vs w
    rw [List.map_cons] at w
    cases w with
    | cons a b =>
      cases a
      exact .cons _ _ (ih _ b)
theorem script_of {l : OpenLaw} {n : Nat} (hn : l.most = some n) {P : Params} {h : Heap} {args : List WData} {vals : List Value}
    (hpre : l.row.toRowW.claim.pre args = true) (hwl : WellAll P h vals args) :
    ∃ a vs ns, vals = [Value.ref a] ∧ args = [WData.list (ns.map WData.int)] ∧ h.get? a = some { cls := .type "list", data := .seq vs.toArray } ∧ IntsAre vs ns ∧ ns.length ≤ n := by
  have hsh : WShape.hasAll [] args [.list .int] = true := (pre_splitW hpre).1
  have hc : l.pre.holds [] { args := args } = true := (pre_splitW hpre).2
  obtain ⟨d, r, rfl, h1, h2⟩ := hasAllW_cons hsh
  obtain rfl := hasAllW_nil h2
  obtain ⟨xs, rfl, h3⟩ := hasW_list h1
  obtain ⟨ns, rfl⟩ := items_int h3
  have hlen : ns.length ≤ n := by
    unfold OpenLaw.pre at hc
    have h4 : (WTm.not (.lt (.lit (.int (n : Int))) (.len (.arg 0)))).holds [] { args := [.list (ns.map .int)] } = true := by
      have h4 := (holds_andW hc).1
      rw [hn] at h4
      exact h4
    have h5 := condW_of h4 (w_not (w_lt w_lit (w_len_list (w_arg rfl))))
    rw [List.length_map] at h5
    refine Nat.le_of_not_lt fun q => ?_
    have q' : (n : Int) < ((ns.length : Nat) : Int) := by omega
    first
      | (rw [decide_eq_true q'] at h5; exact absurd h5 (by decide))
      | (simp at h5; omega)
  cases hwl with
  | cons w1 w2 =>
    cases w2
    cases w1 with
    | list ho hall => exact ⟨_, _, ns, rfl, rfl, ho, ints_of_wellAll ns _ hall, hlen⟩
theorem post_true (l : OpenLaw) (args : List WData) : l.row.toRowW.claim.post args (.bool true) args = true :=
  postW_of (r := l.row.toRowW) (X := (true == true))
    (show WShape.has [] (.bool true) .bool = true by first | rfl | decide | simp [WShape.has, WShape.arms, WShape.armsAll])
    (show (WTm.eq .res (.lit (.bool true))).value [] { args := args, res := some (.bool true), after := args } = some (.bool (true == true)) from w_eq_bool (w_res rfl) w_lit) rfl
theorem attach_call {l : OpenLaw} {n : Nat} {q : Program} {loose : List Str} {XP : (Str → Option Value) → Heap → Prop} {YP : World → Heap → Prop} {d : DefRec}
    (hn : l.most = some n) (hdf : d.params.defaults = [])
    (call : ∀ (w : World) (s₀ s₁ : Shared) (mg mb : Str → Option Value) (fa : Addr) (o : Obj) (pm cd doc : Value) (a : Addr) (vs : List Value) (ns : List Int),
      Ground q loose [] XP w s₀ mg mb s₁.heap → YP w s₁.heap →
      s₁.heap.get? fa = some o → o.data = .func (docDef d.name d.params d.body d.scope pm cd doc) → s₁.heap.CodeRec cd d.name → mg d.name = some (.ref fa) →
      s₁.heap.get? a = some { cls := .type "list", data := .seq vs.toArray } → IntsAre vs ns → ns.length ≤ n → s₁.gens = #[] →
      codeAny (model l.prog w) callerA (.call (.ref fa) ⟨[.ref a], []⟩) (fun r s' => r = .ok (.ret (.bool true)) ∧ OldK s₁.heap s'.heap ∧ s'.os = s₁.os ∧ AllBare s'.gens) s₁) :
    WalkO q loose XP YP l.row.toRowW d [] (fun f vs => PySem.call f vs) := by
  intro w s₀ s₁ mg mb G Y fa o pm cd doc dV kV ho hd hcd hD hmg hg args vals as hpre hlay hrd hwl hlo
  obtain rfl : dV = .none := Dflts.none hD hdf
  obtain rfl : kV = .none := Dflts.noKw hD
  obtain ⟨a, vs, ns, rfl, rfl, hobj, hints, hlen⟩ := script_of hn hpre hwl
  refine enter_call (codeAny_mono (call w s₀ s₁ mg mb fa o pm cd doc a vs ns G Y ho (fd_plain hd) hcd hmg hobj hints hlen hg) fun r s' hq => ?_)
  obtain ⟨rfl, h2, h3, h4⟩ := hq
  exact ⟨.inl ⟨.bool true, .bool true, [], rfl, fun _ => rfl, .bool true, post_true l _, fun _ => ⟨List.Pairwise.nil, fun _ hm => (nomatch hm)⟩⟩, h2, h3, h4⟩
section
variable {prog : Program} {w : World} {A : Around} {E : Value → Shared → Prop} {s : Shared} {K : Frag}
end
end Att
namespace L2
open PySem PySem.Spec PyProof.Rows
theorem vals_ints : ∀ {vs : List Value} {ns : List Int}, IntsAre vs ns → Vals (ns.map V.int) vs
  | _, _, .nil => .nil
  | _, _, .cons n t h => .cons ⟨t, rfl⟩ (vals_ints h)
def Only (H : Hp) : Prop := ∀ b, H b = none ∨ ∃ o xs, H b = some (.frz o (.lst xs))
theorem law_call {P : Program} {w : World} {K : PySem.W.Frag} {mg mb : Str → Option Value} {CX : CXT} {k : Nat} {fa a : Addr} {fd : FuncData} {x : Str} {sp : Sp} {s₁ : Shared} {vs : List Value} {ns : List Int}
    (KX : K.In s₁.heap) (hns : s₁.heap.Ns mainGlobals mg) (hb : s₁.heap.Ns builtinsNs mb) (hbb : ∀ x : Str, x ≠ "__name__" → mb x = bootBuiltins x) (hlim : s₁.heap.NoLimit) (hg : s₁.gens = #[])
    (ha : s₁.heap.get? a = some { cls := .type "list", data := .seq vs.toArray }) (hi : IntsAre vs ns) (hl : ns.length ≤ sizeLine) (hr : Room k callerA)
    (F : ∀ base : Heap, K.In base → base.Ns mainGlobals mg → FnOk P w K mg base CX k fa fd [x] sp) (hbind : ∀ (s : Shared) (u : Value), BindsTo s fd ⟨[u], []⟩ [(x, u)])
    (hsp : ∀ H : Hp, Only H → SqL K H a (ns.map V.int) → sp [.ref a] H (fun v _ => v = .bl true) fun _ _ _ => False)
    (hCX : ∀ H e s', CX [] H s₁ (fun _ _ _ => False) e s' → False) :
    codeAny (model P w) callerA (.call (.ref fa) ⟨[.ref a], []⟩) (fun r s' => r = .ok (.ret (.bool true)) ∧ OldK s₁.heap s'.heap ∧ s'.os = s₁.os ∧ AllBare s'.gens) s₁ := by
  have rv := vals_ints hi
  have lenV := hi.length
  -- from an abstract heap in which nothing but the script may be tracked
  have core : ∀ H : Hp, Only H → SqL K H a (ns.map V.int) → HOk P w H s₁.heap → (∀ b, H b ≠ none → b = a) → (H a ≠ none → K.lookup a = none) →
      codeAny (model P w) callerA (.call (.ref fa) ⟨[.ref a], []⟩) (fun r s' => r = .ok (.ret (.bool true)) ∧ OldK s₁.heap s'.heap ∧ s'.os = s₁.os ∧ AllBare s'.gens) s₁ := by
    intro H hO hS hok hA hK
    have base_of : ∀ {b : Addr} {o : Obj}, s₁.heap.get? b = some o → H b = none → (hidT s₁.heap H).get? b = some o := fun e n => hidT_get e n
    have noA : ∀ {b : Addr} {o : Obj} {es : Array DictEntry} {ep : Nat}, s₁.heap.get? b = some o → o.data = .dict es ep → H b = none := fun {b o es ep} e d => by
      cases q : H b with
      | none => rfl
      | some u =>
        have e' : b = a := hA b (by rw [q]; simp)
        subst e'
        rw [ha] at e; cases e
        have d' : Data.seq vs.toArray _ = Data.dict es ep := d
        cases d'
    have nsK : ∀ {b : Addr} {m : Str → Option Value}, s₁.heap.Ns b m → (hidT s₁.heap H).Ns b m := fun {b m} ⟨o, es, ep, e, d, r⟩ => ⟨o, es, ep, base_of e (noA e d), d, r⟩
    have hKb : K.In (hidT s₁.heap H) := fun b o e => base_of (KX b o e) (by
      cases q : H b with
      | none => rfl
      | some u =>
        have e' : b = a := hA b (by rw [q]; simp)
        subst e'
        rw [hK (by rw [q]; simp)] at e; cases e)
    have hM : Mod K mg (hidT s₁.heap H) := ⟨hKb, nsK hns, ⟨mb, nsK hb, hbb⟩, let ⟨mc, h1, h2⟩ := hlim; ⟨mc, nsK h1, h2⟩⟩
    have e0 : Env0 P w K mg (hidT s₁.heap H) callerA [] s₁ H := ⟨rfl, hM, fun b o e => of_hidT e, Nat.le_of_eq (hidT_size _ _), trivial, fun b hb => absurd (show b ∈ ([] : List Addr) from hb) (by simp), hok, .of_eq hg⟩
    refine codeAny_mono ((F _ hKb (nsK hns)).run callerA [] s₁ H ⟨[.ref a], []⟩ [.ref a] [.ref a] _ _ hr e0 (hbind s₁ (.ref a)) (.cons rfl .nil) (hsp H hO hS)) fun r s' h => ?_
    cases r with
    | error e => exact (hCX H e s' h).elim
    | ok fl =>
      cases fl with
      | next => exact False.elim h
      | brk => exact False.elim h
      | cont => exact False.elim h
      | ret u =>
        obtain ⟨v, H', os, bare, un, hok', r', q⟩ := h
        have q' : v = .bl true := q
        subst q'
        obtain rfl : u = Value.bool true := r'
        refine ⟨rfl, OldK.of_keep fun b o e => ?_, os, bare⟩
        cases q : H b with
        | none => exact un.keep b o e q (by intro z; exact absurd (show b ∈ ([] : List Addr) from z) (by simp)) (by simp)
        | some u =>
          rcases hO b with z | ⟨ob, xs, z⟩
          · rw [q] at z; cases z
          · have z2 := un.frzs b ob _ z
            obtain ⟨e1, _⟩ := hok b _ z
            obtain ⟨e2, _⟩ := hok' b _ z2
            rw [e] at e1; cases e1
            exact e2
  cases hk : K.lookup a with
  | some o =>
    -- the script is one of the module's own objects
    have e := KX a o hk
    rw [ha] at e
    cases e
    refine core (fun _ => none) (fun _ => .inl rfl) (.inr ⟨_, vs.toArray, _, hk, rfl, rfl, rfl, by rw [List.size_toArray, lenV]; exact hl, by simpa using rv⟩) (fun b u z => by have z' : (none : Option HO) = some u := z; cases z') (fun b z => absurd rfl z) fun z => absurd rfl z
  | none =>
    refine core (fun b => if b = a then some (.frz { cls := .type "list", data := .seq vs.toArray } (.lst (ns.map V.int))) else none) (fun b => ?_) (.inl (.inr ⟨{ cls := .type "list", data := .seq vs.toArray }, if_pos rfl⟩)) (fun b u z => ?_) (fun b z => ?_) fun _ => hk
    · by_cases hb : b = a
      · exact .inr ⟨_, _, if_pos hb⟩
      · exact .inl (if_neg hb)
    · by_cases hb : b = a
      · have z' := (if_pos hb).symm.trans z
        cases z'
        subst hb
        exact ⟨ha, by rw [List.length_map]; exact hl, vs, _, rv, ha⟩
      · have z' := (if_neg hb).symm.trans z
        cases z'
    · by_cases hb : b = a
      · exact hb
      · exact absurd (if_neg hb) z
end L2
namespace L2
open PySem PySem.Spec PyProof.Rows
theorem walk_of {l : PySem.W.OpenLaw} {n k : Nat} {q : Program} {loose : List Str} {XP : (Str → Option Value) → Heap → Prop} {YP : World → Heap → Prop} {d : DefRec} {K : Params → PySem.W.Frag} {CX : World → CXT} {sp : World → Sp} {x : Str}
    (hn : l.most = some n) (hn2 : n ≤ sizeLine) (hdf : d.params.defaults = []) (hr : Room k callerA)
    (hY : ∀ (w : World) (h : Heap), YP w h → (K w.params).In h)
    (F : ∀ (w : World) (mg : Str → Option Value) (fa : Addr) (h : Heap), (K w.params).In h → h.Ns mainGlobals mg → mg d.name = some (.ref fa) →
      ∃ fd : FuncData, (∀ (s : Shared) (u : Value), BindsTo s fd ⟨[u], []⟩ [(x, u)]) ∧
        ∀ base : Heap, (K w.params).In base → base.Ns mainGlobals mg → FnOk l.prog w (K w.params) mg base (CX w) k fa fd [x] (sp w))
    (hsp : ∀ (w : World) (H : Hp) (a : Addr) (ns : List Int), ns.length ≤ n → Only H → SqL (K w.params) H a (ns.map V.int) → sp w [.ref a] H (fun v _ => v = .bl true) fun _ _ _ => False)
    (hCX : ∀ (w : World) (H : Hp) (s : Shared) (e : Value) (s' : Shared), CX w [] H s (fun _ _ _ => False) e s' → False) :
    PySem.W.WalkO q loose XP YP l.row.toRowW d [] (fun f vs => PySem.call f vs) := by
  refine Att.attach_call hn hdf fun w s₀ s₁ mg mb fa o pm cd doc a vs ns G Y ho hd hcd hmg hobj hints hlen hg => ?_
  have KX := hY w _ Y
  obtain ⟨fd, hb, hF⟩ := F w mg fa _ KX G.T.g hmg
  exact law_call KX G.T.g G.T.b G.T.builtins G.T.nolimit hg hobj hints (Nat.le_trans hlen hn2) hr hF hb (fun H hO hS => hsp w H a ns hlen hO hS) fun H e s' => hCX w H s₁ e s'
end L2
namespace L2
open PySem PySem.Spec PyProof.Rows
def defArgs (s : Stmt) : Arguments := match s with
  | .FunctionDef _ a _ _ _ _ _ _ _ _ => a
  | _ => { posonlyargs := [], args := [], vararg := none, kwonlyargs := [], kw_defaults := [], kwarg := none, defaults := [] }
def defBody (s : Stmt) : List Stmt := match s with
  | .FunctionDef _ _ b _ _ _ _ _ _ _ => b
  | _ => []
def defScope (s : Stmt) : Scope := match s with
  | .FunctionDef _ _ _ _ _ _ sc _ _ _ => sc
  | _ => { kind := .function, names := [], isGenerator := false, isCoroutine := false }
abbrev CX0 : CXT := fun _ _ _ _ _ _ => False
abbrev E0 : XK := fun _ _ _ => False
theorem pass0 {X : Cx} : Passes CX0 X E0 := fun _ _ _ _ _ _ _ h => h.elim
structure Fun (K : PySem.W.Frag) (x qual : Str) (st : Stmt) (f : Addr) (fd : FuncData) : Prop where
  ex : ∃ (oc : Value) (od : Option Addr) (kV doc pm : Value) (an : Option Addr) (cdv ct : Value) (osl : Array (Option Value)),
    fd = PySem.W.fnOf x qual (defArgs st) (defBody st) (defScope st) .none kV doc pm an cdv ct ∧ K.lookup f = some ⟨oc, od, .func fd, osl⟩ ∧ PySem.W.codeIn K cdv qual = true
  kp : PySem.W.keepIn K (.ref f) = true
section
variable {P : Program} {w : World} {K : PySem.W.Frag} {mg : Str → Option Value} {base : Heap}
theorem Fun.ok {x qual : Str} {st : Stmt} {f : Addr} {fd : FuncData} {N ps : List Str} {k : Nat} {sp : Sp} (F : Fun K x qual st f fd) (S : FnScope N ps (defScope st)) (len : ∀ vs H Q E, sp vs H Q E → vs.length = ps.length)
    (hbody : ∀ (cdv : Value) (A : Around) (outer : List Env) (s : Shared) (H : Hp) (vs : List V) (Q : VK) (E : XK), Room k (A.deeper (envOfC qual (defScope st) s.heap.objs.size f cdv)) → sp vs H Q E →
      ∃ t, PSs (cxOf CX0 P w K mg base N qual (defScope st) f cdv A outer s H E).nox (defBody st) t ∧ t { nx := fun _ H' => Q .non H', rt := Q } (start N vs) H) : FnOk P w K mg base CX0 (k + 1) f fd ps sp := by
  obtain ⟨oc, od, kV, doc, pm, an, cdv, ct, osl, rfl, lk, hcd⟩ := F.ex
  refine fn_of lk hcd S len fun A outer s H vs Q E hr hsp => ?_
  obtain ⟨t, h, q⟩ := hbody cdv A outer s H vs Q E hr hsp
  exact ⟨t, h.nox, q⟩
theorem Fun.binds {x qual : Str} {st : Stmt} {f : Addr} {fd : FuncData} {ps : List Str} (F : Fun K x qual st f fd)
    (h : ∀ (kV doc pm : Value) (an : Option Addr) (cdv ct : Value) (us : List Value), us.length = ps.length → bindArgs (PySem.W.fnOf x qual (defArgs st) (defBody st) (defScope st) .none kV doc pm an cdv ct) ⟨us, []⟩ = pure (ps.zip us)) : Binds K fd ps [] := by
  obtain ⟨oc, od, kV, doc, pm, an, cdv, ct, osl, rfl, lk, hcd⟩ := F.ex
  exact .all (h kV doc pm an cdv ct)
theorem fun_mk {x qual : Str} {st : Stmt} {f : Addr} {oc : Value} {od an : Option Addr} {osl : Array (Option Value)} {kV doc pm cdv ct : Value} (l : K.lookup f = some ⟨oc, od, .func (PySem.W.fnOf x qual (defArgs st) (defBody st) (defScope st) .none kV doc pm an cdv ct), osl⟩)
    (c : PySem.W.codeIn K cdv qual = true) (k : PySem.W.keepIn K (.ref f) = true) : Fun K x qual st f (PySem.W.fnOf x qual (defArgs st) (defBody st) (defScope st) .none kV doc pm an cdv ct) := ⟨⟨oc, od, kV, doc, pm, an, cdv, ct, osl, rfl, l, c⟩, k⟩
end
section
variable {X : Cx}
end
theorem iteF {A B : Prop} (h : B) : if false = true then A else B := by
  rw [if_neg Bool.false_ne_true]
  exact h
theorem iteT {A B : Prop} (h : A) : if true = true then A else B := by
  rw [if_pos rfl]
  exact h
def Same (H H' : Hp) : Prop := ∀ b o, H b = some o → H' b = some o
theorem Same.refl (H : Hp) : Same H H := fun _ _ h => h
theorem Same.trans {H H1 H2 : Hp} (a : Same H H1) (b : Same H1 H2) : Same H H2 := fun c o h => b c o (a c o h)
theorem Same.free {H H' : Hp} (e : Same H H') {l : Addr} (h : H' l = Option.none) : H l = Option.none := by
  cases q : H l with
  | none => rfl
  | some o =>
    rw [e l o q] at h
    cases h
theorem Same.seq {K : PySem.W.Frag} {H H' : Hp} {a : Addr} {xs : List V} (e : Same H H') (h : SqL K H a xs) : SqL K H' a xs := by
  rcases h with (h | ⟨o, h⟩) | h
  · exact .inl (.inl (e _ _ h))
  · exact .inl (.inr ⟨o, e _ _ h⟩)
  · exact .inr h
end L2
namespace L2
open PySem PySem.Spec PyProof.Rows
section
variable {X : Cx}
end
section
variable {κ : Type} [DecidableEq κ]
theorem valV_in {kvs : List (κ × V)} {k : κ} {v : V} (h : valV kvs k = some v) : k ∈ kvs.map (·.1) := by
  have q : (kvs.any fun kv => decide (kv.1 = k)) = true := by
    rw [valV_any, h]
    all_goals rfl
  obtain ⟨p, hp, e⟩ := List.any_eq_true.mp q
  exact List.mem_map.mpr ⟨p, hp, of_decide_eq_true e⟩
end
end L2

end
set_option Elab.async false
set_option linter.all false
set_option maxRecDepth 100000
set_option maxHeartbeats 4000000
/-! Rich values: tuples, and lists that stay as they are, as trees; what changes is looked at through a partial view of the heap. -/
namespace R
open PySem PySem.Spec PyProof.Rows L2

inductive RV where
  | non | bl (b : Bool) | int (i : Int) | str (x : Str) | ref (a : Addr) | ty (n : String)
  | tup (xs : List RV) | ls (xs : List RV)

def Fz (K : PySem.W.Frag) (H : Hp) (a : Addr) (vs : List V) : Prop :=
  (∃ o, H a = some (.frz o (.lst vs))) ∨
    ∃ (o : Obj) (its : Array Value) (n : Nat), K.lookup a = some o ∧ o.cls = .type "list" ∧ o.dict = Option.none ∧ o.data = .seq its n ∧ its.size ≤ sizeLine ∧ Vals vs its.toList
theorem Fz.sq {K : PySem.W.Frag} {H : Hp} {a : Addr} {vs : List V} (h : Fz K H a vs) : SqL K H a vs := by
  rcases h with ⟨o, h⟩ | h
  · exact .inl (.inr ⟨o, h⟩)
  · exact .inr h

mutual
def Rep (K : PySem.W.Frag) (H : Hp) : RV → V → Prop
  | .non, v => v = .non
  | .bl b, v => v = .bl b
  | .int i, v => v = .int i
  | .str x, v => v = .str x
  | .ref a, v => v = .ref a
  | .ty n, v => v = .ty n
  | .tup xs, v => ∃ a vs, v = .ref a ∧ SqT K H a vs ∧ Reps K H xs vs
  | .ls xs, v => ∃ a vs, v = .ref a ∧ Fz K H a vs ∧ Reps K H xs vs
def Reps (K : PySem.W.Frag) (H : Hp) : List RV → List V → Prop
  | [], vs => vs = []
  | x :: xs, vs => ∃ v r, vs = v :: r ∧ Rep K H x v ∧ Reps K H xs r
end

structure Ext (H H' : Hp) : Prop where
  tups : ∀ b xs, H b = some (.tup xs) → H' b = some (.tup xs)
  frzs : ∀ b o u, H b = some (.frz o u) → H' b = some (.frz o u)
theorem Ext.refl (H : Hp) : Ext H H := ⟨fun _ _ h => h, fun _ _ _ h => h⟩
theorem Ext.trans {H H1 H2 : Hp} (a : Ext H H1) (b : Ext H1 H2) : Ext H H2 := ⟨fun c x h => b.tups c x (a.tups c x h), fun c o x h => b.frzs c o x (a.frzs c o x h)⟩
theorem Ext.new {H : Hp} {p : Addr} {o : HO} (h : H p = none) : Ext H (upd H p o) :=
  ⟨fun b xs e => by rw [upd_ne (ne_of_none e h)]; exact e, fun b o xs e => by rw [upd_ne (ne_of_none e h)]; exact e⟩
/-- a changeable thing is changed -/
def Soft : HO → Bool
  | .tup _ => false
  | .frz _ _ => false
  | _ => true
theorem Ext.write {H : Hp} {p : Addr} {o o' : HO} (h : H p = some o) (s : Soft o = true) : Ext H (upd H p o') := by
  refine ⟨fun b xs e => ?_, fun b ob xs e => ?_⟩
  · have n : b ≠ p := by rintro rfl; rw [h] at e; cases e; cases s
    rw [upd_ne n]; exact e
  · have n : b ≠ p := by rintro rfl; rw [h] at e; cases e; cases s
    rw [upd_ne n]; exact e
theorem SqT.ext {K : PySem.W.Frag} {H H' : Hp} {a : Addr} {vs : List V} (e : Ext H H') (h : SqT K H a vs) : SqT K H' a vs := by
  rcases h with (h | ⟨o, h⟩) | h
  · exact .inl (.inl (e.tups _ _ h))
  · exact .inl (.inr ⟨o, e.frzs _ _ _ h⟩)
  · exact .inr h
theorem Fz.ext {K : PySem.W.Frag} {H H' : Hp} {a : Addr} {vs : List V} (e : Ext H H') (h : Fz K H a vs) : Fz K H' a vs := by
  rcases h with ⟨o, h⟩ | h
  · exact .inl ⟨o, e.frzs _ _ _ h⟩
  · exact .inr h
mutual
theorem Rep.ext {K : PySem.W.Frag} {H H' : Hp} (e : Ext H H') : ∀ (r : RV) (v : V), Rep K H r v → Rep K H' r v
  | .non, v, h => by simpa only [Rep] using h
  | .bl _, v, h => by simpa only [Rep] using h
  | .int _, v, h => by simpa only [Rep] using h
  | .str _, v, h => by simpa only [Rep] using h
  | .ref _, v, h => by simpa only [Rep] using h
  | .ty _, v, h => by simpa only [Rep] using h
  | .tup xs, v, h => by
    simp only [Rep] at h ⊢
    obtain ⟨a, vs, e1, h1, h2⟩ := h
    exact ⟨a, vs, e1, SqT.ext e h1, Reps.ext e xs vs h2⟩
  | .ls xs, v, h => by
    simp only [Rep] at h ⊢
    obtain ⟨a, vs, e1, h1, h2⟩ := h
    exact ⟨a, vs, e1, h1.ext e, Reps.ext e xs vs h2⟩
theorem Reps.ext {K : PySem.W.Frag} {H H' : Hp} (e : Ext H H') : ∀ (rs : List RV) (vs : List V), Reps K H rs vs → Reps K H' rs vs
  | [], vs, h => by simpa only [Reps] using h
  | x :: xs, vs, h => by
    simp only [Reps] at h ⊢
    obtain ⟨v, r, e1, h1, h2⟩ := h
    exact ⟨v, r, e1, Rep.ext e x v h1, Reps.ext e xs r h2⟩
end
section
variable {K : PySem.W.Frag} {H : Hp}
theorem Reps.nil_iff {vs : List V} : Reps K H [] vs ↔ vs = [] := by simp only [Reps]
theorem Reps.cons {x : RV} {xs : List RV} {v : V} {vs : List V} (h : Rep K H x v) (t : Reps K H xs vs) : Reps K H (x :: xs) (v :: vs) := by
  simp only [Reps]; exact ⟨v, vs, rfl, h, t⟩
theorem Reps.nil : Reps K H [] [] := by simp only [Reps]
theorem Reps.length : ∀ {xs : List RV} {vs : List V}, Reps K H xs vs → xs.length = vs.length
  | [], vs, h => by simp only [Reps] at h; subst h; rfl
  | x :: xs, vs, h => by
    simp only [Reps] at h
    obtain ⟨v, r, rfl, _, t⟩ := h
    simp [Reps.length t]
theorem Reps.get : ∀ {xs : List RV} {vs : List V} {i : Nat} {x : RV}, Reps K H xs vs → xs[i]? = some x → ∃ v, vs[i]? = some v ∧ Rep K H x v
  | [], _, _, _, _, e => by simp at e
  | y :: xs, vs, 0, x, h, e => by
    simp only [Reps] at h
    obtain ⟨v, r, rfl, h1, _⟩ := h
    simp at e; subst e
    exact ⟨v, by simp, h1⟩
  | y :: xs, vs, i + 1, x, h, e => by
    simp only [Reps] at h
    obtain ⟨v, r, rfl, _, t⟩ := h
    obtain ⟨u, h1, h2⟩ := Reps.get (i := i) t (by simpa using e)
    exact ⟨u, by simpa using h1, h2⟩
theorem Reps.append : ∀ {xs ys : List RV} {vs ws : List V}, Reps K H xs vs → Reps K H ys ws → Reps K H (xs ++ ys) (vs ++ ws)
  | [], _, vs, _, h, t => by simp only [Reps] at h; subst h; simpa using t
  | x :: xs, ys, vs, ws, h, t => by
    simp only [Reps] at h
    obtain ⟨v, r, rfl, h1, h2⟩ := h
    exact Reps.cons h1 (Reps.append h2 t)
theorem Reps.take : ∀ {xs : List RV} {vs : List V} (n : Nat), Reps K H xs vs → Reps K H (xs.take n) (vs.take n)
  | _, _, 0, _ => by simpa using Reps.nil
  | [], vs, n + 1, h => by simp only [Reps] at h; subst h; simpa using Reps.nil
  | x :: xs, vs, n + 1, h => by
    simp only [Reps] at h
    obtain ⟨v, r, rfl, h1, h2⟩ := h
    exact Reps.cons h1 (Reps.take n h2)
theorem Reps.drop : ∀ {xs : List RV} {vs : List V} (n : Nat), Reps K H xs vs → Reps K H (xs.drop n) (vs.drop n)
  | _, _, 0, h => by simpa using h
  | [], vs, n + 1, h => by simp only [Reps] at h; subst h; simpa using Reps.nil
  | x :: xs, vs, n + 1, h => by
    simp only [Reps] at h
    obtain ⟨v, r, rfl, h1, h2⟩ := h
    exact Reps.drop n h2
theorem Reps.set {x : RV} {v : V} (hx : Rep K H x v) : ∀ {xs : List RV} {vs : List V} (i : Nat), Reps K H xs vs → Reps K H (xs.set i x) (vs.set i v)
  | [], vs, i, h => by simp only [Reps] at h; subst h; simpa using Reps.nil
  | y :: xs, vs, 0, h => by
    simp only [Reps] at h
    obtain ⟨w, r, rfl, h1, h2⟩ := h
    exact Reps.cons hx h2
  | y :: xs, vs, i + 1, h => by
    simp only [Reps] at h
    obtain ⟨w, r, rfl, h1, h2⟩ := h
    exact Reps.cons h1 (Reps.set hx i h2)
theorem Reps.atI {xs : List RV} {vs : List V} {i : Int} {x : RV} (h : Reps K H xs vs) (e : L2.atI xs i = some x) : ∃ v, L2.atI vs i = some v ∧ Rep K H x v := by
  unfold L2.atI at e ⊢
  rw [← h.length]
  cases q : ixN xs.length i with
  | none => rw [q] at e; cases e
  | some j => rw [q] at e; exact h.get (by simpa using e)
end

/-! ### the view -/
inductive RO where
  | lst (xs : List RV)
  | dk (kvs : List (Key × RV))
  | ins (C : Addr) (fs : List (Str × RV))
abbrev RM := Addr → Option RO
def put (M : RM) (a : Addr) (o : RO) : RM := fun b => if b = a then some o else M b
theorem put_same {M : RM} {a : Addr} {o : RO} : put M a o a = some o := by unfold put; rw [if_pos rfl]
theorem put_ne {M : RM} {a b : Addr} {o : RO} (h : b ≠ a) : put M a o b = M b := by unfold put; rw [if_neg h]
theorem put_put {M : RM} {a : Addr} {o o' : RO} : put (put M a o) a o' = put M a o' := by
  funext b; unfold put; split <;> rfl
def RepP {κ : Type} (K : PySem.W.Frag) (H : Hp) : List (κ × RV) → List (κ × V) → Prop
  | [], ws => ws = []
  | (k, x) :: r, ws => ∃ v t, ws = (k, v) :: t ∧ Rep K H x v ∧ RepP K H r t
theorem RepP.ext {κ : Type} {K : PySem.W.Frag} {H H' : Hp} (e : Ext H H') : ∀ {xs : List (κ × RV)} {ws : List (κ × V)}, RepP K H xs ws → RepP K H' xs ws
  | [], _, h => h
  | (k, x) :: r, ws, h => by
    obtain ⟨v, t, e1, h1, h2⟩ := h
    exact ⟨v, t, e1, Rep.ext e x v h1, RepP.ext e h2⟩
def RepO (K : PySem.W.Frag) (H : Hp) : RO → HO → Prop
  | .lst xs, o => ∃ vs, o = .lst vs ∧ Reps K H xs vs
  | .dk kvs, o => ∃ ws, o = .dK ws ∧ RepP K H kvs ws
  | .ins C fs, o => ∃ dx gs, o = .ins C dx gs ∧ RepP K H fs gs
theorem RepO.ext {K : PySem.W.Frag} {H H' : Hp} (e : Ext H H') : ∀ {o : RO} {ho : HO}, RepO K H o ho → RepO K H' o ho
  | .lst xs, _, h => by obtain ⟨vs, e1, h1⟩ := h; exact ⟨vs, e1, Reps.ext e xs vs h1⟩
  | .dk _, _, h => by obtain ⟨ws, e1, h1⟩ := h; exact ⟨ws, e1, h1.ext e⟩
  | .ins _ _, _, h => by obtain ⟨dx, gs, e1, h1⟩ := h; exact ⟨dx, gs, e1, h1.ext e⟩
theorem RepO.soft {K : PySem.W.Frag} {H : Hp} : ∀ {o : RO} {ho : HO}, RepO K H o ho → Soft ho = true
  | .lst _, _, h => by obtain ⟨_, rfl, _⟩ := h; rfl
  | .dk _, _, h => by obtain ⟨_, rfl, _⟩ := h; rfl
  | .ins _ _, _, h => by obtain ⟨_, _, rfl, _⟩ := h; rfl
def View (K : PySem.W.Frag) (H : Hp) (M : RM) : Prop := ∀ a o, M a = some o → ∃ ho, H a = some ho ∧ RepO K H o ho
section
variable {K : PySem.W.Frag} {H H' : Hp} {M : RM} {p : Addr} {ho : HO} {o : RO}
theorem View.free (w : View K H M) (h : H p = none) : M p = none := by
  cases q : M p with
  | none => rfl
  | some o => obtain ⟨ho, e, _⟩ := w p o q; rw [h] at e; cases e
/-- a new thing is laid that is not looked at -/
theorem View.new (w : View K H M) (h : H p = none) : View K (upd H p ho) M := fun a o e => by
  obtain ⟨ho', e1, r⟩ := w a o e
  exact ⟨ho', by rw [upd_ne (ne_of_none e1 h)]; exact e1, r.ext (Ext.new h)⟩
/-- a new thing is laid and looked at -/
theorem View.newPut (w : View K H M) (h : H p = none) (r : RepO K (upd H p ho) o ho) : View K (upd H p ho) (put M p o) := fun a o' e => by
  by_cases ha : a = p
  · subst ha; rw [put_same] at e; cases e; exact ⟨ho, upd_same, r⟩
  · rw [put_ne ha] at e; exact w.new h a o' e
/-- a thing that is looked at is changed -/
theorem View.write {o' : RO} (w : View K H M) (h : M p = some o') (r : RepO K (upd H p ho) o ho) : View K (upd H p ho) (put M p o) := fun a o'' e => by
  by_cases ha : a = p
  · subst ha; rw [put_same] at e; cases e; exact ⟨ho, upd_same, r⟩
  · rw [put_ne ha] at e
    obtain ⟨ho', e1, r1⟩ := w a o'' e
    obtain ⟨hp, e2, r2⟩ := w p o' h
    exact ⟨ho', by rw [upd_ne ha]; exact e1, r1.ext (Ext.write e2 r2.soft)⟩
end

/-! ### the judgements -/
abbrev RSt := List (Option RV)
abbrev RVK := RV → RM → Prop
abbrev RTE := RSt → RM → RVK → Prop
abbrev RTT := RSt → RM → (Bool → RM → Prop) → Prop
abbrev RTA := RSt → RM → (List RV → RM → Prop) → Prop
def RepSt (K : PySem.W.Frag) (H : Hp) (σ : RSt) (σ0 : L2.St) : Prop := σ.length = σ0.length ∧ ∀ (i : Nat) r, σ[i]? = some (some r) → ∃ v, σ0[i]? = some (some v) ∧ Rep K H r v
theorem RepSt.ext {K : PySem.W.Frag} {H H' : Hp} {σ : RSt} {σ0 : L2.St} (h : RepSt K H σ σ0) (e : Ext H H') : RepSt K H' σ σ0 :=
  ⟨h.1, fun i r q => by obtain ⟨v, e1, h1⟩ := h.2 i r q; exact ⟨v, e1, Rep.ext e r v h1⟩⟩
theorem RepSt.set {K : PySem.W.Frag} {H : Hp} {σ : RSt} {σ0 : L2.St} {r : RV} {v : V} (h : RepSt K H σ σ0) (hr : Rep K H r v) (i : Nat) : RepSt K H (σ.set i (some r)) (σ0.set i (some v)) := by
  refine ⟨by simp [h.1], fun j r' q => ?_⟩
  by_cases hj : i = j
  · subst hj
    rw [List.getElem?_set] at q
    split at q
    · split at q
      · cases q; rename_i hl _ ; exact ⟨v, by rw [List.getElem?_set_self (by rw [← h.1]; assumption)], hr⟩
      · cases q
    · rename_i z; exact absurd rfl z
  · rw [List.getElem?_set_ne hj] at q
    obtain ⟨w, e1, h1⟩ := h.2 j r' q
    exact ⟨w, by rw [List.getElem?_set_ne hj]; exact e1, h1⟩
def UpK (K : PySem.W.Frag) (H : Hp) (Q : RVK) (Q0 : VK) : Prop := ∀ rv M' v H', Q rv M' → Ext H H' → View K H' M' → Rep K H' rv v → Q0 v H'
theorem UpK.ext {K : PySem.W.Frag} {H H' : Hp} {Q : RVK} {Q0 : VK} (h : UpK K H Q Q0) (e : Ext H H') : UpK K H' Q Q0 := fun rv M' v H2 q e2 w r => h rv M' v H2 q (e.trans e2) w r
def up (K : PySem.W.Frag) (t : RTE) : TE := fun σ0 H Q0 => ∃ σ M Q, RepSt K H σ σ0 ∧ View K H M ∧ t σ M Q ∧ UpK K H Q Q0
def upT (K : PySem.W.Frag) (t : RTT) : TT := fun σ0 H Q0 => ∃ σ M Q, RepSt K H σ σ0 ∧ View K H M ∧ t σ M Q ∧ ∀ b M' H', Q b M' → Ext H H' → View K H' M' → Q0 b H'
def upA (K : PySem.W.Frag) (t : RTA) : TA := fun σ0 H Q0 => ∃ σ M Q, RepSt K H σ σ0 ∧ View K H M ∧ t σ M Q ∧ ∀ rs M' vs H', Q rs M' → Ext H H' → View K H' M' → Reps K H' rs vs → Q0 vs H'
structure RD where
  nx : RSt → RM → Prop
  rt : RVK
  bk : RSt → RM → Prop := fun _ _ => False
  ct : RSt → RM → Prop := fun _ _ => False
abbrev RTS := RD → RSt → RM → Prop
def UpS (K : PySem.W.Frag) (H : Hp) (q : RSt → RM → Prop) (q0 : L2.St → Hp → Prop) : Prop := ∀ σ M σ0 H', q σ M → Ext H H' → View K H' M → RepSt K H' σ σ0 → q0 σ0 H'
theorem UpS.ext {K : PySem.W.Frag} {H H' : Hp} {Q : RSt → RM → Prop} {Q0 : L2.St → Hp → Prop} (h : UpS K H Q Q0) (e : Ext H H') : UpS K H' Q Q0 := fun σ M σ0 H2 q e2 w r => h σ M σ0 H2 q (e.trans e2) w r
structure UpD (K : PySem.W.Frag) (H : Hp) (D : RD) (D0 : Ends) : Prop where
  nx : UpS K H D.nx D0.nx
  rt : UpK K H D.rt D0.rt
  bk : UpS K H D.bk D0.bk
  ct : UpS K H D.ct D0.ct
theorem UpD.ext {K : PySem.W.Frag} {H H' : Hp} {D : RD} {D0 : Ends} (h : UpD K H D D0) (e : Ext H H') : UpD K H' D D0 := ⟨h.nx.ext e, h.rt.ext e, h.bk.ext e, h.ct.ext e⟩
def upS (K : PySem.W.Frag) (t : RTS) : TS := fun D0 σ0 H => ∃ σ M D, RepSt K H σ σ0 ∧ View K H M ∧ t D σ M ∧ UpD K H D D0
def RPE (X : Cx) (e : Expr) (t : RTE) : Prop := PE X e (up X.K t)
def RPT (X : Cx) (e : Expr) (t : RTT) : Prop := PT X e (upT X.K t)
def RPW (X : Cx) (e : Expr) (t : RTT) : Prop := PW X e (upT X.K t)
def RPA (X : Cx) (es : List Expr) (t : RTA) : Prop := PA X es (upA X.K t)
def RPS (X : Cx) (s : Stmt) (t : RTS) : Prop := PS X s (upS X.K t)
def RPSs (X : Cx) (s : List Stmt) (t : RTS) : Prop := PSs X s (upS X.K t)
section
variable {X : Cx}
theorem PE.imp {e : Expr} {t t' : TE} (h : PE X e t) (i : ∀ σ H Q, t' σ H Q → t σ H Q) : PE X e t' := fun pins s σ H Q I w => h pins s σ H Q I (i σ H Q w)
theorem PT.imp {e : Expr} {t t' : TT} (h : PT X e t) (i : ∀ σ H Q, t' σ H Q → t σ H Q) : PT X e t' := fun pins s σ H Q I w => h pins s σ H Q I (i σ H Q w)
theorem PW.imp {e : Expr} {t t' : TT} (h : PW X e t) (i : ∀ σ H Q, t' σ H Q → t σ H Q) : PW X e t' := fun wh pins s σ H Q I w => h wh pins s σ H Q I (i σ H Q w)
theorem PA.imp {e : List Expr} {t t' : TA} (h : PA X e t) (i : ∀ σ H Q, t' σ H Q → t σ H Q) : PA X e t' := fun pos pins s σ H Q I w => h pos pins s σ H Q I (i σ H Q w)
theorem PS.imp {e : Stmt} {t t' : TS} (h : PS X e t) (i : ∀ D σ H, t' D σ H → t D σ H) : PS X e t' := fun pins s σ H D I w => h pins s σ H D I (i D σ H w)
theorem PSs.imp {e : List Stmt} {t t' : TS} (h : PSs X e t) (i : ∀ D σ H, t' D σ H → t D σ H) : PSs X e t' := fun pins s σ H D I w => h pins s σ H D I (i D σ H w)
end
end R

set_option Elab.async false
set_option linter.all false
set_option maxRecDepth 100000
set_option maxHeartbeats 4000000
namespace R
open PySem PySem.Spec PyProof.Rows L2
section
variable {X : Cx} {a b c : Expr} {ta tb tc : RTE} {tA tB : RTT} {pos : Pos} {rest : List Expr}
/-! ### names, constants -/
def rVar (i : Nat) : RTE := fun σ M Q => match σ[i]? with | some (some v) => Q v M | _ => False
def rC (v : RV) : RTE := fun _ M Q => Q v M
theorem rv (i : Nat) {x : Str} {pos : Pos} (hN : X.N[i]? = some x := by rfl) (hv : Vis X.env.scope x := by first | exact Or.inl rfl | exact Or.inr (Or.inl rfl) | exact Or.inr (Or.inr rfl)) (hd : (x == ("__debug__" : Str)) = false := by decide)
    (hcd : (x == ("__classdict__" : Str)) = false := by decide) : RPE X (.Name x pos) (rVar i) := PE.imp (pe_var hN hv hd hcd) fun σ0 H Q h => by
  obtain ⟨σ, M, Qr, hs, hv, ht, hk⟩ := h
  unfold rVar at ht
  split at ht
  · rename_i r e
    obtain ⟨v, e1, h1⟩ := hs.2 i r e
    exact ⟨v, e1, hk r M v H ht (.refl H) hv h1⟩
  · exact ht.elim
theorem rconst {e : Expr} {v : V} {r : RV} (h : PE X e (tC v)) (hr : ∀ H, Rep X.K H r v) : RPE X e (rC r) := PE.imp h fun σ0 H Q h => by
  obtain ⟨σ, M, Qr, hs, hv, ht, hk⟩ := h
  exact hk r M v H ht (.refl H) hv (hr H)
theorem ri {i j pos} : RPE X (.Constant (.int i) j pos) (rC (.int i)) := rconst pe_int fun H => by simp only [Rep]
theorem rb {b j pos} : RPE X (.Constant (.bool b) j pos) (rC (.bl b)) := rconst pe_bl fun H => by simp only [Rep]
theorem rn {j pos} : RPE X (.Constant .none j pos) (rC .non) := rconst pe_non fun H => by simp only [Rep]
theorem rs {x j pos} : RPE X (.Constant (.str x) j pos) (rC (.str x)) := rconst pe_str fun H => by simp only [Rep]
/-- a name of the module's top -/
theorem rglob {x : Str} {v : V} {r : RV} {u : Value} {pos : Pos} (hm : X.mg x = some u) (rl : RelV v u) (hr : ∀ H, Rep X.K H r v) (hg : Gl X x := by rfl) (hd : (x == ("__debug__" : Str)) = false := by decide) : RPE X (.Name x pos) (rC r) :=
  rconst (pe_glob hg hm rl hd) hr
theorem rbltn {x : Str} {v : V} {r : RV} {u : Value} {pos : Pos} (hm : X.mg x = none) (hv : bootBuiltins x = some u) (rl : RelV v u) (hr : ∀ H, Rep X.K H r v) (hg : Gl X x := by rfl) (hn : x ≠ "__name__" := by decide) (hd : (x == ("__debug__" : Str)) = false := by decide) : RPE X (.Name x pos) (rC r) :=
  rconst (pe_bltn hg hm hv rl hn hd) hr

/-! ### two-place operations -/
abbrev RR2 := RV → RV → RM → RVK → Prop
def upO (K : PySem.W.Frag) (rr : RR2) : R2 := fun x y H Q0 => ∃ rx ry M Q, Rep K H rx x ∧ Rep K H ry y ∧ View K H M ∧ rr rx ry M Q ∧ UpK K H Q Q0
def ROp (X : Cx) (f : Value → Value → Sem Value) (rr : RR2) : Prop := OpR X f (upO X.K rr)
def rOp (rr : RR2) (ta tb : RTE) : RTE := fun σ M Q => ta σ M fun x M1 => tb σ M1 fun y M2 => rr x y M2 Q
theorem rop_imp {K : PySem.W.Frag} {rr : RR2} {σ0 : L2.St} {H : Hp} {Q0 : VK} (h : up K (rOp rr ta tb) σ0 H Q0) : tOp (upO K rr) (up K ta) (up K tb) σ0 H Q0 := by
  obtain ⟨σ, M, Q, hs, hv, ht, hk⟩ := h
  refine ⟨σ, M, _, hs, hv, ht, fun rx M1 x H1 hb e1 v1 r1 => ?_⟩
  refine ⟨σ, M1, _, hs.ext e1, v1, hb, fun ry M2 y H2 hr e2 v2 r2 => ?_⟩
  exact ⟨rx, ry, M2, Q, Rep.ext e2 rx x r1, r2, v2, hr, hk.ext (e1.trans e2)⟩
theorem rop {op : Operator} {rr : RR2} (ho : ROp X (binaryOp op) rr) (ha : RPE X a ta) (hb : RPE X b tb) : RPE X (.BinOp a op b pos) (rOp rr ta tb) := PE.imp (pe_op ho ha hb) fun _ _ _ h => rop_imp h
theorem rcmp {op : CmpOp} {rr : RR2} (ho : ROp X (compareOp op) rr) (ha : RPE X a ta) (hb : RPE X b tb) (hm : behindInMarks op b = false := by first | exact nomark _ | (with_unfolding_all rfl)) : RPE X (.Compare a [op] [b] pos) (rOp rr ta tb) :=
  PE.imp (pe_cmpR ho ha hb hm) fun _ _ _ h => rop_imp h
/-- a value as a test: it is a truth -/
def rTest (t : RTE) : RTT := fun σ M Q => t σ M fun v M' => match v with | .bl k => Q k M' | _ => False
theorem test_up {K : PySem.W.Frag} {H : Hp} {Q : Bool → RM → Prop} {Q0 : Bool → Hp → Prop} (hk : ∀ b M' H', Q b M' → Ext H H' → View K H' M' → Q0 b H') :
    UpK K H (fun v M' => match v with | .bl k => Q k M' | _ => False) (fun x H' => ∃ k, x = .bl k ∧ Q0 k H') := fun rv M' v H' q e w r => by
  cases rv with
  | bl k => simp only [Rep] at r; exact ⟨k, r, hk k M' H' q e w⟩
  | _ => exact q.elim
theorem rtcmp {op : CmpOp} {rr : RR2} (ho : ROp X (compareOp op) rr) (ha : RPE X a ta) (hb : RPE X b tb) (hm : behindInMarks op b = false := by first | exact nomark _ | (with_unfolding_all rfl)) : RPT X (.Compare a [op] [b] pos) (rTest (rOp rr ta tb)) :=
  PT.imp (pt_cmpR ho ha hb hm) fun σ0 H Q0 h => by
    obtain ⟨σ, M, Q, hs, hv, ht, hk⟩ := h
    exact rop_imp ⟨σ, M, _, hs, hv, ht, test_up hk⟩
theorem rtval {e : Expr} {t : RTE} (h : RPE X e t) (he : ∀ whole, isTrue e X.env whole = (do let v ← whole; standAt e.pos; holding [v] (truthy v)) := by intro _; rfl) : RPT X e (rTest t) :=
  PT.imp (pt_val h he) fun σ0 H Q0 h => by
    obtain ⟨σ, M, Q, hs, hv, ht, hk⟩ := h
    exact ⟨σ, M, _, hs, hv, ht, test_up hk⟩
/-- a op b op' c -/
def rChain (rr rr' : RR2) (ta tb tc : RTE) : RTE := fun σ M Q => ta σ M fun x M1 => tb σ M1 fun y M2 => rr x y M2 fun z M3 => match z with
  | .bl k => (k = true → tc σ M3 fun w M4 => rr' y w M4 Q) ∧ (k = false → Q (.bl false) M3)
  | _ => False
theorem chain_imp {K : PySem.W.Frag} {rr rr' : RR2} {σ0 : L2.St} {H : Hp} {Q0 : VK} (h : up K (rChain rr rr' ta tb tc) σ0 H Q0) : tChain (upO K rr) (upO K rr') (up K ta) (up K tb) (up K tc) σ0 H Q0 := by
  obtain ⟨σ, M, Q, hs, hv, ht, hk⟩ := h
  refine ⟨σ, M, _, hs, hv, ht, fun rx M1 x H1 hb e1 v1 r1 => ?_⟩
  refine ⟨σ, M1, _, hs.ext e1, v1, hb, fun ry M2 y H2 hr e2 v2 r2 => ?_⟩
  refine ⟨rx, ry, M2, _, Rep.ext e2 rx x r1, r2, v2, hr, fun rz M3 z H3 hz e3 v3 r3 => ?_⟩
  cases rz with
  | bl k =>
    simp only [Rep] at r3
    refine ⟨k, r3, ?_⟩
    have e13 := (e1.trans e2).trans e3
    cases k with
    | true =>
      refine iteT ?_
      refine ⟨σ, M3, _, hs.ext e13, v3, hz.1 rfl, fun rw M4 w H4 hw e4 v4 r4 => ?_⟩
      exact ⟨ry, rw, M4, Q, Rep.ext (e3.trans e4) ry y r2, r4, v4, hw, hk.ext (e13.trans e4)⟩
    | false => exact iteF (hk _ M3 _ H3 (hz.2 rfl) e13 v3 (by simp only [Rep]))
  | _ => exact hz.elim
theorem rchain {op op' : CmpOp} {rr rr' : RR2} (ho : ROp X (compareOp op) rr) (ho' : ROp X (compareOp op') rr') (ha : RPE X a ta) (hb : RPE X b tb) (hc : RPE X c tc) (hm : lastMarks [op, op'] [b, c] = false := by with_unfolding_all rfl) :
    RPE X (.Compare a [op, op'] [b, c] pos) (rChain rr rr' ta tb tc) := PE.imp (pe_chain ho ho' ha hb hc hm) fun _ _ _ h => chain_imp h
theorem rtchain {op op' : CmpOp} {rr rr' : RR2} (ho : ROp X (compareOp op) rr) (ho' : ROp X (compareOp op') rr') (ha : RPE X a ta) (hb : RPE X b tb) (hc : RPE X c tc) (hm : lastMarks [op, op'] [b, c] = false := by with_unfolding_all rfl) :
    RPT X (.Compare a [op, op'] [b, c] pos) (rTest (rChain rr rr' ta tb tc)) := PT.imp (pt_chain ho ho' ha hb hc hm) fun σ0 H Q0 h => by
  obtain ⟨σ, M, Q, hs, hv, ht, hk⟩ := h
  exact chain_imp ⟨σ, M, _, hs, hv, ht, test_up hk⟩
/-- one-place -/
def rUn (g : RV → RM → RVK → Prop) (ta : RTE) : RTE := fun σ M Q => ta σ M fun x M1 => g x M1 Q
def upU (K : PySem.W.Frag) (g : RV → RM → RVK → Prop) : V → Hp → VK → Prop := fun x H Q0 => ∃ rx M Q, Rep K H rx x ∧ View K H M ∧ g rx M Q ∧ UpK K H Q Q0
theorem run_imp {K : PySem.W.Frag} {g : RV → RM → RVK → Prop} {σ0 : L2.St} {H : Hp} {Q0 : VK} (h : up K (rUn g ta) σ0 H Q0) : tUn (upU K g) (up K ta) σ0 H Q0 := by
  obtain ⟨σ, M, Q, hs, hv, ht, hk⟩ := h
  exact ⟨σ, M, _, hs, hv, ht, fun rx M1 x H1 hb e1 v1 r1 => ⟨rx, M1, Q, r1, v1, hb, hk.ext e1⟩⟩
theorem run {op : UnaryOp} {g : RV → RM → RVK → Prop} (ho : UnR X (unaryOp op) (upU X.K g)) (ha : RPE X a ta) : RPE X (.UnaryOp op a pos) (rUn g ta) := PE.imp (pe_un ho ha) fun _ _ _ h => run_imp h
/-! ### and, or, not, if -/
def rAnd (t u : RTT) : RTT := fun σ M Q => t σ M fun c M1 => (c = true → u σ M1 Q) ∧ (c = false → Q false M1)
def rOr (t u : RTT) : RTT := fun σ M Q => t σ M fun c M1 => (c = true → Q true M1) ∧ (c = false → u σ M1 Q)
def rNot (t : RTT) : RTT := fun σ M Q => t σ M fun c M1 => Q (!c) M1
theorem rand1 (ha : RPT X a tA) : RPW X (.BoolOp .And [a] pos) tA := pw_and1 ha
theorem ror1 (ha : RPT X a tA) : RPW X (.BoolOp .Or [a] pos) tA := pw_or1 ha
theorem rand (ha : RPT X a tA) (hb : RPW X (.BoolOp .And (b :: rest) pos) tB) : RPW X (.BoolOp .And (a :: b :: rest) pos) (rAnd tA tB) := PW.imp (pw_and ha hb) fun σ0 H Q0 h => by
  obtain ⟨σ, M, Q, hs, hv, ht, hk⟩ := h
  refine ⟨σ, M, _, hs, hv, ht, fun k M1 H1 q e1 v1 => ?_⟩
  cases k with
  | true => exact iteT ⟨σ, M1, Q, hs.ext e1, v1, q.1 rfl, fun b M' H' z e2 w => hk b M' H' z (e1.trans e2) w⟩
  | false => exact iteF (hk false M1 H1 (q.2 rfl) e1 v1)
theorem ror (ha : RPT X a tA) (hb : RPW X (.BoolOp .Or (b :: rest) pos) tB) : RPW X (.BoolOp .Or (a :: b :: rest) pos) (rOr tA tB) := PW.imp (pw_or ha hb) fun σ0 H Q0 h => by
  obtain ⟨σ, M, Q, hs, hv, ht, hk⟩ := h
  refine ⟨σ, M, _, hs, hv, ht, fun k M1 H1 q e1 v1 => ?_⟩
  cases k with
  | true => exact iteT (hk true M1 H1 (q.1 rfl) e1 v1)
  | false => exact iteF ⟨σ, M1, Q, hs.ext e1, v1, q.2 rfl, fun b M' H' z e2 w => hk b M' H' z (e1.trans e2) w⟩
theorem rtw (h : RPW X a tA) : RPT X a tA := PW.pt h
theorem rtnot (ha : RPT X a tA) : RPT X (.UnaryOp .Not a pos) (rNot tA) := PT.imp (pt_not ha) fun σ0 H Q0 h => by
  obtain ⟨σ, M, Q, hs, hv, ht, hk⟩ := h
  exact ⟨σ, M, _, hs, hv, ht, fun k M1 H1 q e1 v1 => hk (!k) M1 H1 q e1 v1⟩
def rAndV (ta tb : RTE) : RTE := fun σ M Q => ta σ M fun x M1 => match x with | .bl c => (c = true → tb σ M1 Q) ∧ (c = false → Q (.bl false) M1) | _ => False
def rOrV (ta tb : RTE) : RTE := fun σ M Q => ta σ M fun x M1 => match x with | .bl c => (c = true → Q (.bl true) M1) ∧ (c = false → tb σ M1 Q) | _ => False
def rNotV (ta : RTE) : RTE := fun σ M Q => ta σ M fun x M1 => match x with | .bl c => Q (.bl (!c)) M1 | _ => False
theorem rone {op} {t : RTE} (h : RPE X a t) : RPE X (.BoolOp op [a] pos) t := pe_one h
theorem randv (ha : RPE X a ta) (hb : RPE X (.BoolOp .And (b :: rest) pos) tb) : RPE X (.BoolOp .And (a :: b :: rest) pos) (rAndV ta tb) := PE.imp (pe_and ha hb) fun σ0 H Q0 h => by
  obtain ⟨σ, M, Q, hs, hv, ht, hk⟩ := h
  refine ⟨σ, M, _, hs, hv, ht, fun rx M1 x H1 q e1 v1 r1 => ?_⟩
  cases rx with
  | bl k =>
    simp only [Rep] at r1
    refine ⟨k, r1, ?_⟩
    cases k with
    | true => exact iteT ⟨σ, M1, Q, hs.ext e1, v1, q.1 rfl, hk.ext e1⟩
    | false => exact iteF (hk _ M1 _ H1 (q.2 rfl) e1 v1 (by simp only [Rep]))
  | _ => exact q.elim
theorem rorv (ha : RPE X a ta) (hb : RPE X (.BoolOp .Or (b :: rest) pos) tb) : RPE X (.BoolOp .Or (a :: b :: rest) pos) (rOrV ta tb) := PE.imp (pe_or ha hb) fun σ0 H Q0 h => by
  obtain ⟨σ, M, Q, hs, hv, ht, hk⟩ := h
  refine ⟨σ, M, _, hs, hv, ht, fun rx M1 x H1 q e1 v1 r1 => ?_⟩
  cases rx with
  | bl k =>
    simp only [Rep] at r1
    refine ⟨k, r1, ?_⟩
    cases k with
    | true => exact iteT (hk _ M1 _ H1 (q.1 rfl) e1 v1 (by simp only [Rep]))
    | false => exact iteF ⟨σ, M1, Q, hs.ext e1, v1, q.2 rfl, hk.ext e1⟩
  | _ => exact q.elim
theorem rnotv (ha : RPE X a ta) : RPE X (.UnaryOp .Not a pos) (rNotV ta) := PE.imp (pe_not ha) fun σ0 H Q0 h => by
  obtain ⟨σ, M, Q, hs, hv, ht, hk⟩ := h
  refine ⟨σ, M, _, hs, hv, ht, fun rx M1 x H1 q e1 v1 r1 => ?_⟩
  cases rx with
  | bl k => simp only [Rep] at r1; exact ⟨k, r1, hk _ M1 _ H1 q e1 v1 (by simp only [Rep])⟩
  | _ => exact q.elim
def rIf (t : RTT) (ta tb : RTE) : RTE := fun σ M Q => t σ M fun c M1 => (c = true → ta σ M1 Q) ∧ (c = false → tb σ M1 Q)
theorem rif {c : Expr} (hc : RPT X c tA) (ha : RPE X a ta) (hb : RPE X b tb) : RPE X (.IfExp c a b pos) (rIf tA ta tb) := PE.imp (pe_ifExp hc ha hb) fun σ0 H Q0 h => by
  obtain ⟨σ, M, Q, hs, hv, ht, hk⟩ := h
  refine ⟨σ, M, _, hs, hv, ht, fun k M1 H1 q e1 v1 => ?_⟩
  cases k with
  | true => exact iteT ⟨σ, M1, Q, hs.ext e1, v1, q.1 rfl, hk.ext e1⟩
  | false => exact iteF ⟨σ, M1, Q, hs.ext e1, v1, q.2 rfl, hk.ext e1⟩
/-! ### argument lists, displays -/
variable {e : Expr} {es : List Expr} {te : RTE} {t : RTA}
def rNil : RTA := fun _ M Q => Q [] M
def rCons (ta : RTE) (tr : RTA) : RTA := fun σ M Q => ta σ M fun x M1 => tr σ M1 fun xs M2 => Q (x :: xs) M2
theorem anil : RPA X [] rNil := PA.imp pa_nil fun σ0 H Q0 h => by
  obtain ⟨σ, M, Q, hs, hv, ht, hk⟩ := h
  exact hk [] M [] H ht (.refl H) hv Reps.nil
theorem acons (ha : RPE X e te) (hr : RPA X es t) (hs : starEach (e :: es) X.env = (false, eval e X.env) :: starEach es X.env := by rfl) : RPA X (e :: es) (rCons te t) := PA.imp (pa_cons ha hr hs) fun σ0 H Q0 h => by
  obtain ⟨σ, M, Q, hs, hv, ht, hk⟩ := h
  refine ⟨σ, M, _, hs, hv, ht, fun rx M1 x H1 q e1 v1 r1 => ?_⟩
  refine ⟨σ, M1, _, hs.ext e1, v1, q, fun rs M2 vs H2 q2 e2 v2 r2 => ?_⟩
  exact hk (rx :: rs) M2 (x :: vs) H2 q2 (e1.trans e2) v2 (Reps.cons (Rep.ext e2 rx x r1) r2)
def rTup (t : RTA) : RTE := fun σ M Q => t σ M fun rs M1 => rs.length ≤ sizeLine ∧ Q (.tup rs) M1
theorem rep_tup {K : PySem.W.Frag} {H : Hp} {p : Addr} {rs : List RV} {vs : List V} (h : H p = none) (r : Reps K H rs vs) : Rep K (upd H p (.tup vs)) (.tup rs) (.ref p) := by
  simp only [Rep]; exact ⟨p, vs, rfl, SqT.of upd_same, Reps.ext (Ext.new h) rs vs r⟩
theorem rep_ls {K : PySem.W.Frag} {H : Hp} {p : Addr} {o : Obj} {rs : List RV} {vs : List V} (h : H p = none) (r : Reps K H rs vs) : Rep K (upd H p (.frz o (.lst vs))) (.ls rs) (.ref p) := by
  simp only [Rep]; exact ⟨p, vs, rfl, .inl ⟨o, upd_same⟩, Reps.ext (Ext.new h) rs vs r⟩
theorem rtup {x1} (h : RPA X es t) : RPE X (.Tuple es x1 pos) (rTup t) := PE.imp (pe_tup h) fun σ0 H Q0 h => by
  obtain ⟨σ, M, Q, hs, hv, ht, hk⟩ := h
  refine ⟨σ, M, _, hs, hv, ht, fun rs M1 vs H1 q e1 v1 r1 => ⟨by rw [← r1.length]; exact q.1, fun p hp => ?_⟩⟩
  exact hk _ M1 _ _ q.2 (e1.trans (Ext.new hp)) (v1.new hp) (rep_tup hp r1)
/-- a list that will be changed -/
def rLst (t : RTA) : RTE := fun σ M Q => t σ M fun rs M1 => rs.length ≤ sizeLine ∧ ∀ p, M1 p = none → Q (.ref p) (put M1 p (.lst rs))
theorem rlst (h : RPA X es t) : RPE X (.List es pos) (rLst t) := PE.imp (pe_lst h) fun σ0 H Q0 h => by
  obtain ⟨σ, M, Q, hs, hv, ht, hk⟩ := h
  refine ⟨σ, M, _, hs, hv, ht, fun rs M1 vs H1 q e1 v1 r1 => ⟨by rw [← r1.length]; exact q.1, fun p hp => ?_⟩⟩
  exact hk _ _ _ _ (q.2 p (v1.free hp)) (e1.trans (Ext.new hp)) (v1.newPut hp ⟨vs, rfl, Reps.ext (Ext.new hp) rs vs r1⟩) (by simp only [Rep])
end
/-! ### freezing -/
section
variable {X : Cx} {pins : List (Addr × Obj)} {σ : L2.St} {H : Hp} {s : Shared}
theorem freeze {p : Addr} {xs : List V} (I : Inv X pins σ H s) (h : H p = some (.lst xs)) : ∃ o, Inv X pins σ (upd H p (.frz o (.lst xs))) s := by
  have hz : xs.length ≤ sizeLine ∧ ∃ (its : List Value) (n : Nat), Vals xs its ∧ s.heap.get? p = some { cls := .type "list", data := .seq its.toArray n } := I.hok p _ h
  obtain ⟨z, its, n, r, e⟩ := id hz
  have np : ∀ b, H b = none → b ≠ p := fun b q w => by subst w; rw [h] at q; cases q
  refine ⟨{ cls := .type "list", data := .seq its.toArray n }, ⟨I.ok, I.os, I.bare, ⟨I.base.keep, I.base.slot, fun b o q w x => ?_, I.base.there, fun b xs' q => ?_, fun b o u q => ?_, fun b ps q => ?_⟩, I.loc, I.cell, ?_, fun x c q => ?_, fun q hq => ?_, fun b u q => ?_, I.len⟩⟩
  · have := I.base.free b o q w x
    rw [upd_ne (np b this)]; exact this
  · have e1 := I.base.tups b xs' q
    rw [upd_ne (ne_of e1 h (by intro z; cases z))]; exact e1
  · have e1 := I.base.frzs b o u q
    rw [upd_ne (ne_of e1 h (by intro z; cases z))]; exact e1
  · obtain ⟨more, e1⟩ := I.base.tbls b ps q
    exact ⟨more, by rw [upd_ne (ne_of e1 h (by intro z; cases z))]; exact e1⟩
  · rw [upd_ne (np _ I.free)]; exact I.free
  · have := I.freeC x c q
    rw [upd_ne (np _ this)]; exact this
  · obtain ⟨a1, a2, a3⟩ := I.pin q hq
    exact ⟨a1, by rw [upd_ne (np _ a2)]; exact a2, a3⟩
  · by_cases hb : b = p
    · subst hb
      rw [upd_same] at q; cases q
      exact ⟨e, z, its, n, r, e⟩
    · rw [upd_ne hb] at q
      refine (I.hok b u q).stay (fun _ _ _ q => q) (fun c q => ?_) fun c ys q => ?_
      · rw [upd_ne (ne_of q h (by intro z; cases z))]; exact q
      · rw [upd_ne (ne_of q h (by intro z; cases z))]; exact q
theorem frozen {Q : VK} {u : Value} (h : EP X pins σ (fun v H' => ∃ H1 p xs, v = .ref p ∧ H1 p = none ∧ H' = upd H1 p (.lst xs) ∧ ∀ o, Q (.ref p) (upd H1 p (.frz o (.lst xs)))) u s) : EP X pins σ Q u s := by
  obtain ⟨v, H', I, r, H1, p, xs, rfl, hn, rfl, q⟩ := h
  obtain ⟨o, I'⟩ := freeze I (p := p) (xs := xs) upd_same
  rw [upd_upd] at I'
  exact ⟨.ref p, _, I', r, q o⟩
end
section
variable {X : Cx} {es : List Expr} {t : RTA} {pos : Pos}
/-- a list that stays as it is -/
def rLsF (t : RTA) : RTE := fun σ M Q => t σ M fun rs M1 => rs.length ≤ sizeLine ∧ Q (.ls rs) M1
theorem rlsf (h : RPA X es t) : RPE X (.List es pos) (rLsF t) := fun pins s σ0 H Q0 I hw => by
  obtain ⟨σ, M, Q, hs, hv, ht, hk⟩ := hw
  refine thn (pe_lst h pins s σ0 H (fun v H' => ∃ H1 p xs, v = .ref p ∧ H1 p = none ∧ H' = upd H1 p (.lst xs) ∧ ∀ o, Q0 (.ref p) (upd H1 p (.frz o (.lst xs)))) I ?_) fun _ _ e => frozen e
  refine ⟨σ, M, _, hs, hv, ht, fun rs M1 vs H1 q e1 v1 r1 => ⟨by rw [← r1.length]; exact q.1, fun p hp => ⟨H1, p, vs, rfl, hp, rfl, fun o => ?_⟩⟩⟩
  exact hk _ M1 _ _ q.2 (e1.trans (Ext.new hp)) (v1.new hp) (rep_ls hp r1)
end
/-! ### statements -/
section
variable {X : Cx} {st : Stmt} {rest : List Stmt} {t u : RTS} {e : Expr} {te : RTE} {pos : Pos}
def rNext : RTS := fun D σ M => D.nx σ M
def rSeq (t u : RTS) : RTS := fun D σ M => t { D with nx := u D } σ M
theorem snil : RPSs X [] rNext := PSs.imp pss_nil fun D0 σ0 H h => by
  obtain ⟨σ, M, D, hs, hv, ht, hd⟩ := h
  exact hd.nx σ M σ0 H ht (.refl H) hv hs
theorem scons (h1 : RPS X st t) (h2 : RPSs X rest u) : RPSs X (st :: rest) (rSeq t u) := PSs.imp (pss_cons h1 h2) fun D0 σ0 H h => by
  obtain ⟨σ, M, D, hs, hv, ht, hd⟩ := h
  refine ⟨σ, M, _, hs, hv, ht, ⟨fun σ' M' σ0' H' q e w r => ?_, hd.rt, hd.bk, hd.ct⟩⟩
  exact ⟨σ', M', D, r, w, q, hd.ext e⟩
theorem sone (h1 : RPS X st t) : RPSs X [st] t := pss_one h1
def rBreak : RTS := fun D σ M => D.bk σ M
def rCont : RTS := fun D σ M => D.ct σ M
theorem spass : RPS X (.Pass pos) rNext := PS.imp ps_pass fun D0 σ0 H h => by
  obtain ⟨σ, M, D, hs, hv, ht, hd⟩ := h
  exact hd.nx σ M σ0 H ht (.refl H) hv hs
theorem sbreak : RPS X (.Break pos) rBreak := PS.imp ps_break fun D0 σ0 H h => by
  obtain ⟨σ, M, D, hs, hv, ht, hd⟩ := h
  exact hd.bk σ M σ0 H ht (.refl H) hv hs
theorem scontinue : RPS X (.Continue pos) rCont := PS.imp ps_continue fun D0 σ0 H h => by
  obtain ⟨σ, M, D, hs, hv, ht, hd⟩ := h
  exact hd.ct σ M σ0 H ht (.refl H) hv hs
theorem sdoc {x j pos pos'} : RPS X (.Expr (.Constant (.str x) j pos) pos') rNext := PS.imp ps_doc fun D0 σ0 H h => by
  obtain ⟨σ, M, D, hs, hv, ht, hd⟩ := h
  exact hd.nx σ M σ0 H ht (.refl H) hv hs
def rDrop (te : RTE) : RTS := fun D σ M => te σ M fun _ M1 => D.nx σ M1
theorem sexpr (he : RPE X e te) (hs : swapsWith e none pos.line X.env = pure false := by rfl) : RPS X (.Expr e pos) (rDrop te) := PS.imp (ps_expr he hs) fun D0 σ0 H h => by
  obtain ⟨σ, M, D, hs, hv, ht, hd⟩ := h
  exact ⟨σ, M, _, hs, hv, ht, fun rx M1 x H1 q e1 v1 r1 => hd.nx σ M1 σ0 H1 q e1 v1 (hs.ext e1)⟩
def rRet (te : RTE) : RTS := fun D σ M => te σ M D.rt
theorem sret (he : RPE X e te) : RPS X (.Return (some e) pos) (rRet te) := PS.imp (ps_ret he) fun D0 σ0 H h => by
  obtain ⟨σ, M, D, hs, hv, ht, hd⟩ := h
  exact ⟨σ, M, _, hs, hv, ht, hd.rt⟩
def rRetN : RTS := fun D _ M => D.rt .non M
theorem sretn : RPS X (.Return none pos) rRetN := PS.imp ps_retN fun D0 σ0 H h => by
  obtain ⟨σ, M, D, hs, hv, ht, hd⟩ := h
  exact hd.rt .non M .non H ht (.refl H) hv (by simp only [Rep])
def rIfS (c : RTT) (t u : RTS) : RTS := fun D σ M => c σ M fun b M1 => (b = true → t D σ M1) ∧ (b = false → u D σ M1)
theorem sif {c : Expr} {a b : List Stmt} {tc : RTT} (hc : RPT X c tc) (ha : RPSs X a t) (hb : RPSs X b u) : RPS X (.If c a b pos) (rIfS tc t u) := PS.imp (ps_if hc ha hb) fun D0 σ0 H h => by
  obtain ⟨σ, M, D, hs, hv, ht, hd⟩ := h
  refine ⟨σ, M, _, hs, hv, ht, fun k M1 H1 q e1 v1 => ?_⟩
  cases k with
  | true => exact iteT ⟨σ, M1, D, hs.ext e1, v1, q.1 rfl, hd.ext e1⟩
  | false => exact iteF ⟨σ, M1, D, hs.ext e1, v1, q.2 rfl, hd.ext e1⟩
def rSet (i : Nat) (te : RTE) : RTS := fun D σ M => te σ M fun x M1 => D.nx (σ.set i (some x)) M1
theorem sset (i : Nat) {x : Str} {pos' : Pos} (he : RPE X e te) (hN : X.N.Nodup) (hi : X.N[i]? = some x := by rfl) (hx : Loc X.env.scope x := by first | exact Or.inl rfl | exact Or.inr rfl) (hs : swapsWith e (some (.Name x pos')) pos.line X.env = pure false := by rfl)
    (hf : X.fn x = true ∨ X.env.scope.names.lookup x = some .local := by first | exact .inl rfl | exact .inr rfl) : RPS X (.Assign [.Name x pos'] e pos) (rSet i te) := PS.imp (ps_set hN hi hx he hs hf) fun D0 σ0 H h => by
  obtain ⟨σ, M, D, hs, hv, ht, hd⟩ := h
  exact ⟨σ, M, _, hs, hv, ht, fun rx M1 x H1 q e1 v1 r1 => hd.nx _ M1 _ H1 q e1 v1 ((hs.ext e1).set r1 i)⟩
/-! ### targets -/
abbrev RTG := RV → RSt → RM → (RSt → RM → Prop) → Prop
def upG (K : PySem.W.Frag) (g : RTG) : TG := fun v σ0 H Q0 => ∃ rv σ M Q, Rep K H rv v ∧ RepSt K H σ σ0 ∧ View K H M ∧ g rv σ M Q ∧ UpS K H Q Q0
def RPG (X : Cx) (target : Expr) (g : RTG) : Prop := PG X target (upG X.K g)
theorem PG.imp {tg : Expr} {t t' : TG} (h : PG X tg t) (i : ∀ v σ H Q, t' v σ H Q → t v σ H Q) : PG X tg t' := fun pins s σ H v u Q I r w => h pins s σ H v u Q I r (i v σ H Q w)
def rgN (i : Nat) : RTG := fun x σ M Q => Q (σ.set i (some x)) M
theorem gname (i : Nat) {x : Str} {pos : Pos} (hN : X.N.Nodup) (hi : X.N[i]? = some x := by rfl) (hx : Loc X.env.scope x := by first | exact Or.inl rfl | exact Or.inr rfl)
    (hf : X.fn x = true ∨ X.env.scope.names.lookup x = some .local := by first | exact .inl rfl | exact .inr rfl) : RPG X (.Name x pos) (rgN i) := PG.imp (pg_name hN hi hx hf) fun v σ0 H Q0 h => by
  obtain ⟨rv, σ, M, Q, hr, hs, hv, hg, hk⟩ := h
  exact hk _ M _ H hg (.refl H) hv (hs.set hr i)
def setAll : RSt → List Nat → List RV → RSt
  | σ, i :: is, x :: xs => setAll (σ.set i (some x)) is xs
  | σ, _, _ => σ
def gAll : List Nat → TGs
  | [] => gNil
  | i :: is => gCons (gName i) (gAll is)
theorem gAll_of {K : PySem.W.Frag} {H : Hp} {Q0 : L2.St → Hp → Prop} : ∀ {is : List Nat} {rs : List RV} {vs : List V} {σ : RSt} {σ0 : L2.St}, rs.length = is.length → Reps K H rs vs → RepSt K H σ σ0 →
    (∀ σ0', RepSt K H (setAll σ is rs) σ0' → Q0 σ0' H) → gAll is vs σ0 H Q0
  | [], [], vs, σ, σ0, _, r, hs, k => by
    simp only [Reps] at r
    exact ⟨r, k σ0 hs⟩
  | i :: is, x :: rs, vs, σ, σ0, hl, r, hs, k => by
    simp only [Reps] at r
    obtain ⟨v, vs', rfl, h1, h2⟩ := r
    refine ⟨v, vs', rfl, ?_⟩
    show gAll is vs' (σ0.set i (some v)) H Q0
    exact gAll_of (σ := σ.set i (some x)) (by simpa using hl) h2 (hs.set h1 i) k
def rgU (is : List Nat) : RTG := fun x σ M Q => match x with | .tup xs => xs.length = is.length ∧ Q (setAll σ is xs) M | _ => False
theorem gtup {es : List Expr} {k : Nat} {is : List Nat} {n : Nat} {pos : Pos} (hc : X.calm = true) (h : PGs X es (gAll is)) (hl : n = is.length := by rfl)
    (hn : (assignEach es X.env).length = n := by rfl) (hst : (assignEach es X.env).findIdx? (·.1) = none := by rfl) : RPG X (.Tuple es k pos) (rgU is) := PG.imp (pg_tup hc h hn hst) fun v σ0 H Q0 h => by
  obtain ⟨rv, σ, M, Q, hr, hs, hv, hg, hk⟩ := h
  cases rv with
  | tup xs =>
    simp only [Rep] at hr
    obtain ⟨a, vs, rfl, h1, h2⟩ := hr
    exact ⟨a, vs, rfl, h1, by rw [← h2.length, hl]; exact hg.1, gAll_of hg.1 h2 hs fun σ0' q => hk _ M σ0' H hg.2 (.refl H) hv q⟩
  | _ => exact hg.elim
def rAsg (te : RTE) (g : RTG) : RTS := fun D σ M => te σ M fun x M1 => g x σ M1 D.nx
theorem sasg {tg e : Expr} {te : RTE} {g : RTG} {pos : Pos} (he : RPE X e te) (hg : RPG X tg g) (hs : swapsWithSole [tg] e pos.line X.env = pure false := by rfl) (hw : swappedStores [tg] e X.env = pure none := by rfl)
    (h1 : (assignEach [tg] X.env).map (·.2) = [assign tg X.env] := by rfl) : RPS X (.Assign [tg] e pos) (rAsg te g) := PS.imp (ps_asg he hg hs hw h1) fun D0 σ0 H h => by
  obtain ⟨σ, M, D, hs, hv, ht, hd⟩ := h
  exact ⟨σ, M, _, hs, hv, ht, fun rx M1 x H1 q e1 v1 r1 => ⟨rx, σ, M1, D.nx, r1, hs.ext e1, v1, q, hd.nx.ext e1⟩⟩
/-- o[i] = v, by values -/
abbrev RTSet := RV → RV → RV → RM → (RM → Prop) → Prop
def upSet (K : PySem.W.Frag) (g : RTSet) : TSet := fun o i v H Q0 => ∃ ro ri rx M Q, Rep K H ro o ∧ Rep K H ri i ∧ Rep K H rx v ∧ View K H M ∧ g ro ri rx M Q ∧ ∀ M' H', Q M' → Ext H H' → View K H' M' → Q0 H'
def rgSub (to ti : RTE) (g : RTSet) : RTG := fun v σ M Q => to σ M fun o M1 => ti σ M1 fun i M2 => g o i v M2 fun M3 => Q σ M3
theorem gsub {o i : Expr} {to ti : RTE} {g : RTSet} {pos : Pos} (ho : RPE X o to) (hi : RPE X i ti) (hs : PSet X (upSet X.K g))
    (ha : ∀ v, assign (.Subscript o i pos) X.env v = (do
      let ov ← holding [v] (eval o X.env)
      let iv ← holding [v, ov] (eval i X.env)
      standAt pos
      holding [v, ov, iv] (setItem ov iv v)
      release [v, ov, iv] []) := by intro _; rfl) : RPG X (.Subscript o i pos) (rgSub to ti g) := PG.imp (pg_sub ho hi hs ha) fun v σ0 H Q0 h => by
  obtain ⟨rv, σ, M, Q, hr, hs, hv, hg, hk⟩ := h
  refine ⟨σ, M, _, hs, hv, hg, fun ro M1 o H1 q e1 v1 r1 => ?_⟩
  refine ⟨σ, M1, _, hs.ext e1, v1, q, fun ri M2 i H2 q2 e2 v2 r2 => ?_⟩
  refine ⟨ro, ri, rv, M2, _, Rep.ext e2 ro o r1, r2, Rep.ext (e1.trans e2) rv v hr, v2, q2, fun M3 H3 q3 e3 v3 => ?_⟩
  have e := (e1.trans e2).trans e3
  exact hk σ M3 σ0 H3 q3 e v3 (hs.ext e)
/-! ### for -/
def rForL (g : RTG) (tb : RTS) (D : RD) : List RV → RSt → RM → Prop
  | [], σ, M => D.nx σ M
  | x :: r, σ, M => g x σ M fun σ2 M2 => tb { D with nx := rForL g tb D r, ct := rForL g tb D r, bk := D.nx } σ2 M2
def rFor (te : RTE) (g : RTG) (tb : RTS) : RTS := fun D σ M => te σ M fun v M1 => match v with
  | .tup xs => rForL g tb D xs σ M1
  | .ls xs => rForL g tb D xs σ M1
  | _ => False
theorem forL_turn {K : PySem.W.Frag} {g : RTG} {tb : RTS} {D : RD} {D0 : Ends} {H1 : Hp} {rs : List RV} {vs : List V} (hd : UpD K H1 D D0) (rr : Reps K H1 rs vs) (i : Nat) (x : V) (σ0 : L2.St) (H : Hp) (hi : vs[i]? = some x)
    (h : ∃ σ M, RepSt K H σ σ0 ∧ View K H M ∧ rForL g tb D (rs.drop i) σ M ∧ Ext H1 H) :
    upG K g x σ0 H fun σ2 H2 => upS K tb { D0 with nx := fun σ0 H => ∃ σ M, RepSt K H σ σ0 ∧ View K H M ∧ rForL g tb D (rs.drop (i + 1)) σ M ∧ Ext H1 H, ct := fun σ0 H => ∃ σ M, RepSt K H σ σ0 ∧ View K H M ∧ rForL g tb D (rs.drop (i + 1)) σ M ∧ Ext H1 H, bk := D0.nx } σ2 H2 := by
  obtain ⟨σ, M, hs, hv, hf, e1⟩ := h
  have hlt : i < rs.length := by rw [rr.length]; exact (List.getElem?_eq_some_iff.mp hi).1
  have ed : rs.drop i = rs[i] :: rs.drop (i + 1) := by simp
  rw [ed] at hf
  obtain ⟨v, e2, r2⟩ := rr.get (i := i) (x := rs[i]) (by simp)
  rw [hi] at e2; cases e2
  refine ⟨rs[i], σ, M, _, Rep.ext e1 _ _ r2, hs, hv, hf, fun σ' M' σ0' H' q e3 v3 r3 => ?_⟩
  refine ⟨σ', M', _, r3, v3, q, ⟨fun σ4 M4 σ04 H4 q4 e4 v4 r4 => ?_, (hd.ext (e1.trans e3)).rt, (hd.ext (e1.trans e3)).nx, fun σ4 M4 σ04 H4 q4 e4 v4 r4 => ?_⟩⟩
  · exact ⟨σ4, M4, r4, v4, q4, (e1.trans e3).trans e4⟩
  · exact ⟨σ4, M4, r4, v4, q4, (e1.trans e3).trans e4⟩
theorem sforL {tg iter : Expr} {body : List Stmt} {te : RTE} {g : RTG} {tb : RTS} {pos : Pos} (hp : PassesOwn (model X.prog X.w) X.A X.env X.xe) (hc : X.calm = true) (hi : RPE X iter te) (hg : RPG X tg g) (hb : RPSs X body tb)
    (hs : ∀ x, foldedSetIterable iter X.env x = pure x := by intro _; rfl) :
    RPS X (.For tg iter body [] pos) (fun D σ M => te σ M fun v M1 => match v with | .ls xs => rForL g tb D xs σ M1 | _ => False) := PS.imp (ps_for hp hc (pi_list hi) hg hb hs) fun D0 σ0 H h => by
  obtain ⟨σ, M, D, hs, hv, ht, hd⟩ := h
  refine ⟨σ, M, _, hs, hv, ht, fun rx M1 x H1 q e1 v1 r1 => ?_⟩
  cases rx with
  | ls rs =>
    simp only [Rep] at r1
    obtain ⟨a, vs, rfl, h1, rr⟩ := r1
    refine ⟨a, rfl, ⟨vs, h1.sq⟩, for_list (K := X.K) (a := a) (xs := vs) (fun i σ0 H => ∃ σ M, RepSt X.K H σ σ0 ∧ View X.K H M ∧ rForL g tb D (rs.drop i) σ M ∧ Ext H1 H) ⟨σ, M1, hs.ext e1, v1, by simpa using q, .refl _⟩
      (fun i σ0 H _ ⟨_, _, _, _, _, e⟩ => (h1.ext e).sq) (fun i x σ0 H hx h => forL_turn (hd.ext e1) rr i x σ0 H hx h) fun σ0 H ⟨σ, M, hs, hv, hf, e⟩ => ?_⟩
    rw [← rr.length, List.drop_length] at hf
    exact hd.nx σ M σ0 H hf (e1.trans e) hv hs
  | _ => exact q.elim
theorem sforT {tg iter : Expr} {body : List Stmt} {te : RTE} {g : RTG} {tb : RTS} {pos : Pos} (hp : PassesOwn (model X.prog X.w) X.A X.env X.xe) (hc : X.calm = true) (hi : RPE X iter te) (hg : RPG X tg g) (hb : RPSs X body tb)
    (hs : ∀ x, foldedSetIterable iter X.env x = pure x := by intro _; rfl) :
    RPS X (.For tg iter body [] pos) (fun D σ M => te σ M fun v M1 => match v with | .tup xs => rForL g tb D xs σ M1 | _ => False) := PS.imp (ps_for hp hc (pi_tup hi) hg hb hs) fun D0 σ0 H h => by
  obtain ⟨σ, M, D, hs, hv, ht, hd⟩ := h
  refine ⟨σ, M, _, hs, hv, ht, fun rx M1 x H1 q e1 v1 r1 => ?_⟩
  cases rx with
  | tup rs =>
    simp only [Rep] at r1
    obtain ⟨a, vs, rfl, h1, rr⟩ := r1
    refine ⟨a, rfl, ⟨vs, h1⟩, for_tup (K := X.K) (a := a) (xs := vs) (fun i σ0 H => ∃ σ M, RepSt X.K H σ σ0 ∧ View X.K H M ∧ rForL g tb D (rs.drop i) σ M ∧ Ext H1 H) ⟨σ, M1, hs.ext e1, v1, by simpa using q, .refl _⟩
      (fun i σ0 H _ ⟨_, _, _, _, _, e⟩ => SqT.ext e h1) (fun i x σ0 H hx h => forL_turn (hd.ext e1) rr i x σ0 H hx h) fun σ0 H ⟨σ, M, hs, hv, hf, e⟩ => ?_⟩
    rw [← rr.length, List.drop_length] at hf
    exact hd.nx σ M σ0 H hf (e1.trans e) hv hs
  | _ => exact q.elim
end
end R

set_option Elab.async false
set_option linter.all false
set_option maxRecDepth 100000
set_option maxHeartbeats 1000000
namespace R
open PySem PySem.Spec PyProof.Rows L2
open PySem.SeqAt (EqAt RcAt RcNeAt)
/-! ### == of trees -/
mutual
def eqR : RV → RV → Bool
  | .non, .non => true
  | .bl a, .bl b => a == b
  | .bl a, .int b => (if a then 1 else 0) == b
  | .int a, .bl b => a == (if b then 1 else 0)
  | .int a, .int b => a == b
  | .str a, .str b => a == b
  | .tup xs, .tup ys => eqRs xs ys
  | .ls xs, .ls ys => eqRs xs ys
  | _, _ => false
def eqRs : List RV → List RV → Bool
  | [], [] => true
  | x :: xs, y :: ys => eqR x y && eqRs xs ys
  | _, _ => false
end
def okR : Nat → RV → Bool
  | _, .non => true
  | _, .bl _ => true
  | _, .int _ => true
  | _, .str _ => true
  | n + 1, .tup xs => xs.all (okR n)
  | n + 1, .ls xs => xs.all (okR n)
  | _, _ => false
mutual
def Den (h : Heap) : RV → Value → Prop
  | .non, u => u = .none
  | .bl b, u => u = .bool b
  | .int i, u => ∃ t, u = .int i t
  | .str x, u => ∃ t, u = .str x t
  | .tup xs, u => ∃ a its, u = .ref a ∧ h.IsTuple a its.toArray ∧ Dens h xs its
  | .ls xs, u => ∃ a its, u = .ref a ∧ h.IsList a its.toArray ∧ Dens h xs its
  | .ref _, _ => False
  | .ty _, _ => False
def Dens (h : Heap) : List RV → List Value → Prop
  | [], us => us = []
  | x :: xs, us => ∃ u r, us = u :: r ∧ Den h x u ∧ Dens h xs r
end
theorem Dens.length {h : Heap} : ∀ {xs : List RV} {us : List Value}, Dens h xs us → xs.length = us.length
  | [], us, d => by simp only [Dens] at d; subst d; rfl
  | x :: xs, us, d => by
    simp only [Dens] at d
    obtain ⟨u, r, rfl, _, t⟩ := d
    simp [Dens.length t]
theorem Dens.get {h : Heap} : ∀ {xs : List RV} {us : List Value} {j : Nat} {u : Value}, Dens h xs us → us[j]? = some u → Den h (xs.getD j .non) u ∧ xs.getD j .non ∈ xs
  | [], us, _, _, d, e => by simp only [Dens] at d; subst d; simp at e
  | x :: xs, us, 0, u, d, e => by
    simp only [Dens] at d
    obtain ⟨v, r, rfl, h1, _⟩ := d
    simp at e; subst e
    exact ⟨by simpa using h1, by simp⟩
  | x :: xs, us, j + 1, u, d, e => by
    simp only [Dens] at d
    obtain ⟨v, r, rfl, _, t⟩ := d
    obtain ⟨a, b⟩ := Dens.get (j := j) t (by simpa using e)
    exact ⟨by simpa using a, by simp only [List.getD_cons_succ]; exact List.mem_cons_of_mem _ b⟩
section
variable {X : Cx} {pins : List (Addr × Obj)} {σ : L2.St} {H : Hp} {s : Shared}
theorem Vals.cons_inv {v : V} {vs : List V} {us : List Value} (r : Vals (v :: vs) us) : ∃ u us', us = u :: us' ∧ RelV v u ∧ Vals vs us' := by
  cases r with
  | cons a b => exact ⟨_, _, rfl, a, b⟩
theorem den_of (I : Inv X pins σ H s) : ∀ (n : Nat), (∀ (r : RV) (v : V) (u : Value), okR n r = true → Rep X.K H r v → RelV v u → Den s.heap r u) := by
  intro n
  induction n with
  | zero =>
    intro r v u o h w
    cases r with
    | non => simp only [Rep] at h; subst h; simp only [Den]; exact w
    | bl b => simp only [Rep] at h; subst h; simp only [Den]; exact w
    | int i => simp only [Rep] at h; subst h; simp only [Den]; exact w
    | str x => simp only [Rep] at h; subst h; simp only [Den]; exact w
    | _ => simp [okR] at o
  | succ n ih =>
    have all : ∀ (rs : List RV) (vs : List V) (us : List Value), rs.all (okR n) = true → Reps X.K H rs vs → Vals vs us → Dens s.heap rs us := by
      intro rs
      induction rs with
      | nil =>
        intro vs us _ h w
        simp only [Reps] at h; subst h; cases w; simp only [Dens]
      | cons x xs ihx =>
        intro vs us o h w
        simp only [Reps] at h
        obtain ⟨v, r, rfl, h1, h2⟩ := h
        obtain ⟨u, us', rfl, w1, w2⟩ := Vals.cons_inv w
        rw [List.all_cons, Bool.and_eq_true] at o
        simp only [Dens]
        exact ⟨u, us', rfl, ih x v u o.1 h1 w1, ihx r us' o.2 h2 w2⟩
    intro r v u o h w
    cases r with
    | non => simp only [Rep] at h; subst h; simp only [Den]; exact w
    | bl b => simp only [Rep] at h; subst h; simp only [Den]; exact w
    | int i => simp only [Rep] at h; subst h; simp only [Den]; exact w
    | str x => simp only [Rep] at h; subst h; simp only [Den]; exact w
    | tup xs =>
      simp only [Rep] at h
      obtain ⟨a, vs, rfl, h1, h2⟩ := h
      obtain ⟨its, rv, ht, _⟩ := I.tuple h1
      simp only [Den]
      exact ⟨a, its, w, ht, all xs vs its o h2 rv⟩
    | ls xs =>
      simp only [Rep] at h
      obtain ⟨a, vs, rfl, h1, h2⟩ := h
      obtain ⟨its, rv, ht, _⟩ := I.list h1.sq
      simp only [Den]
      exact ⟨a, its, w, ht.isList, all xs vs its o h2 rv⟩
    | _ => simp [okR] at o
end
theorem seq_inj {h : Heap} {a : Addr} {xs ys : List Value} (p : h.IsTuple a xs.toArray) (q : h.IsTuple a ys.toArray) : xs = ys := by
  obtain ⟨o, e, _, n, d⟩ := p
  obtain ⟨o', e', _, n', d'⟩ := q
  rw [e] at e'; cases e'
  rw [d] at d'
  injection d' with d1 _
  simpa using congrArg Array.toList d1
theorem lst_inj {h : Heap} {a : Addr} {xs ys : List Value} (p : h.IsList a xs.toArray) (q : h.IsList a ys.toArray) : xs = ys := by
  obtain ⟨o, e, _, n, d⟩ := p
  obtain ⟨o', e', _, n', d'⟩ := q
  rw [e] at e'; cases e'
  rw [d] at d'
  injection d' with d1 _
  simpa using congrArg Array.toList d1
theorem lt_apart {h : Heap} {a : Addr} {xs ys : Array Value} (p : h.IsList a xs) (q : h.IsTuple a ys) : False := by
  obtain ⟨o, e, c, _⟩ := p
  obtain ⟨o', e', c', _⟩ := q
  rw [e] at e'; cases e'
  rw [c] at c'
  exact absurd c' (by decide +kernel)
def isS : RV → Bool
  | .non => true
  | .bl _ => true
  | .int _ => true
  | .str _ => true
  | _ => false
def absR : Value → Option RV
  | .none => some .non
  | .bool b => some (.bl b)
  | .int i _ => some (.int i)
  | .str x _ => some (.str x)
  | _ => none
theorem den_s {h : Heap} {u : Value} : ∀ {x : RV}, isS x = true → Den h x u → absR u = some x
  | .non, _, d => by simp only [Den] at d; subst d; rfl
  | .bl _, _, d => by simp only [Den] at d; subst d; rfl
  | .int _, _, d => by simp only [Den] at d; obtain ⟨t, rfl⟩ := d; rfl
  | .str _, _, d => by simp only [Den] at d; obtain ⟨t, rfl⟩ := d; rfl
theorem den_n {h : Heap} {u : Value} : ∀ {x : RV}, isS x = false → Den h x u → absR u = none
  | .tup _, _, d => by simp only [Den] at d; obtain ⟨a, its, rfl, _⟩ := d; rfl
  | .ls _, _, d => by simp only [Den] at d; obtain ⟨a, its, rfl, _⟩ := d; rfl
  | .ref _, _, d => by simp only [Den] at d
  | .ty _, _, d => by simp only [Den] at d
theorem den_inj {h : Heap} : ∀ (n : Nat) (x y : RV) (u : Value), okR n x = true → okR n y = true → Den h x u → Den h y u → x = y := by
  intro n
  have sc : ∀ (x y : RV) (u : Value), isS x = true → Den h x u → Den h y u → x = y := by
    intro x y u sx dx dy
    have ex := den_s sx dx
    cases sy : isS y with
    | true =>
      have ey := den_s sy dy
      rw [ex] at ey
      exact Option.some.inj ey
    | false =>
      have ey := den_n sy dy
      rw [ex] at ey
      cases ey
  induction n with
  | zero =>
    intro x y u ox oy dx dy
    have sx : isS x = true := by cases x <;> first | rfl | (simp [okR] at ox)
    exact sc x y u sx dx dy
  | succ n ih =>
    have all : ∀ (xs ys : List RV) (us : List Value), xs.all (okR n) = true → ys.all (okR n) = true → Dens h xs us → Dens h ys us → xs = ys := by
      intro xs
      induction xs with
      | nil =>
        intro ys us _ _ d e
        simp only [Dens] at d; subst d
        cases ys with
        | nil => rfl
        | cons y ys => simp only [Dens] at e; obtain ⟨_, _, z, _⟩ := e; cases z
      | cons x xs ihx =>
        intro ys us ox oy d e
        simp only [Dens] at d
        obtain ⟨u, r, rfl, d1, d2⟩ := d
        cases ys with
        | nil => simp only [Dens] at e; cases e
        | cons y ys =>
          simp only [Dens] at e
          obtain ⟨u', r', z, e1, e2⟩ := e
          cases z
          rw [List.all_cons, Bool.and_eq_true] at ox oy
          rw [ih x y u ox.1 oy.1 d1 e1, ihx ys r ox.2 oy.2 d2 e2]
    intro x y u ox oy dx dy
    cases sx : isS x with
    | true => exact sc x y u sx dx dy
    | false =>
      cases sy : isS y with
      | true => exact (sc y x u sy dy dx).symm
      | false =>
        cases x with
        | tup xs =>
          simp only [Den] at dx
          obtain ⟨a, its, rfl, p, d⟩ := dx
          cases y with
          | tup ys =>
            simp only [Den] at dy
            obtain ⟨a', its', z, p', d'⟩ := dy
            cases z
            obtain rfl := seq_inj p p'
            rw [all xs ys its ox oy d d']
          | ls ys =>
            simp only [Den] at dy
            obtain ⟨a', its', z, p', d'⟩ := dy
            cases z
            exact (lt_apart p' p).elim
          | ref _ => simp only [Den] at dy
          | ty _ => simp only [Den] at dy
          | _ => cases sy
        | ls xs =>
          simp only [Den] at dx
          obtain ⟨a, its, rfl, p, d⟩ := dx
          cases y with
          | ls ys =>
            simp only [Den] at dy
            obtain ⟨a', its', z, p', d'⟩ := dy
            cases z
            obtain rfl := lst_inj p p'
            rw [all xs ys its ox oy d d']
          | tup ys =>
            simp only [Den] at dy
            obtain ⟨a', its', z, p', d'⟩ := dy
            cases z
            exact (lt_apart p p').elim
          | ref _ => simp only [Den] at dy
          | ty _ => simp only [Den] at dy
          | _ => cases sy
        | ref _ => simp only [Den] at dx
        | ty _ => simp only [Den] at dx
        | _ => cases sx
mutual
theorem eqR_refl : ∀ (x : RV), (∃ n, okR n x = true) → eqR x x = true
  | .non, _ => by simp [eqR]
  | .bl _, _ => by simp [eqR]
  | .int _, _ => by simp [eqR]
  | .str _, _ => by simp [eqR]
  | .tup xs, ⟨n, o⟩ => by
    rw [eqR]
    refine eqRs_refl xs ?_
    cases n with
    | zero => simp [okR] at o
    | succ n => exact ⟨n, o⟩
  | .ls xs, ⟨n, o⟩ => by
    rw [eqR]
    refine eqRs_refl xs ?_
    cases n with
    | zero => simp [okR] at o
    | succ n => exact ⟨n, o⟩
  | .ref _, ⟨n, o⟩ => by cases n <;> simp [okR] at o
  | .ty _, ⟨n, o⟩ => by cases n <;> simp [okR] at o
theorem eqRs_refl : ∀ (xs : List RV), (∃ n, xs.all (okR n) = true) → eqRs xs xs = true
  | [], _ => by simp [eqRs]
  | x :: xs, ⟨n, o⟩ => by
    rw [List.all_cons, Bool.and_eq_true] at o
    rw [eqRs, eqR_refl x ⟨n, o.1⟩, eqRs_refl xs ⟨n, o.2⟩]; rfl
end
abbrev pairR (xs ys : List RV) (j : Nat) : Bool := eqR (xs.getD j .non) (ys.getD j .non)
theorem eqRs_eq : ∀ xs ys : List RV, ((List.range (min xs.length ys.length)).all (pairR xs ys) && xs.length == ys.length) = eqRs xs ys
  | [], [] => by simp [eqRs]
  | [], _ :: _ => by simp [eqRs]
  | _ :: _, [] => by simp [eqRs]
  | x :: xs, y :: ys => by
    have ih := eqRs_eq xs ys
    have e1 : min (x :: xs).length (y :: ys).length = min xs.length ys.length + 1 := by simp only [List.length_cons]; omega
    have e2 : ((x :: xs).length == (y :: ys).length) = (xs.length == ys.length) := by simp
    have e3 : (List.range (min xs.length ys.length + 1)).all (pairR (x :: xs) (y :: ys)) = (eqR x y && (List.range (min xs.length ys.length)).all (pairR xs ys)) := by
      rw [List.range_succ_eq_map, List.all_cons, List.all_map]
      rfl
    rw [e1, e2, e3, eqRs, ← ih, Bool.and_assoc]
theorem eqRs_same {xs ys : List RV} (h : xs.length = ys.length) : (List.range xs.length).all (pairR xs ys) = eqRs xs ys := by
  have := eqRs_eq xs ys
  rw [← h, Nat.min_self] at this
  simpa using this
theorem eqRs_other {xs ys : List RV} (h : xs.length ≠ ys.length) : eqRs xs ys = false := by
  have := eqRs_eq xs ys
  rw [← this]
  simp [h]
theorem in1_units (A : Around) : A.in1.units = A.units + 1 := rfl
theorem eqAt_den : ∀ (n : Nat) (x y : RV) (A : Around) (s : Shared) (u w : Value), okR n x = true → okR n y = true → Den s.heap x u → Den s.heap y w → A.units + n < cLine → EqAt A s u w (eqR x y) := by
  intro n
  induction n with
  | zero =>
    intro x y A s u w ox oy dx dy hu
    cases x with
    | non =>
      simp only [Den] at dx
      cases y with
      | non =>
        simp only [Den] at dy
        subst dx
        subst dy
        simp only [eqR, Bool.not_false, Bool.not_true]
        exact EqAt.same _
      | bl y =>
        simp only [Den] at dy
        subst dx
        subst dy
        simp only [eqR, Bool.not_false, Bool.not_true]
        exact EqAt.none_bool _
      | int y =>
        simp only [Den] at dy
        subst dx
        obtain ⟨t2, rfl⟩ := dy
        simp only [eqR, Bool.not_false, Bool.not_true]
        exact EqAt.none_int _ _
      | str y =>
        simp only [Den] at dy
        subst dx
        obtain ⟨t2, rfl⟩ := dy
        simp only [eqR, Bool.not_false, Bool.not_true]
        exact EqAt.none_str _ _
      | ref y => exact (by simpa only [Den] using dy : False).elim
      | ty y => exact (by simpa only [Den] using dy : False).elim
      | tup y => simp [okR] at oy
      | ls y => simp [okR] at oy
    | bl x =>
      simp only [Den] at dx
      cases y with
      | non =>
        simp only [Den] at dy
        subst dx
        subst dy
        simp only [eqR, Bool.not_false, Bool.not_true]
        exact EqAt.bool_none _
      | bl y =>
        simp only [Den] at dy
        subst dx
        subst dy
        simp only [eqR, Bool.not_false, Bool.not_true]
        exact EqAt.bool_bool _ _
      | int y =>
        simp only [Den] at dy
        subst dx
        obtain ⟨t2, rfl⟩ := dy
        simp only [eqR, Bool.not_false, Bool.not_true]
        exact EqAt.bool_int _ _ _
      | str y =>
        simp only [Den] at dy
        subst dx
        obtain ⟨t2, rfl⟩ := dy
        simp only [eqR, Bool.not_false, Bool.not_true]
        exact EqAt.bool_str _ _ _
      | ref y => exact (by simpa only [Den] using dy : False).elim
      | ty y => exact (by simpa only [Den] using dy : False).elim
      | tup y => simp [okR] at oy
      | ls y => simp [okR] at oy
    | int x =>
      simp only [Den] at dx
      cases y with
      | non =>
        simp only [Den] at dy
        obtain ⟨t1, rfl⟩ := dx
        subst dy
        simp only [eqR, Bool.not_false, Bool.not_true]
        exact EqAt.int_none _ _
      | bl y =>
        simp only [Den] at dy
        obtain ⟨t1, rfl⟩ := dx
        subst dy
        simp only [eqR, Bool.not_false, Bool.not_true]
        exact EqAt.int_bool _ _ _
      | int y =>
        simp only [Den] at dy
        obtain ⟨t1, rfl⟩ := dx
        obtain ⟨t2, rfl⟩ := dy
        simp only [eqR, Bool.not_false, Bool.not_true]
        exact EqAt.int_int _ _ _ _
      | str y =>
        simp only [Den] at dy
        obtain ⟨t1, rfl⟩ := dx
        obtain ⟨t2, rfl⟩ := dy
        simp only [eqR, Bool.not_false, Bool.not_true]
        exact EqAt.int_str _ _ _ _
      | ref y => exact (by simpa only [Den] using dy : False).elim
      | ty y => exact (by simpa only [Den] using dy : False).elim
      | tup y => simp [okR] at oy
      | ls y => simp [okR] at oy
    | str x =>
      simp only [Den] at dx
      cases y with
      | non =>
        simp only [Den] at dy
        obtain ⟨t1, rfl⟩ := dx
        subst dy
        simp only [eqR, Bool.not_false, Bool.not_true]
        exact EqAt.str_none _ _
      | bl y =>
        simp only [Den] at dy
        obtain ⟨t1, rfl⟩ := dx
        subst dy
        simp only [eqR, Bool.not_false, Bool.not_true]
        exact EqAt.str_bool _ _ _
      | int y =>
        simp only [Den] at dy
        obtain ⟨t1, rfl⟩ := dx
        obtain ⟨t2, rfl⟩ := dy
        simp only [eqR, Bool.not_false, Bool.not_true]
        exact EqAt.str_int _ _ _ _
      | str y =>
        simp only [Den] at dy
        obtain ⟨t1, rfl⟩ := dx
        obtain ⟨t2, rfl⟩ := dy
        simp only [eqR, Bool.not_false, Bool.not_true]
        exact EqAt.str_str _ _ _ _
      | ref y => exact (by simpa only [Den] using dy : False).elim
      | ty y => exact (by simpa only [Den] using dy : False).elim
      | tup y => simp [okR] at oy
      | ls y => simp [okR] at oy
    | ref x => exact (by simpa only [Den] using dx : False).elim
    | ty x => exact (by simpa only [Den] using dx : False).elim
    | tup x => simp [okR] at ox
    | ls x => simp [okR] at ox
  | succ n ih =>
    intro x y A s u w ox oy dx dy hu
    have hu0 : A.units < cLine := by omega
    have item : ∀ (xs ys : List RV) (us ws : List Value), xs.all (okR n) = true → ys.all (okR n) = true → Dens s.heap xs us → Dens s.heap ys ws →
        ∀ j (j1 : j < us.toArray.size) (j2 : j < ws.toArray.size), EqAt A.in1 s us.toArray[j] ws.toArray[j] (pairR xs ys j) := fun xs ys us ws o1 o2 d1 d2 j j1 j2 => by
      obtain ⟨a1, b1⟩ := d1.get (j := j) (u := us.toArray[j]) (by simp)
      obtain ⟨a2, b2⟩ := d2.get (j := j) (u := ws.toArray[j]) (by simp)
      exact ih _ _ A.in1 s _ _ (List.all_eq_true.mp o1 _ b1) (List.all_eq_true.mp o2 _ b2) a1 a2 (by rw [in1_units]; omega)
    have same_EqAt_tup : ∀ (xs ys : List RV) (a a' : Addr) (its its' : List Value), s.heap.IsTuple a its.toArray → s.heap.IsTuple a' its'.toArray → Dens s.heap xs its → Dens s.heap ys its' → okR (n + 1) (.tup xs) = true → okR (n + 1) (.tup ys) = true → EqAt A s (.ref a) (.ref a') (eqR (RV.tup xs) (RV.tup ys)) := by
      intro xs ys a a' its its' p p' d d' ox oy
      by_cases ha : a = a'
      · subst ha
        obtain rfl := seq_inj p p'
        have e : RV.tup xs = RV.tup ys := den_inj (n + 1) _ _ (.ref a) ox oy (by simp only [Den]; exact ⟨a, its, rfl, p, d⟩) (by simp only [Den]; exact ⟨a, its, rfl, p, d'⟩)
        rw [← e, eqR_refl _ ⟨_, ox⟩]
        exact EqAt.same _
      refine EqAt.of_refs ha ?_
      rw [eqR, ← eqRs_eq, d.length, d'.length]
      have := RcAt.tuples p p' hu0 (item xs ys its its' ox oy d d')
      simpa using this
    have same_EqAt_ls : ∀ (xs ys : List RV) (a a' : Addr) (its its' : List Value), s.heap.IsList a its.toArray → s.heap.IsList a' its'.toArray → Dens s.heap xs its → Dens s.heap ys its' → okR (n + 1) (.ls xs) = true → okR (n + 1) (.ls ys) = true → EqAt A s (.ref a) (.ref a') (eqR (RV.ls xs) (RV.ls ys)) := by
      intro xs ys a a' its its' p p' d d' ox oy
      by_cases ha : a = a'
      · subst ha
        obtain rfl := lst_inj p p'
        have e : RV.ls xs = RV.ls ys := den_inj (n + 1) _ _ (.ref a) ox oy (by simp only [Den]; exact ⟨a, its, rfl, p, d⟩) (by simp only [Den]; exact ⟨a, its, rfl, p, d'⟩)
        rw [← e, eqR_refl _ ⟨_, ox⟩]
        exact EqAt.same _
      refine EqAt.of_refs ha ?_
      rw [eqR]
      by_cases hz : xs.length = ys.length
      · rw [← eqRs_same hz, d.length]
        have := RcAt.lists p p' (by simp [← d.length, ← d'.length, hz]) hu0 (item xs ys its its' ox oy d d')
        simpa using this
      · rw [eqRs_other hz]
        exact RcAt.lists_lengths p p' (by simp [← d.length, ← d'.length, hz]) hu0
    cases x with
    | non =>
      simp only [Den] at dx
      cases y with
      | non =>
        simp only [Den] at dy
        subst dx
        subst dy
        simp only [eqR, Bool.not_false, Bool.not_true]
        exact EqAt.same _
      | bl y =>
        simp only [Den] at dy
        subst dx
        subst dy
        simp only [eqR, Bool.not_false, Bool.not_true]
        exact EqAt.none_bool _
      | int y =>
        simp only [Den] at dy
        subst dx
        obtain ⟨t2, rfl⟩ := dy
        simp only [eqR, Bool.not_false, Bool.not_true]
        exact EqAt.none_int _ _
      | str y =>
        simp only [Den] at dy
        subst dx
        obtain ⟨t2, rfl⟩ := dy
        simp only [eqR, Bool.not_false, Bool.not_true]
        exact EqAt.none_str _ _
      | tup y =>
        simp only [Den] at dy
        subst dx
        obtain ⟨a2, its2, rfl, p2, d2⟩ := dy
        simp only [eqR, Bool.not_false, Bool.not_true]
        exact EqAt.none_tuple p2 hu0
      | ls y =>
        simp only [Den] at dy
        subst dx
        obtain ⟨a2, its2, rfl, p2, d2⟩ := dy
        simp only [eqR, Bool.not_false, Bool.not_true]
        exact EqAt.none_list p2 hu0
      | ref y => exact (by simpa only [Den] using dy : False).elim
      | ty y => exact (by simpa only [Den] using dy : False).elim
    | bl x =>
      simp only [Den] at dx
      cases y with
      | non =>
        simp only [Den] at dy
        subst dx
        subst dy
        simp only [eqR, Bool.not_false, Bool.not_true]
        exact EqAt.bool_none _
      | bl y =>
        simp only [Den] at dy
        subst dx
        subst dy
        simp only [eqR, Bool.not_false, Bool.not_true]
        exact EqAt.bool_bool _ _
      | int y =>
        simp only [Den] at dy
        subst dx
        obtain ⟨t2, rfl⟩ := dy
        simp only [eqR, Bool.not_false, Bool.not_true]
        exact EqAt.bool_int _ _ _
      | str y =>
        simp only [Den] at dy
        subst dx
        obtain ⟨t2, rfl⟩ := dy
        simp only [eqR, Bool.not_false, Bool.not_true]
        exact EqAt.bool_str _ _ _
      | tup y =>
        simp only [Den] at dy
        subst dx
        obtain ⟨a2, its2, rfl, p2, d2⟩ := dy
        simp only [eqR, Bool.not_false, Bool.not_true]
        exact EqAt.bool_tuple _ p2 hu0
      | ls y =>
        simp only [Den] at dy
        subst dx
        obtain ⟨a2, its2, rfl, p2, d2⟩ := dy
        simp only [eqR, Bool.not_false, Bool.not_true]
        exact EqAt.bool_list _ p2 hu0
      | ref y => exact (by simpa only [Den] using dy : False).elim
      | ty y => exact (by simpa only [Den] using dy : False).elim
    | int x =>
      simp only [Den] at dx
      cases y with
      | non =>
        simp only [Den] at dy
        obtain ⟨t1, rfl⟩ := dx
        subst dy
        simp only [eqR, Bool.not_false, Bool.not_true]
        exact EqAt.int_none _ _
      | bl y =>
        simp only [Den] at dy
        obtain ⟨t1, rfl⟩ := dx
        subst dy
        simp only [eqR, Bool.not_false, Bool.not_true]
        exact EqAt.int_bool _ _ _
      | int y =>
        simp only [Den] at dy
        obtain ⟨t1, rfl⟩ := dx
        obtain ⟨t2, rfl⟩ := dy
        simp only [eqR, Bool.not_false, Bool.not_true]
        exact EqAt.int_int _ _ _ _
      | str y =>
        simp only [Den] at dy
        obtain ⟨t1, rfl⟩ := dx
        obtain ⟨t2, rfl⟩ := dy
        simp only [eqR, Bool.not_false, Bool.not_true]
        exact EqAt.int_str _ _ _ _
      | tup y =>
        simp only [Den] at dy
        obtain ⟨t1, rfl⟩ := dx
        obtain ⟨a2, its2, rfl, p2, d2⟩ := dy
        simp only [eqR, Bool.not_false, Bool.not_true]
        exact EqAt.int_tuple _ _ p2 hu0
      | ls y =>
        simp only [Den] at dy
        obtain ⟨t1, rfl⟩ := dx
        obtain ⟨a2, its2, rfl, p2, d2⟩ := dy
        simp only [eqR, Bool.not_false, Bool.not_true]
        exact EqAt.int_list _ _ p2 hu0
      | ref y => exact (by simpa only [Den] using dy : False).elim
      | ty y => exact (by simpa only [Den] using dy : False).elim
    | str x =>
      simp only [Den] at dx
      cases y with
      | non =>
        simp only [Den] at dy
        obtain ⟨t1, rfl⟩ := dx
        subst dy
        simp only [eqR, Bool.not_false, Bool.not_true]
        exact EqAt.str_none _ _
      | bl y =>
        simp only [Den] at dy
        obtain ⟨t1, rfl⟩ := dx
        subst dy
        simp only [eqR, Bool.not_false, Bool.not_true]
        exact EqAt.str_bool _ _ _
      | int y =>
        simp only [Den] at dy
        obtain ⟨t1, rfl⟩ := dx
        obtain ⟨t2, rfl⟩ := dy
        simp only [eqR, Bool.not_false, Bool.not_true]
        exact EqAt.str_int _ _ _ _
      | str y =>
        simp only [Den] at dy
        obtain ⟨t1, rfl⟩ := dx
        obtain ⟨t2, rfl⟩ := dy
        simp only [eqR, Bool.not_false, Bool.not_true]
        exact EqAt.str_str _ _ _ _
      | tup y =>
        simp only [Den] at dy
        obtain ⟨t1, rfl⟩ := dx
        obtain ⟨a2, its2, rfl, p2, d2⟩ := dy
        simp only [eqR, Bool.not_false, Bool.not_true]
        exact EqAt.str_tuple _ _ p2 hu0
      | ls y =>
        simp only [Den] at dy
        obtain ⟨t1, rfl⟩ := dx
        obtain ⟨a2, its2, rfl, p2, d2⟩ := dy
        simp only [eqR, Bool.not_false, Bool.not_true]
        exact EqAt.str_list _ _ p2 hu0
      | ref y => exact (by simpa only [Den] using dy : False).elim
      | ty y => exact (by simpa only [Den] using dy : False).elim
    | tup x =>
      simp only [Den] at dx
      cases y with
      | non =>
        simp only [Den] at dy
        obtain ⟨a1, its1, rfl, p1, d1⟩ := dx
        subst dy
        simp only [eqR, Bool.not_false, Bool.not_true]
        exact EqAt.tuple_none p1 hu0
      | bl y =>
        simp only [Den] at dy
        obtain ⟨a1, its1, rfl, p1, d1⟩ := dx
        subst dy
        simp only [eqR, Bool.not_false, Bool.not_true]
        exact EqAt.tuple_bool _ p1 hu0
      | int y =>
        simp only [Den] at dy
        obtain ⟨a1, its1, rfl, p1, d1⟩ := dx
        obtain ⟨t2, rfl⟩ := dy
        simp only [eqR, Bool.not_false, Bool.not_true]
        exact EqAt.tuple_int _ _ p1 hu0
      | str y =>
        simp only [Den] at dy
        obtain ⟨a1, its1, rfl, p1, d1⟩ := dx
        obtain ⟨t2, rfl⟩ := dy
        simp only [eqR, Bool.not_false, Bool.not_true]
        exact EqAt.tuple_str _ _ p1 hu0
      | tup y =>
        simp only [Den] at dy
        obtain ⟨a1, its1, rfl, p1, d1⟩ := dx
        obtain ⟨a2, its2, rfl, p2, d2⟩ := dy
        exact same_EqAt_tup x y _ _ _ _ p1 p2 d1 d2 ox oy
      | ls y =>
        simp only [Den] at dy
        obtain ⟨a1, its1, rfl, p1, d1⟩ := dx
        obtain ⟨a2, its2, rfl, p2, d2⟩ := dy
        simp only [eqR, Bool.not_false, Bool.not_true]
        exact EqAt.tuple_list p1 p2 hu0
      | ref y => exact (by simpa only [Den] using dy : False).elim
      | ty y => exact (by simpa only [Den] using dy : False).elim
    | ls x =>
      simp only [Den] at dx
      cases y with
      | non =>
        simp only [Den] at dy
        obtain ⟨a1, its1, rfl, p1, d1⟩ := dx
        subst dy
        simp only [eqR, Bool.not_false, Bool.not_true]
        exact EqAt.list_none p1 hu0
      | bl y =>
        simp only [Den] at dy
        obtain ⟨a1, its1, rfl, p1, d1⟩ := dx
        subst dy
        simp only [eqR, Bool.not_false, Bool.not_true]
        exact EqAt.list_bool _ p1 hu0
      | int y =>
        simp only [Den] at dy
        obtain ⟨a1, its1, rfl, p1, d1⟩ := dx
        obtain ⟨t2, rfl⟩ := dy
        simp only [eqR, Bool.not_false, Bool.not_true]
        exact EqAt.list_int _ _ p1 hu0
      | str y =>
        simp only [Den] at dy
        obtain ⟨a1, its1, rfl, p1, d1⟩ := dx
        obtain ⟨t2, rfl⟩ := dy
        simp only [eqR, Bool.not_false, Bool.not_true]
        exact EqAt.list_str _ _ p1 hu0
      | tup y =>
        simp only [Den] at dy
        obtain ⟨a1, its1, rfl, p1, d1⟩ := dx
        obtain ⟨a2, its2, rfl, p2, d2⟩ := dy
        simp only [eqR, Bool.not_false, Bool.not_true]
        exact EqAt.list_tuple p1 p2 hu0
      | ls y =>
        simp only [Den] at dy
        obtain ⟨a1, its1, rfl, p1, d1⟩ := dx
        obtain ⟨a2, its2, rfl, p2, d2⟩ := dy
        exact same_EqAt_ls x y _ _ _ _ p1 p2 d1 d2 ox oy
      | ref y => exact (by simpa only [Den] using dy : False).elim
      | ty y => exact (by simpa only [Den] using dy : False).elim
    | ref x => exact (by simpa only [Den] using dx : False).elim
    | ty x => exact (by simpa only [Den] using dx : False).elim
theorem rcNeAt_den (n : Nat) (x y : RV) (A : Around) (s : Shared) (u w : Value) (ox : okR (n + 1) x = true) (oy : okR (n + 1) y = true) (dx : Den s.heap x u) (dy : Den s.heap y w) (hu : A.units + (n + 1) < cLine) : RcNeAt A s u w (!eqR x y) := by
    have hu0 : A.units < cLine := by omega
    have item : ∀ (xs ys : List RV) (us ws : List Value), xs.all (okR n) = true → ys.all (okR n) = true → Dens s.heap xs us → Dens s.heap ys ws →
        ∀ j (j1 : j < us.toArray.size) (j2 : j < ws.toArray.size), EqAt A.in1 s us.toArray[j] ws.toArray[j] (pairR xs ys j) := fun xs ys us ws o1 o2 d1 d2 j j1 j2 => by
      obtain ⟨a1, b1⟩ := d1.get (j := j) (u := us.toArray[j]) (by simp)
      obtain ⟨a2, b2⟩ := d2.get (j := j) (u := ws.toArray[j]) (by simp)
      exact eqAt_den n _ _ A.in1 s _ _ (List.all_eq_true.mp o1 _ b1) (List.all_eq_true.mp o2 _ b2) a1 a2 (by rw [in1_units]; omega)
    have same_RcNeAt_tup : ∀ (xs ys : List RV) (a a' : Addr) (its its' : List Value), s.heap.IsTuple a its.toArray → s.heap.IsTuple a' its'.toArray → Dens s.heap xs its → Dens s.heap ys its' → okR (n + 1) (.tup xs) = true → okR (n + 1) (.tup ys) = true → RcNeAt A s (.ref a) (.ref a') (!eqR (RV.tup xs) (RV.tup ys)) := by
      intro xs ys a a' its its' p p' d d' ox oy
      rw [eqR, ← eqRs_eq, d.length, d'.length]
      have := RcNeAt.tuples p p' hu0 (item xs ys its its' ox oy d d')
      simpa using this
    have same_RcNeAt_ls : ∀ (xs ys : List RV) (a a' : Addr) (its its' : List Value), s.heap.IsList a its.toArray → s.heap.IsList a' its'.toArray → Dens s.heap xs its → Dens s.heap ys its' → okR (n + 1) (.ls xs) = true → okR (n + 1) (.ls ys) = true → RcNeAt A s (.ref a) (.ref a') (!eqR (RV.ls xs) (RV.ls ys)) := by
      intro xs ys a a' its its' p p' d d' ox oy
      rw [eqR]
      by_cases hz : xs.length = ys.length
      · rw [← eqRs_same hz, d.length]
        have := RcNeAt.lists p p' (by simp [← d.length, ← d'.length, hz]) hu0 (item xs ys its its' ox oy d d')
        simpa using this
      · rw [eqRs_other hz]
        exact RcNeAt.lists_lengths p p' (by simp [← d.length, ← d'.length, hz]) hu0
    cases x with
    | non =>
      simp only [Den] at dx
      cases y with
      | non =>
        simp only [Den] at dy
        subst dx
        subst dy
        simp only [eqR, Bool.not_false, Bool.not_true]
        exact RcNeAt.none_none
      | bl y =>
        simp only [Den] at dy
        subst dx
        subst dy
        simp only [eqR, Bool.not_false, Bool.not_true]
        exact RcNeAt.none_bool _
      | int y =>
        simp only [Den] at dy
        subst dx
        obtain ⟨t2, rfl⟩ := dy
        simp only [eqR, Bool.not_false, Bool.not_true]
        exact RcNeAt.none_int _ _
      | str y =>
        simp only [Den] at dy
        subst dx
        obtain ⟨t2, rfl⟩ := dy
        simp only [eqR, Bool.not_false, Bool.not_true]
        exact RcNeAt.none_str _ _
      | tup y =>
        simp only [Den] at dy
        subst dx
        obtain ⟨a2, its2, rfl, p2, d2⟩ := dy
        simp only [eqR, Bool.not_false, Bool.not_true]
        exact RcNeAt.none_tuple p2 hu0
      | ls y =>
        simp only [Den] at dy
        subst dx
        obtain ⟨a2, its2, rfl, p2, d2⟩ := dy
        simp only [eqR, Bool.not_false, Bool.not_true]
        exact RcNeAt.none_list p2 hu0
      | ref y => exact (by simpa only [Den] using dy : False).elim
      | ty y => exact (by simpa only [Den] using dy : False).elim
    | bl x =>
      simp only [Den] at dx
      cases y with
      | non =>
        simp only [Den] at dy
        subst dx
        subst dy
        simp only [eqR, Bool.not_false, Bool.not_true]
        exact RcNeAt.bool_none _
      | bl y =>
        simp only [Den] at dy
        subst dx
        subst dy
        simp only [eqR, Bool.not_false, Bool.not_true]
        exact RcNeAt.bool_bool _ _
      | int y =>
        simp only [Den] at dy
        subst dx
        obtain ⟨t2, rfl⟩ := dy
        simp only [eqR, Bool.not_false, Bool.not_true]
        exact RcNeAt.bool_int _ _ _
      | str y =>
        simp only [Den] at dy
        subst dx
        obtain ⟨t2, rfl⟩ := dy
        simp only [eqR, Bool.not_false, Bool.not_true]
        exact RcNeAt.bool_str _ _ _
      | tup y =>
        simp only [Den] at dy
        subst dx
        obtain ⟨a2, its2, rfl, p2, d2⟩ := dy
        simp only [eqR, Bool.not_false, Bool.not_true]
        exact RcNeAt.bool_tuple _ p2 hu0
      | ls y =>
        simp only [Den] at dy
        subst dx
        obtain ⟨a2, its2, rfl, p2, d2⟩ := dy
        simp only [eqR, Bool.not_false, Bool.not_true]
        exact RcNeAt.bool_list _ p2 hu0
      | ref y => exact (by simpa only [Den] using dy : False).elim
      | ty y => exact (by simpa only [Den] using dy : False).elim
    | int x =>
      simp only [Den] at dx
      cases y with
      | non =>
        simp only [Den] at dy
        obtain ⟨t1, rfl⟩ := dx
        subst dy
        simp only [eqR, Bool.not_false, Bool.not_true]
        exact RcNeAt.int_none _ _
      | bl y =>
        simp only [Den] at dy
        obtain ⟨t1, rfl⟩ := dx
        subst dy
        simp only [eqR, Bool.not_false, Bool.not_true]
        exact RcNeAt.int_bool _ _ _
      | int y =>
        simp only [Den] at dy
        obtain ⟨t1, rfl⟩ := dx
        obtain ⟨t2, rfl⟩ := dy
        simp only [eqR, Bool.not_false, Bool.not_true]
        exact RcNeAt.int_int _ _ _ _
      | str y =>
        simp only [Den] at dy
        obtain ⟨t1, rfl⟩ := dx
        obtain ⟨t2, rfl⟩ := dy
        simp only [eqR, Bool.not_false, Bool.not_true]
        exact RcNeAt.int_str _ _ _ _
      | tup y =>
        simp only [Den] at dy
        obtain ⟨t1, rfl⟩ := dx
        obtain ⟨a2, its2, rfl, p2, d2⟩ := dy
        simp only [eqR, Bool.not_false, Bool.not_true]
        exact RcNeAt.int_tuple _ _ p2 hu0
      | ls y =>
        simp only [Den] at dy
        obtain ⟨t1, rfl⟩ := dx
        obtain ⟨a2, its2, rfl, p2, d2⟩ := dy
        simp only [eqR, Bool.not_false, Bool.not_true]
        exact RcNeAt.int_list _ _ p2 hu0
      | ref y => exact (by simpa only [Den] using dy : False).elim
      | ty y => exact (by simpa only [Den] using dy : False).elim
    | str x =>
      simp only [Den] at dx
      cases y with
      | non =>
        simp only [Den] at dy
        obtain ⟨t1, rfl⟩ := dx
        subst dy
        simp only [eqR, Bool.not_false, Bool.not_true]
        exact RcNeAt.str_none _ _
      | bl y =>
        simp only [Den] at dy
        obtain ⟨t1, rfl⟩ := dx
        subst dy
        simp only [eqR, Bool.not_false, Bool.not_true]
        exact RcNeAt.str_bool _ _ _
      | int y =>
        simp only [Den] at dy
        obtain ⟨t1, rfl⟩ := dx
        obtain ⟨t2, rfl⟩ := dy
        simp only [eqR, Bool.not_false, Bool.not_true]
        exact RcNeAt.str_int _ _ _ _
      | str y =>
        simp only [Den] at dy
        obtain ⟨t1, rfl⟩ := dx
        obtain ⟨t2, rfl⟩ := dy
        simp only [eqR, Bool.not_false, Bool.not_true]
        exact RcNeAt.str_str _ _ _ _
      | tup y =>
        simp only [Den] at dy
        obtain ⟨t1, rfl⟩ := dx
        obtain ⟨a2, its2, rfl, p2, d2⟩ := dy
        simp only [eqR, Bool.not_false, Bool.not_true]
        exact RcNeAt.str_tuple _ _ p2 hu0
      | ls y =>
        simp only [Den] at dy
        obtain ⟨t1, rfl⟩ := dx
        obtain ⟨a2, its2, rfl, p2, d2⟩ := dy
        simp only [eqR, Bool.not_false, Bool.not_true]
        exact RcNeAt.str_list _ _ p2 hu0
      | ref y => exact (by simpa only [Den] using dy : False).elim
      | ty y => exact (by simpa only [Den] using dy : False).elim
    | tup x =>
      simp only [Den] at dx
      cases y with
      | non =>
        simp only [Den] at dy
        obtain ⟨a1, its1, rfl, p1, d1⟩ := dx
        subst dy
        simp only [eqR, Bool.not_false, Bool.not_true]
        exact RcNeAt.tuple_none p1 hu0
      | bl y =>
        simp only [Den] at dy
        obtain ⟨a1, its1, rfl, p1, d1⟩ := dx
        subst dy
        simp only [eqR, Bool.not_false, Bool.not_true]
        exact RcNeAt.tuple_bool _ p1 hu0
      | int y =>
        simp only [Den] at dy
        obtain ⟨a1, its1, rfl, p1, d1⟩ := dx
        obtain ⟨t2, rfl⟩ := dy
        simp only [eqR, Bool.not_false, Bool.not_true]
        exact RcNeAt.tuple_int _ _ p1 hu0
      | str y =>
        simp only [Den] at dy
        obtain ⟨a1, its1, rfl, p1, d1⟩ := dx
        obtain ⟨t2, rfl⟩ := dy
        simp only [eqR, Bool.not_false, Bool.not_true]
        exact RcNeAt.tuple_str _ _ p1 hu0
      | tup y =>
        simp only [Den] at dy
        obtain ⟨a1, its1, rfl, p1, d1⟩ := dx
        obtain ⟨a2, its2, rfl, p2, d2⟩ := dy
        exact same_RcNeAt_tup x y _ _ _ _ p1 p2 d1 d2 ox oy
      | ls y =>
        simp only [Den] at dy
        obtain ⟨a1, its1, rfl, p1, d1⟩ := dx
        obtain ⟨a2, its2, rfl, p2, d2⟩ := dy
        simp only [eqR, Bool.not_false, Bool.not_true]
        exact RcNeAt.tuple_list p1 p2 hu0
      | ref y => exact (by simpa only [Den] using dy : False).elim
      | ty y => exact (by simpa only [Den] using dy : False).elim
    | ls x =>
      simp only [Den] at dx
      cases y with
      | non =>
        simp only [Den] at dy
        obtain ⟨a1, its1, rfl, p1, d1⟩ := dx
        subst dy
        simp only [eqR, Bool.not_false, Bool.not_true]
        exact RcNeAt.list_none p1 hu0
      | bl y =>
        simp only [Den] at dy
        obtain ⟨a1, its1, rfl, p1, d1⟩ := dx
        subst dy
        simp only [eqR, Bool.not_false, Bool.not_true]
        exact RcNeAt.list_bool _ p1 hu0
      | int y =>
        simp only [Den] at dy
        obtain ⟨a1, its1, rfl, p1, d1⟩ := dx
        obtain ⟨t2, rfl⟩ := dy
        simp only [eqR, Bool.not_false, Bool.not_true]
        exact RcNeAt.list_int _ _ p1 hu0
      | str y =>
        simp only [Den] at dy
        obtain ⟨a1, its1, rfl, p1, d1⟩ := dx
        obtain ⟨t2, rfl⟩ := dy
        simp only [eqR, Bool.not_false, Bool.not_true]
        exact RcNeAt.list_str _ _ p1 hu0
      | tup y =>
        simp only [Den] at dy
        obtain ⟨a1, its1, rfl, p1, d1⟩ := dx
        obtain ⟨a2, its2, rfl, p2, d2⟩ := dy
        simp only [eqR, Bool.not_false, Bool.not_true]
        exact RcNeAt.list_tuple p1 p2 hu0
      | ls y =>
        simp only [Den] at dy
        obtain ⟨a1, its1, rfl, p1, d1⟩ := dx
        obtain ⟨a2, its2, rfl, p2, d2⟩ := dy
        exact same_RcNeAt_ls x y _ _ _ _ p1 p2 d1 d2 ox oy
      | ref y => exact (by simpa only [Den] using dy : False).elim
      | ty y => exact (by simpa only [Den] using dy : False).elim
    | ref x => exact (by simpa only [Den] using dx : False).elim
    | ty x => exact (by simpa only [Den] using dx : False).elim
theorem rcAt_den (n : Nat) (x y : RV) (A : Around) (s : Shared) (u w : Value) (ox : okR (n + 1) x = true) (oy : okR (n + 1) y = true) (dx : Den s.heap x u) (dy : Den s.heap y w) (hu : A.units + (n + 1) < cLine) : RcAt A s u w (eqR x y) := by
    have hu0 : A.units < cLine := by omega
    have item : ∀ (xs ys : List RV) (us ws : List Value), xs.all (okR n) = true → ys.all (okR n) = true → Dens s.heap xs us → Dens s.heap ys ws →
        ∀ j (j1 : j < us.toArray.size) (j2 : j < ws.toArray.size), EqAt A.in1 s us.toArray[j] ws.toArray[j] (pairR xs ys j) := fun xs ys us ws o1 o2 d1 d2 j j1 j2 => by
      obtain ⟨a1, b1⟩ := d1.get (j := j) (u := us.toArray[j]) (by simp)
      obtain ⟨a2, b2⟩ := d2.get (j := j) (u := ws.toArray[j]) (by simp)
      exact eqAt_den n _ _ A.in1 s _ _ (List.all_eq_true.mp o1 _ b1) (List.all_eq_true.mp o2 _ b2) a1 a2 (by rw [in1_units]; omega)
    have same_RcAt_tup : ∀ (xs ys : List RV) (a a' : Addr) (its its' : List Value), s.heap.IsTuple a its.toArray → s.heap.IsTuple a' its'.toArray → Dens s.heap xs its → Dens s.heap ys its' → okR (n + 1) (.tup xs) = true → okR (n + 1) (.tup ys) = true → RcAt A s (.ref a) (.ref a') (eqR (RV.tup xs) (RV.tup ys)) := by
      intro xs ys a a' its its' p p' d d' ox oy
      rw [eqR, ← eqRs_eq, d.length, d'.length]
      have := RcAt.tuples p p' hu0 (item xs ys its its' ox oy d d')
      simpa using this
    have same_RcAt_ls : ∀ (xs ys : List RV) (a a' : Addr) (its its' : List Value), s.heap.IsList a its.toArray → s.heap.IsList a' its'.toArray → Dens s.heap xs its → Dens s.heap ys its' → okR (n + 1) (.ls xs) = true → okR (n + 1) (.ls ys) = true → RcAt A s (.ref a) (.ref a') (eqR (RV.ls xs) (RV.ls ys)) := by
      intro xs ys a a' its its' p p' d d' ox oy
      rw [eqR]
      by_cases hz : xs.length = ys.length
      · rw [← eqRs_same hz, d.length]
        have := RcAt.lists p p' (by simp [← d.length, ← d'.length, hz]) hu0 (item xs ys its its' ox oy d d')
        simpa using this
      · rw [eqRs_other hz]
        exact RcAt.lists_lengths p p' (by simp [← d.length, ← d'.length, hz]) hu0
    cases x with
    | non =>
      simp only [Den] at dx
      cases y with
      | non =>
        simp only [Den] at dy
        subst dx
        subst dy
        simp only [eqR, Bool.not_false, Bool.not_true]
        exact RcAt.none_none
      | bl y =>
        simp only [Den] at dy
        subst dx
        subst dy
        simp only [eqR, Bool.not_false, Bool.not_true]
        exact RcAt.none_bool _
      | int y =>
        simp only [Den] at dy
        subst dx
        obtain ⟨t2, rfl⟩ := dy
        simp only [eqR, Bool.not_false, Bool.not_true]
        exact RcAt.none_int _ _
      | str y =>
        simp only [Den] at dy
        subst dx
        obtain ⟨t2, rfl⟩ := dy
        simp only [eqR, Bool.not_false, Bool.not_true]
        exact RcAt.none_str _ _
      | tup y =>
        simp only [Den] at dy
        subst dx
        obtain ⟨a2, its2, rfl, p2, d2⟩ := dy
        simp only [eqR, Bool.not_false, Bool.not_true]
        exact RcAt.none_tuple p2 hu0
      | ls y =>
        simp only [Den] at dy
        subst dx
        obtain ⟨a2, its2, rfl, p2, d2⟩ := dy
        simp only [eqR, Bool.not_false, Bool.not_true]
        exact RcAt.none_list p2 hu0
      | ref y => exact (by simpa only [Den] using dy : False).elim
      | ty y => exact (by simpa only [Den] using dy : False).elim
    | bl x =>
      simp only [Den] at dx
      cases y with
      | non =>
        simp only [Den] at dy
        subst dx
        subst dy
        simp only [eqR, Bool.not_false, Bool.not_true]
        exact RcAt.bool_none _
      | bl y =>
        simp only [Den] at dy
        subst dx
        subst dy
        simp only [eqR, Bool.not_false, Bool.not_true]
        exact RcAt.bool_bool _ _
      | int y =>
        simp only [Den] at dy
        subst dx
        obtain ⟨t2, rfl⟩ := dy
        simp only [eqR, Bool.not_false, Bool.not_true]
        exact RcAt.bool_int _ _ _
      | str y =>
        simp only [Den] at dy
        subst dx
        obtain ⟨t2, rfl⟩ := dy
        simp only [eqR, Bool.not_false, Bool.not_true]
        exact RcAt.bool_str _ _ _
      | tup y =>
        simp only [Den] at dy
        subst dx
        obtain ⟨a2, its2, rfl, p2, d2⟩ := dy
        simp only [eqR, Bool.not_false, Bool.not_true]
        exact RcAt.bool_tuple _ p2 hu0
      | ls y =>
        simp only [Den] at dy
        subst dx
        obtain ⟨a2, its2, rfl, p2, d2⟩ := dy
        simp only [eqR, Bool.not_false, Bool.not_true]
        exact RcAt.bool_list _ p2 hu0
      | ref y => exact (by simpa only [Den] using dy : False).elim
      | ty y => exact (by simpa only [Den] using dy : False).elim
    | int x =>
      simp only [Den] at dx
      cases y with
      | non =>
        simp only [Den] at dy
        obtain ⟨t1, rfl⟩ := dx
        subst dy
        simp only [eqR, Bool.not_false, Bool.not_true]
        exact RcAt.int_none _ _
      | bl y =>
        simp only [Den] at dy
        obtain ⟨t1, rfl⟩ := dx
        subst dy
        simp only [eqR, Bool.not_false, Bool.not_true]
        exact RcAt.int_bool _ _ _
      | int y =>
        simp only [Den] at dy
        obtain ⟨t1, rfl⟩ := dx
        obtain ⟨t2, rfl⟩ := dy
        simp only [eqR, Bool.not_false, Bool.not_true]
        exact RcAt.int_int _ _ _ _
      | str y =>
        simp only [Den] at dy
        obtain ⟨t1, rfl⟩ := dx
        obtain ⟨t2, rfl⟩ := dy
        simp only [eqR, Bool.not_false, Bool.not_true]
        exact RcAt.int_str _ _ _ _
      | tup y =>
        simp only [Den] at dy
        obtain ⟨t1, rfl⟩ := dx
        obtain ⟨a2, its2, rfl, p2, d2⟩ := dy
        simp only [eqR, Bool.not_false, Bool.not_true]
        exact RcAt.int_tuple _ _ p2 hu0
      | ls y =>
        simp only [Den] at dy
        obtain ⟨t1, rfl⟩ := dx
        obtain ⟨a2, its2, rfl, p2, d2⟩ := dy
        simp only [eqR, Bool.not_false, Bool.not_true]
        exact RcAt.int_list _ _ p2 hu0
      | ref y => exact (by simpa only [Den] using dy : False).elim
      | ty y => exact (by simpa only [Den] using dy : False).elim
    | str x =>
      simp only [Den] at dx
      cases y with
      | non =>
        simp only [Den] at dy
        obtain ⟨t1, rfl⟩ := dx
        subst dy
        simp only [eqR, Bool.not_false, Bool.not_true]
        exact RcAt.str_none _ _
      | bl y =>
        simp only [Den] at dy
        obtain ⟨t1, rfl⟩ := dx
        subst dy
        simp only [eqR, Bool.not_false, Bool.not_true]
        exact RcAt.str_bool _ _ _
      | int y =>
        simp only [Den] at dy
        obtain ⟨t1, rfl⟩ := dx
        obtain ⟨t2, rfl⟩ := dy
        simp only [eqR, Bool.not_false, Bool.not_true]
        exact RcAt.str_int _ _ _ _
      | str y =>
        simp only [Den] at dy
        obtain ⟨t1, rfl⟩ := dx
        obtain ⟨t2, rfl⟩ := dy
        simp only [eqR, Bool.not_false, Bool.not_true]
        exact RcAt.str_str _ _ _ _
      | tup y =>
        simp only [Den] at dy
        obtain ⟨t1, rfl⟩ := dx
        obtain ⟨a2, its2, rfl, p2, d2⟩ := dy
        simp only [eqR, Bool.not_false, Bool.not_true]
        exact RcAt.str_tuple _ _ p2 hu0
      | ls y =>
        simp only [Den] at dy
        obtain ⟨t1, rfl⟩ := dx
        obtain ⟨a2, its2, rfl, p2, d2⟩ := dy
        simp only [eqR, Bool.not_false, Bool.not_true]
        exact RcAt.str_list _ _ p2 hu0
      | ref y => exact (by simpa only [Den] using dy : False).elim
      | ty y => exact (by simpa only [Den] using dy : False).elim
    | tup x =>
      simp only [Den] at dx
      cases y with
      | non =>
        simp only [Den] at dy
        obtain ⟨a1, its1, rfl, p1, d1⟩ := dx
        subst dy
        simp only [eqR, Bool.not_false, Bool.not_true]
        exact RcAt.tuple_none p1 hu0
      | bl y =>
        simp only [Den] at dy
        obtain ⟨a1, its1, rfl, p1, d1⟩ := dx
        subst dy
        simp only [eqR, Bool.not_false, Bool.not_true]
        exact RcAt.tuple_bool _ p1 hu0
      | int y =>
        simp only [Den] at dy
        obtain ⟨a1, its1, rfl, p1, d1⟩ := dx
        obtain ⟨t2, rfl⟩ := dy
        simp only [eqR, Bool.not_false, Bool.not_true]
        exact RcAt.tuple_int _ _ p1 hu0
      | str y =>
        simp only [Den] at dy
        obtain ⟨a1, its1, rfl, p1, d1⟩ := dx
        obtain ⟨t2, rfl⟩ := dy
        simp only [eqR, Bool.not_false, Bool.not_true]
        exact RcAt.tuple_str _ _ p1 hu0
      | tup y =>
        simp only [Den] at dy
        obtain ⟨a1, its1, rfl, p1, d1⟩ := dx
        obtain ⟨a2, its2, rfl, p2, d2⟩ := dy
        exact same_RcAt_tup x y _ _ _ _ p1 p2 d1 d2 ox oy
      | ls y =>
        simp only [Den] at dy
        obtain ⟨a1, its1, rfl, p1, d1⟩ := dx
        obtain ⟨a2, its2, rfl, p2, d2⟩ := dy
        simp only [eqR, Bool.not_false, Bool.not_true]
        exact RcAt.tuple_list p1 p2 hu0
      | ref y => exact (by simpa only [Den] using dy : False).elim
      | ty y => exact (by simpa only [Den] using dy : False).elim
    | ls x =>
      simp only [Den] at dx
      cases y with
      | non =>
        simp only [Den] at dy
        obtain ⟨a1, its1, rfl, p1, d1⟩ := dx
        subst dy
        simp only [eqR, Bool.not_false, Bool.not_true]
        exact RcAt.list_none p1 hu0
      | bl y =>
        simp only [Den] at dy
        obtain ⟨a1, its1, rfl, p1, d1⟩ := dx
        subst dy
        simp only [eqR, Bool.not_false, Bool.not_true]
        exact RcAt.list_bool _ p1 hu0
      | int y =>
        simp only [Den] at dy
        obtain ⟨a1, its1, rfl, p1, d1⟩ := dx
        obtain ⟨t2, rfl⟩ := dy
        simp only [eqR, Bool.not_false, Bool.not_true]
        exact RcAt.list_int _ _ p1 hu0
      | str y =>
        simp only [Den] at dy
        obtain ⟨a1, its1, rfl, p1, d1⟩ := dx
        obtain ⟨t2, rfl⟩ := dy
        simp only [eqR, Bool.not_false, Bool.not_true]
        exact RcAt.list_str _ _ p1 hu0
      | tup y =>
        simp only [Den] at dy
        obtain ⟨a1, its1, rfl, p1, d1⟩ := dx
        obtain ⟨a2, its2, rfl, p2, d2⟩ := dy
        simp only [eqR, Bool.not_false, Bool.not_true]
        exact RcAt.list_tuple p1 p2 hu0
      | ls y =>
        simp only [Den] at dy
        obtain ⟨a1, its1, rfl, p1, d1⟩ := dx
        obtain ⟨a2, its2, rfl, p2, d2⟩ := dy
        exact same_RcAt_ls x y _ _ _ _ p1 p2 d1 d2 ox oy
      | ref y => exact (by simpa only [Den] using dy : False).elim
      | ty y => exact (by simpa only [Den] using dy : False).elim
    | ref x => exact (by simpa only [Den] using dx : False).elim
    | ty x => exact (by simpa only [Den] using dx : False).elim
end R

set_option Elab.async false
set_option linter.all false
set_option maxRecDepth 100000
set_option maxHeartbeats 1000000
namespace R
open PySem PySem.Spec PyProof.Rows L2
section
variable {X : Cx}
/-! ### ints -/
theorem ropI {f : Value → Value → Sem Value} {r : R2} {rr : RR2} (h : OpR X f r) (ri : ∀ (i j : Int) M Q (H : Hp) (Q0 : VK), rr (.int i) (.int j) M Q → (∀ z : RV, Q z M → ∀ v, Rep X.K H z v → Q0 v H) → r (.int i) (.int j) H Q0)
    (no : ∀ x y M Q, rr x y M Q → ∃ i j, x = .int i ∧ y = .int j) : ROp X f rr := by
  intro pins s σ H x y v u Q0 I rx ry h'
  obtain ⟨a, b, M, Q, ra, rb, hv, hq, hk⟩ := h'
  obtain ⟨i, j, rfl, rfl⟩ := no a b M Q hq
  simp only [Rep] at ra rb
  subst ra; subst rb
  exact h pins s σ H _ _ v u Q0 I rx ry (ri i j M Q H Q0 hq fun z q v' rz => hk z M v' H q (.refl H) hv rz)
def rInt2 (C : Int → Int → Prop) (g : Int → Int → RV) : RR2 := fun x y M Q => match x, y with | .int i, .int j => C i j ∧ Q (g i j) M | _, _ => False
def rInt0 (g : Int → Int → RV) : RR2 := fun x y M Q => match x, y with | .int i, .int j => Q (g i j) M | _, _ => False
theorem rInt2_no {C : Int → Int → Prop} {g : Int → Int → RV} (x y : RV) (M : RM) (Q : RVK) (h : rInt2 C g x y M Q) : ∃ i j, x = .int i ∧ y = .int j := by
  unfold rInt2 at h
  split at h
  · exact ⟨_, _, rfl, rfl⟩
  · exact h.elim
theorem rInt0_no {g : Int → Int → RV} (x y : RV) (M : RM) (Q : RVK) (h : rInt0 g x y M Q) : ∃ i j, x = .int i ∧ y = .int j := by
  unfold rInt0 at h
  split at h
  · exact ⟨_, _, rfl, rfl⟩
  · exact h.elim
abbrev rSub : RR2 := rInt0 fun i j => .int (i - j)
theorem osub : ROp X (binaryOp .Sub) rSub := ropI op_sub (fun i j M Q H Q0 h k => ⟨i, j, rfl, rfl, k _ h _ (by simp only [Rep])⟩) rInt0_no
abbrev rMod : RR2 := rInt2 (fun _ j => 0 < j) fun i j => .int (i % j)
theorem omod : ROp X (binaryOp .Mod) rMod := ropI op_mod (fun i j M Q H Q0 h k => ⟨i, j, rfl, rfl, h.1, k _ h.2 _ (by simp only [Rep])⟩) rInt2_no
abbrev rDiv : RR2 := rInt2 (fun _ j => 0 < j ∧ j < 1073741824) fun i j => .int (i / j)
theorem odiv : ROp X (binaryOp .FloorDiv) rDiv := ropI op_fdiv (fun i j M Q H Q0 h k => ⟨i, j, rfl, rfl, h.1, k _ h.2 _ (by simp only [Rep])⟩) rInt2_no
abbrev rPow : RR2 := rInt2 (fun i j => 0 ≤ j ∧ j ≤ 1000000 ∧ i.natAbs < 2 ^ 64) fun i j => .int (i ^ j.toNat)
theorem opow : ROp X (binaryOp .Pow) rPow := ropI op_pow (fun i j M Q H Q0 h k => ⟨i, j, rfl, rfl, h.1, k _ h.2 _ (by simp only [Rep])⟩) rInt2_no
abbrev rShr : RR2 := rInt2 (fun _ j => 0 ≤ j) fun i j => .int (i / 2 ^ j.toNat)
theorem oshr : ROp X (binaryOp .RShift) rShr := ropI op_shr (fun i j M Q H Q0 h k => ⟨i, j, rfl, rfl, h.1, k _ h.2 _ (by simp only [Rep])⟩) rInt2_no
abbrev rBand : RR2 := rInt0 fun i j => .int (Builtin.bitAnd i j)
theorem oband : ROp X (binaryOp .BitAnd) rBand := ropI op_and (fun i j M Q H Q0 h k => ⟨i, j, rfl, rfl, k _ h _ (by simp only [Rep])⟩) rInt0_no
abbrev rLt : RR2 := rInt0 fun i j => .bl (decide (i < j))
theorem olt : ROp X (compareOp .Lt) rLt := ropI op_lt (fun i j M Q H Q0 h k => ⟨i, j, rfl, rfl, k _ h _ (by simp only [Rep])⟩) rInt0_no
abbrev rLe : RR2 := rInt0 fun i j => .bl (decide (i ≤ j))
theorem ole : ROp X (compareOp .LtE) rLe := ropI op_le (fun i j M Q H Q0 h k => ⟨i, j, rfl, rfl, k _ h _ (by simp only [Rep])⟩) rInt0_no
abbrev rGt : RR2 := rInt0 fun i j => .bl (decide (j < i))
theorem ogt : ROp X (compareOp .Gt) rGt := ropI op_gt (fun i j M Q H Q0 h k => ⟨i, j, rfl, rfl, k _ h _ (by simp only [Rep])⟩) rInt0_no
abbrev rGe : RR2 := rInt0 fun i j => .bl (decide (j ≤ i))
theorem oge : ROp X (compareOp .GtE) rGe := ropI op_ge (fun i j M Q H Q0 h k => ⟨i, j, rfl, rfl, k _ h _ (by simp only [Rep])⟩) rInt0_no
def rgNeg : RV → RM → RVK → Prop := fun x M Q => match x with | .int i => Q (.int (-i)) M | _ => False
theorem oneg : UnR X (unaryOp .USub) (upU X.K rgNeg) := by
  intro pins s σ H x v Q0 I rx h
  obtain ⟨a, M, Q, ra, hv, hq, hk⟩ := h
  cases a with
  | int i => simp only [Rep] at ra; exact un_neg pins s σ H x v Q0 I rx ⟨i, ra, hk _ M _ H hq (.refl H) hv (by simp only [Rep])⟩
  | _ => exact (show False from hq).elim
/-! ### products: ints, and a list that a display made, times an int -/
def rMul : RR2 := fun x y M Q => match x, y with
  | .int i, .int j => CMul i j ∧ Q (.int (i * j)) M
  | .ref a, .int k => ∃ xs, M a = some (.lst xs) ∧ -(2 ^ 63) ≤ k ∧ k < 2 ^ 63 ∧ xs.length * k.toNat ≤ sizeLine ∧ Q (.ls (List.replicate k.toNat xs).flatten) M
  | _, _ => False
theorem reps_flat {K : PySem.W.Frag} {H : Hp} {xs : List RV} {vs : List V} (r : Reps K H xs vs) : ∀ n : Nat, Reps K H (List.replicate n xs).flatten (List.replicate n vs).flatten
  | 0 => by simpa using Reps.nil
  | n + 1 => by
    rw [List.replicate_succ, List.flatten_cons, List.replicate_succ, List.flatten_cons]
    exact r.append (reps_flat r n)
theorem omul : ROp X (binaryOp .Mult) rMul := by
  intro pins s σ H x y v u Q0 I rx ry h
  obtain ⟨a, b, M, Q, ra, rb, hv, hq, hk⟩ := h
  cases a with
  | int i =>
    cases b with
    | int j => simp only [Rep] at ra rb; exact op_mul pins s σ H x y v u Q0 I rx ry ⟨i, j, ra, rb, hq.1, hk _ M _ H hq.2 (.refl H) hv (by simp only [Rep])⟩
    | _ => exact (show False from hq).elim
  | ref p =>
    cases b with
    | int k =>
      simp only [Rep] at ra rb
      obtain ⟨xs, hm, h1, h2, h3, h4⟩ := hq
      obtain ⟨ho, e, r⟩ := hv p _ hm
      obtain ⟨vs, rfl, rr⟩ := r
      refine thn (op_rep pins s σ H x y v u (fun v H' => ∃ H1 p xs, v = .ref p ∧ H1 p = none ∧ H' = upd H1 p (.lst xs) ∧ ∀ o, Q0 (.ref p) (upd H1 p (.frz o (.lst xs)))) I rx ry ⟨p, k, vs, ra, rb, e, h1, h2, by rw [← rr.length]; exact h3, fun q hq => ⟨H, q, _, rfl, hq, rfl, fun o => ?_⟩⟩) fun _ _ e => frozen e
      exact hk _ M _ _ h4 (Ext.new hq) (hv.new hq) (rep_ls hq (reps_flat rr _))
    | _ => exact (show False from hq).elim
  | _ => cases b <;> exact (show False from hq).elim
/-! ### + -/
def rAdd : RR2 := fun x y M Q => match x, y with
  | .int i, .int j => Q (.int (i + j)) M
  | .str i, .str j => i.length + j.length ≤ sizeLine ∧ Q (.str (i ++ j)) M
  | .tup xs, .tup ys => xs.length + ys.length ≤ sizeLine ∧ Q (.tup (xs ++ ys)) M
  | .ls xs, .ls ys => xs.length + ys.length ≤ sizeLine ∧ Q (.ls (xs ++ ys)) M
  | _, _ => False
theorem cat_tup0 {prog : Program} {w : World} {A : Around} {E : Value → Shared → Prop} {s : Shared} {t b : Addr} {ws : List Value} {Q : Value → Shared → Prop} (ht : IsTup s.heap t ([] : List Value).toArray) (hb : IsTup s.heap b ws.toArray) (h : Q (.ref b) s) :
    wpAny (model prog w) A (binaryOp .Add (.ref t) (.ref b)) Q E s := by
  obtain ⟨⟨cls, dd, data, sl⟩, ho, hc, n, hd⟩ := id ht
  obtain ⟨⟨cls2, dd2, data2, sl2⟩, ho2, hc2, n2, hd2⟩ := id hb
  simp only at hc hd hc2 hd2
  subst hc hd hc2 hd2
  exact concat_meets ⟨_, ho, rfl⟩ ⟨_, ho2, rfl⟩ noFill_tuple_add seq_tuple_add PySem.F.slot_tuple_add PySem.F.entry_tuple_add (PySem.F.args_tuple_add_2 _ _)
      (tuple_addW0 t b [].toArray ws.toArray n n2 dd dd2 sl sl2 (by simp)) ⟨ho, ho2, h⟩
theorem cat_lst {prog : Program} {w : World} {A : Around} {E : Value → Shared → Prop} {s : Shared} {l b : Addr} {vs ws : List Value} {Q : Value → Shared → Prop} (hl : s.heap.IsList l vs.toArray) (hb : s.heap.IsList b ws.toArray)
    (h : Q (.ref s.heap.objs.size) { s with heap := s.heap.push { cls := .type "list", data := .seq (vs ++ ws).toArray } }) (hsz : vs.length + ws.length ≤ sizeLine) :
    wpAny (model prog w) A (binaryOp .Add (.ref l) (.ref b)) Q E s := by
  obtain ⟨⟨cls, dd, data, sl⟩, ho, hc, n, hd⟩ := id hl
  obtain ⟨⟨cls2, dd2, data2, sl2⟩, ho2, hc2, n2, hd2⟩ := id hb
  simp only at hc hd hc2 hd2
  subst hc hd hc2 hd2
  have e : vs.toArray ++ ws.toArray = (vs ++ ws).toArray := by simp
  refine concat_meets ⟨_, ho, rfl⟩ ⟨_, ho2, rfl⟩ noFill_list_add seq_list_add PySem.F.slot_list_add PySem.F.entry_list_add (PySem.F.args_list_add_2 _ _) (list_addW l b vs.toArray ws.toArray n n2 dd dd2 sl sl2 (by simpa using hsz)) ⟨ho, ho2, ?_⟩
  rw [e]
  exact h
theorem oadd : ROp X (binaryOp .Add) rAdd := by
  intro pins s σ H x y v u Q0 I rx ry h
  obtain ⟨a, b, M, Q, ra, rb, hv, hq, hk⟩ := h
  cases a with
  | int i =>
    cases b with
    | int j => simp only [Rep] at ra rb; exact op_add pins s σ H x y v u Q0 I rx ry ⟨i, j, ra, rb, hk _ M _ H hq (.refl H) hv (by simp only [Rep])⟩
    | _ => exact (show False from hq).elim
  | str i =>
    cases b with
    | str j => simp only [Rep] at ra rb; exact op_add_str pins s σ H x y v u Q0 I rx ry ⟨i, j, ra, rb, hq.1, hk _ M _ H hq.2 (.refl H) hv (by simp only [Rep])⟩
    | _ => exact (show False from hq).elim
  | tup xs =>
    cases b with
    | tup ys =>
      obtain ⟨hz, hq⟩ := hq
      simp only [Rep] at ra rb
      obtain ⟨p, vs, rfl, hp, hr⟩ := ra
      obtain ⟨q, ws, rfl, hp2, hr2⟩ := rb
      by_cases hn : vs = []
      · subst hn
        have hx : xs = [] := by have := hr.length; simpa using this
        subst hx
        cases rx; cases ry
        obtain ⟨its, r1, p1, _⟩ := I.tuple hp
        obtain ⟨its2, r2, p2, _⟩ := I.tuple hp2
        cases r1
        exact cat_tup0 p1 p2 ⟨.ref q, H, I, rfl, hk _ M _ H hq (.refl H) hv (by simp only [Rep, List.nil_append]; exact ⟨q, ws, rfl, hp2, hr2⟩)⟩
      · refine op_catT pins s σ H _ _ v u Q0 I rx ry ⟨p, q, vs, ws, rfl, rfl, hp, hp2, hn, by rw [← hr.length, ← hr2.length]; exact hz, fun e => ?_, fun e l hl => ?_⟩
        · subst e
          have hy : ys = [] := by have := hr2.length; simpa using this
          subst hy
          exact hk _ M _ H hq (.refl H) hv (by simp only [Rep, List.append_nil]; exact ⟨p, vs, rfl, hp, hr⟩)
        · exact hk _ M _ _ hq (Ext.new hl) (hv.new hl) (rep_tup hl (hr.append hr2))
    | _ => exact (show False from hq).elim
  | ls xs =>
    cases b with
    | ls ys =>
      obtain ⟨hz, hq⟩ := hq
      simp only [Rep] at ra rb
      obtain ⟨p, vs, rfl, hp, hr⟩ := ra
      obtain ⟨q, ws, rfl, hp2, hr2⟩ := rb
      cases rx; cases ry
      obtain ⟨its, r1, p1, z1⟩ := I.list hp.sq
      obtain ⟨its2, r2, p2, z2⟩ := I.list hp2.sq
      have hz' : vs.length + ws.length ≤ sizeLine := by rw [← hr.length, ← hr2.length]; exact hz
      refine thn (cat_lst (Q := EP X pins σ (fun v H' => ∃ H1 p xs, v = .ref p ∧ H1 p = none ∧ H' = upd H1 p (.lst xs) ∧ ∀ o, Q0 (.ref p) (upd H1 p (.frz o (.lst xs))))) p1.isList p2.isList ?_ (by rw [← r1.length, ← r2.length]; exact hz')) fun _ _ e => frozen e
      have hf := I.hok.fresh (Nat.le_refl s.heap.objs.size)
      refine ⟨.ref s.heap.objs.size, upd H s.heap.objs.size (.lst (vs ++ ws)), I.laid (t' := s.toks) (fun b ob q => Heap.get?_push_of_some _ q) (Nat.le_refl _) ?_, rfl, H, _, _, rfl, hf, rfl, fun o => ?_⟩
      · exact ⟨by rw [List.length_append]; exact hz', _, 0, r1.append r2, Heap.get?_push_size _ rfl⟩
      · exact hk _ M _ _ hq (Ext.new hf) (hv.new hf) (rep_ls hf (hr.append hr2))
    | _ => exact (show False from hq).elim
  | _ => cases b <;> exact (show False from hq).elim
/-! ### ==, !=, is None -/
def rEqq : RR2 := fun x y M Q => okR 16 x = true ∧ okR 16 y = true ∧ Q (.bl (eqR x y)) M
def rNeq : RR2 := fun x y M Q => okR 16 x = true ∧ okR 16 y = true ∧ Q (.bl (!eqR x y)) M
theorem oeq (hu : X.A.units + 64 < cLine) : ROp X (compareOp .Eq) rEqq := by
  intro pins s σ H x y v u Q0 I rx ry h
  obtain ⟨a, b, M, Q, ra, rb, hv, ⟨o1, o2, hq⟩, hk⟩ := h
  exact rcAt_den 15 a b X.A s v u o1 o2 (den_of I 16 a x v o1 ra rx) (den_of I 16 b y u o2 rb ry) (by omega) _ _ _ _ ⟨.bl (eqR a b), H, I, rfl, hk _ M _ H hq (.refl H) hv (by simp only [Rep])⟩
theorem one (hu : X.A.units + 64 < cLine) : ROp X (compareOp .NotEq) rNeq := by
  intro pins s σ H x y v u Q0 I rx ry h
  obtain ⟨a, b, M, Q, ra, rb, hv, ⟨o1, o2, hq⟩, hk⟩ := h
  exact rcNeAt_den 15 a b X.A s v u o1 o2 (den_of I 16 a x v o1 ra rx) (den_of I 16 b y u o2 rb ry) (by omega) _ _ _ _ ⟨.bl (!eqR a b), H, I, rfl, hk _ M _ H hq (.refl H) hv (by simp only [Rep])⟩
def isN : RV → Bool
  | .non => true
  | _ => false
theorem isN_rep {K : PySem.W.Frag} {H : Hp} : ∀ {a : RV} {x : V}, Rep K H a x → decide (x = .non) = isN a := by
  intro a x h
  cases a with
  | tup xs => simp only [Rep] at h; obtain ⟨p, vs, rfl, _⟩ := h; simp [isN]
  | ls xs => simp only [Rep] at h; obtain ⟨p, vs, rfl, _⟩ := h; simp [isN]
  | _ => simp only [Rep] at h; subst h; simp [isN]
def rIs : RR2 := fun x y M Q => match y with | .non => Q (.bl (isN x)) M | _ => False
def rIsNot : RR2 := fun x y M Q => match y with | .non => Q (.bl (!isN x)) M | _ => False
theorem ois : ROp X (compareOp .Is) rIs := by
  intro pins s σ H x y v u Q0 I rx ry h
  obtain ⟨a, b, M, Q, ra, rb, hv, hq, hk⟩ := h
  cases b with
  | non => simp only [Rep] at rb; exact op_isN pins s σ H x y v u Q0 I rx ry ⟨rb, by rw [isN_rep ra]; exact hk _ M _ H hq (.refl H) hv (by simp only [Rep])⟩
  | _ => exact (show False from hq).elim
theorem oisnot : ROp X (compareOp .IsNot) rIsNot := by
  intro pins s σ H x y v u Q0 I rx ry h
  obtain ⟨a, b, M, Q, ra, rb, hv, hq, hk⟩ := h
  cases b with
  | non => simp only [Rep] at rb; exact op_notN pins s σ H x y v u Q0 I rx ry ⟨rb, by rw [isN_rep ra]; exact hk _ M _ H hq (.refl H) hv (by simp only [Rep])⟩
  | _ => exact (show False from hq).elim
/-! ### places -/
def rIx : RR2 := fun x y M Q => match x, y with
  | .tup xs, .int i => match atI xs i with | some v => Q v M | none => False
  | .ls xs, .int i => match atI xs i with | some v => Q v M | none => False
  | .ref a, .int i => match M a with
    | some (.lst xs) => match atI xs i with | some v => Q v M | none => False
    | _ => False
  | .str z, .int i => z.length ≤ sizeLine ∧ match atI z.cps.toList i with | some c => Q (.str ⟨#[c]⟩) M | none => False
  | _, _ => False
theorem oix : IxR X (upO X.K rIx) := by
  intro value slice pins s σ H x y v u Q0 I rx ry h hs
  obtain ⟨a, b, M, Q, ra, rb, hv, hq, hk⟩ := h
  cases b with
  | int i =>
    simp only [Rep] at rb
    cases a with
    | tup xs =>
      simp only [Rep] at ra
      obtain ⟨p, vs, rfl, hp, hr⟩ := ra
      simp only [rIx] at hq
      cases e : atI xs i with
      | none => rw [e] at hq; exact hq.elim
      | some z =>
        rw [e] at hq
        obtain ⟨w, e1, r1⟩ := hr.atI e
        exact ix_tup value slice pins s σ H _ y v u Q0 I rx ry ⟨p, vs, i, w, rfl, rb, hp, e1, hk _ M _ H hq (.refl H) hv r1⟩ hs
    | ls xs =>
      simp only [Rep] at ra
      obtain ⟨p, vs, rfl, hp, hr⟩ := ra
      simp only [rIx] at hq
      cases e : atI xs i with
      | none => rw [e] at hq; exact hq.elim
      | some z =>
        rw [e] at hq
        obtain ⟨w, e1, r1⟩ := hr.atI e
        exact ix_list value slice pins s σ H _ y v u Q0 I rx ry ⟨p, vs, i, w, rfl, rb, hp.sq, e1, hk _ M _ H hq (.refl H) hv r1⟩ hs
    | ref p =>
      simp only [Rep] at ra
      simp only [rIx] at hq
      split at hq
      · rename_i xs em
        obtain ⟨ho, e, r⟩ := hv p _ em
        obtain ⟨vs, rfl, hr⟩ := r
        cases e2 : atI xs i with
        | none => rw [e2] at hq; exact hq.elim
        | some z =>
          rw [e2] at hq
          obtain ⟨w, e1, r1⟩ := hr.atI e2
          exact ix_list value slice pins s σ H x y v u Q0 I rx ry ⟨p, vs, i, w, ra, rb, SqL.of e, e1, hk _ M _ H hq (.refl H) hv r1⟩ hs
      · exact hq.elim
    | str z =>
      simp only [Rep] at ra
      simp only [rIx] at hq
      obtain ⟨hz, hq⟩ := hq
      cases e : atI z.cps.toList i with
      | none => rw [e] at hq; exact hq.elim
      | some c =>
        rw [e] at hq
        exact ix_str value slice pins s σ H x y v u Q0 I rx ry ⟨z, i, c, ra, rb, hz, e, hk _ M _ H hq (.refl H) hv (by simp only [Rep])⟩ hs
    | _ => exact (show False from hq).elim
  | _ => cases a <;> exact (show False from hq).elim
theorem rix {a b : Expr} {ta tb : RTE} {pos : Pos} (ha : RPE X a ta) (hb : RPE X b tb) (hs : PlainIx b := by intro _ _; rfl) : RPE X (.Subscript a b pos) (rOp rIx ta tb) := PE.imp (pe_ix oix ha hb hs) fun _ _ _ h => rop_imp h
/-! ### o[i] = v -/
def rSetL : RTSet := fun o i v M Q => match o, i with
  | .ref p, .int k => match M p with
    | some (.lst xs) => match ixN xs.length k with | some j => Q (put M p (.lst (xs.set j v))) | none => False
    | _ => False
  | _, _ => False
theorem osetl : PSet X (upSet X.K rSetL) := by
  intro pins s σ H o i v ov iv u Q0 I ro ri rv h
  obtain ⟨a, b, c, M, Q, ra, rb, rc, hv, hq, hk⟩ := h
  cases a with
  | ref p =>
    cases b with
    | int k =>
      simp only [Rep] at ra rb
      simp only [rSetL] at hq
      split at hq
      · rename_i xs em
        obtain ⟨ho, e, r⟩ := hv p _ em
        obtain ⟨vs, rfl, hr⟩ := r
        cases e2 : ixN xs.length k with
        | none => rw [e2] at hq; exact hq.elim
        | some j =>
          rw [e2] at hq
          have ex : Ext H (upd H p (.lst (vs.set j v))) := Ext.write e rfl
          exact set_list pins s σ H o i v ov iv u Q0 I ro ri rv ⟨p, vs, k, j, ra, rb, e, by rw [← hr.length]; exact e2, hk _ _ hq ex (hv.write em ⟨_, rfl, Reps.ext ex _ _ (hr.set rc j)⟩)⟩
      · exact hq.elim
    | _ => exact (show False from hq).elim
  | _ => cases b <;> exact (show False from hq).elim
/-! ### calls of built-ins -/
def upC (K : PySem.W.Frag) (r : List RV → RM → RVK → Prop) : List V → Hp → VK → Prop := fun vs H Q0 => ∃ rs M Q, Reps K H rs vs ∧ View K H M ∧ r rs M Q ∧ UpK K H Q Q0
def rCall (r : List RV → RM → RVK → Prop) (t : RTA) : RTE := fun σ M Q => t σ M fun rs M1 => r rs M1 Q
theorem rcall_imp {K : PySem.W.Frag} {r : List RV → RM → RVK → Prop} {t : RTA} {σ0 : L2.St} {H : Hp} {Q0 : VK} (h : up K (rCall r t) σ0 H Q0) : tCB (upC K r) (upA K t) σ0 H Q0 := by
  obtain ⟨σ, M, Q, hs, hv, ht, hk⟩ := h
  exact ⟨σ, M, _, hs, hv, ht, fun rs M1 vs H1 q e1 v1 r1 => ⟨rs, M1, Q, r1, v1, q, hk.ext e1⟩⟩
variable {x : Str} {p pos : Pos} {e : Expr} {es : List Expr} {t : RTA} {id T : String} {r : List RV → RM → RVK → Prop}
theorem rcallB (hc : CallR X (.builtin id) (upC X.K r)) (hm : X.mg x = none) (hv : bootBuiltins x = some (.builtin id)) (ha : RPA X (e :: es) t) (hg : Gl X x := by rfl) (hn : x ≠ "__name__" := by decide) (hdb : (x == ("__debug__" : Str)) = false := by decide)
    (he : starEach (e :: es) X.env = (false, eval e X.env) :: starEach es X.env := by rfl) (hpl : (backTo pos (starEach es X.env)).any (·.1) = false := by rfl) : RPE X (.Call (.Name x p) (e :: es) [] pos) (rCall r t) :=
  PE.imp (pe_callB hc hg hm hv ha hn hdb he hpl) fun _ _ _ h => rcall_imp h
theorem rcallT (hc : CallR X (.type T) (upC X.K r)) (hm : X.mg x = none) (hv : bootBuiltins x = some (.type T)) (ha : RPA X (e :: es) t) (hg : Gl X x := by rfl) (hn : x ≠ "__name__" := by decide) (hdb : (x == ("__debug__" : Str)) = false := by decide)
    (he : starEach (e :: es) X.env = (false, eval e X.env) :: starEach es X.env := by rfl) (hpl : (backTo pos (starEach es X.env)).any (·.1) = false := by rfl) : RPE X (.Call (.Name x p) (e :: es) [] pos) (rCall r t) :=
  PE.imp (pe_callTy hc hg hm hv ha hn hdb he hpl) fun _ _ _ h => rcall_imp h
theorem Reps.one {K : PySem.W.Frag} {H : Hp} {x : RV} {vs : List V} (h : Reps K H [x] vs) : ∃ v, vs = [v] ∧ Rep K H x v := by
  simp only [Reps] at h
  obtain ⟨v, r, rfl, h1, rfl⟩ := h
  exact ⟨v, rfl, h1⟩
theorem Reps.two {K : PySem.W.Frag} {H : Hp} {x y : RV} {vs : List V} (h : Reps K H [x, y] vs) : ∃ v w, vs = [v, w] ∧ Rep K H x v ∧ Rep K H y w := by
  simp only [Reps] at h
  obtain ⟨v, r, rfl, h1, w, r', rfl, h2, rfl⟩ := h
  exact ⟨v, w, rfl, h1, h2⟩
def rLen : List RV → RM → RVK → Prop := fun rs M Q => match rs with
  | [.tup xs] => Q (.int xs.length) M
  | [.ls xs] => Q (.int xs.length) M
  | [.str z] => z.length ≤ sizeLine ∧ Q (.int z.length) M
  | [.ref a] => match M a with | some (.lst xs) => Q (.int xs.length) M | _ => False
  | _ => False
theorem clen : CallR X (.builtin "len") (upC X.K rLen) := by
  intro pins s σ H xs us Q0 I rl h
  obtain ⟨rs, M, Q, rr, hv, hq, hk⟩ := h
  unfold rLen at hq
  split at hq
  · rename_i ys
    obtain ⟨v, rfl, r1⟩ := rr.one
    simp only [Rep] at r1
    obtain ⟨q, vs, rfl, hp, hr⟩ := r1
    exact call_len_seq pins s σ H _ us Q0 I rl ⟨q, vs, rfl, .inr hp, by rw [← hr.length]; exact hk _ M _ H hq (.refl H) hv (by simp only [Rep])⟩
  · rename_i ys
    obtain ⟨v, rfl, r1⟩ := rr.one
    simp only [Rep] at r1
    obtain ⟨q, vs, rfl, hp, hr⟩ := r1
    exact call_len_seq pins s σ H _ us Q0 I rl ⟨q, vs, rfl, .inl hp.sq, by rw [← hr.length]; exact hk _ M _ H hq (.refl H) hv (by simp only [Rep])⟩
  · rename_i z
    obtain ⟨v, rfl, r1⟩ := rr.one
    simp only [Rep] at r1
    subst r1
    exact call_len_str pins s σ H _ us Q0 I rl ⟨z, rfl, hq.1, hk _ M _ H hq.2 (.refl H) hv (by simp only [Rep])⟩
  · rename_i a
    obtain ⟨v, rfl, r1⟩ := rr.one
    simp only [Rep] at r1
    subst r1
    split at hq
    · rename_i ys em
      obtain ⟨ho, e, r⟩ := hv a _ em
      obtain ⟨vs, rfl, hr⟩ := r
      exact call_len_seq pins s σ H _ us Q0 I rl ⟨a, vs, rfl, .inl (SqL.of e), by rw [← hr.length]; exact hk _ M _ H hq (.refl H) hv (by simp only [Rep])⟩
    · exact hq.elim
  · exact hq.elim
def rTuple : List RV → RM → RVK → Prop := fun rs M Q => match rs with
  | [.tup xs] => Q (.tup xs) M
  | [.ls xs] => Q (.tup xs) M
  | [.ref a] => match M a with | some (.lst xs) => Q (.tup xs) M | _ => False
  | _ => False
theorem ctuple : CallR X (.type "tuple") (upC X.K rTuple) := by
  intro pins s σ H xs us Q0 I rl h
  obtain ⟨rs, M, Q, rr, hv, hq, hk⟩ := h
  unfold rTuple at hq
  split at hq
  · rename_i ys
    obtain ⟨v, rfl, r1⟩ := rr.one
    simp only [Rep] at r1
    obtain ⟨q, vs, rfl, hp, hr⟩ := r1
    exact call_tuple_of pins s σ H _ us Q0 I rl ⟨q, vs, rfl, .inr ⟨hp, hk _ M _ H hq (.refl H) hv (by simp only [Rep]; exact ⟨q, vs, rfl, hp, hr⟩)⟩⟩
  · rename_i ys
    obtain ⟨v, rfl, r1⟩ := rr.one
    simp only [Rep] at r1
    obtain ⟨q, vs, rfl, hp, hr⟩ := r1
    exact call_tuple_of pins s σ H _ us Q0 I rl ⟨q, vs, rfl, .inl ⟨hp.sq, fun l hl => hk _ M _ _ hq (Ext.new hl) (hv.new hl) (rep_tup hl hr)⟩⟩
  · rename_i a
    obtain ⟨v, rfl, r1⟩ := rr.one
    simp only [Rep] at r1
    subst r1
    split at hq
    · rename_i ys em
      obtain ⟨ho, e, r⟩ := hv a _ em
      obtain ⟨vs, rfl, hr⟩ := r
      exact call_tuple_of pins s σ H _ us Q0 I rl ⟨a, vs, rfl, .inl ⟨SqL.of e, fun l hl => hk _ M _ _ hq (Ext.new hl) (hv.new hl) (rep_tup hl hr)⟩⟩
    · exact hq.elim
  · exact hq.elim
end
end R

set_option Elab.async false
set_option linter.all false
set_option maxRecDepth 100000
set_option maxHeartbeats 1000000
namespace R
open PySem PySem.Spec PyProof.Rows L2 HT
section
variable {prog : Program} {w : World} {A : Around} {E : Value → Shared → Prop} {s : Shared}
theorem getItem_tuple_whole {t sl : Addr} {items : Array Value} {vl vu : Value} {lo hi : Option Int} {Q : Value → Shared → Prop} (ht : IsTup s.heap t items) (hs : s.heap.IsSliceOf sl vl vu .none) (pl : IsPart vl lo) (pu : IsPart vu hi)
    (h0 : sIx items.size 0 lo = 0) (h1 : sIx items.size items.size hi = items.size)
    (h : Q (.ref t) s) : wpAny (model prog w) A (getItem (.ref t) (.ref sl)) Q E s := by
  obtain ⟨os, hos, hcs, hds⟩ := id hs
  have hTs : s.TypeIs (.ref sl) "slice" := ⟨os, hos, hcs⟩
  unfold getItem
  try with_reducible refine wpAny_holding ?_
  first | refine wpAny_bind (wpAny_pure ?_) | skip
  refine wpAny_bind (wpAny_sequenceKey ht.typeIs (by decide) ?_)
  refine wpAny_bind (wpAny_callSpecial?_slot (name := Str.ofString "__getitem__") ht.typeIs PyProof.Rows.slot_tuple_getitem
    (wpAny_call_entry PyProof.Rows.slot_tuple_getitem ht.typeIs entry_tuple_getitem ?_ (args_tuple_getitem _ _)))
  show wpAny _ _ (Builtin.Tuple.tupleItemsOf (.ref t) >>= _) _ _ s
  refine wpAny_bind (tupleItemsOf_ ht ?_)
  refine wpAny_bind (wpAny_typeOf hTs ?_)
  rw [if_pos (by decide)]
  refine wpAny_bind (sliceApplied_gen hs pl pu ?_)
  have hyes : (((sIx items.size 0 lo : Nat) : Int) == 0 && (1 : Int) == 1 && (sIx items.size items.size hi - sIx items.size 0 lo) == items.size) = true := by
    rw [h0, h1]; simp
  show wpAny _ _ (if (((sIx items.size 0 lo : Nat) : Int) == 0 && (1 : Int) == 1 && (sIx items.size items.size hi - sIx items.size 0 lo) == items.size) = true then _ else _) _ _ s
  rw [if_pos hyes]
  show wpAny _ _ (Builtin.Tuple.tupleIsExact (.ref t) >>= _) _ _ s
  unfold Builtin.Tuple.tupleIsExact
  refine wpAny_bind (wpAny_bind (wpAny_typeOf ht.typeIs (wpAny_pure ?_)))
  rw [if_pos (by decide)]
  refine wpAny_bind (wpAny_rule ?_)
  refine wpAny_bind (wpAny_pure ?_)
  exact wpAny_pure ⟨_, rfl, wpAny_pure h⟩
end

section
variable {X : Cx}
/-! ### slices -/
abbrev RTO := RSt → RM → (Option Int → RM → Prop) → Prop
def upP (K : PySem.W.Frag) (t : RTO) : TO := fun σ0 H Q0 => ∃ σ M Q, RepSt K H σ σ0 ∧ View K H M ∧ t σ M Q ∧ ∀ o M' H', Q o M' → Ext H H' → View K H' M' → Q0 o H'
def RPO (X : Cx) (e : Option Expr) (t : RTO) : Prop := PO X e (upP X.K t)
def rNoP : RTO := fun _ M Q => Q none M
def rPart (t : RTE) : RTO := fun σ M Q => t σ M fun x M1 => match x with | .int i => Q (some i) M1 | _ => False
theorem PO.imp {e : Option Expr} {t t' : TO} (h : PO X e t) (i : ∀ σ H Q, t' σ H Q → t σ H Q) : PO X e t' := fun pins s σ H Q I w => h pins s σ H Q I (i σ H Q w)
theorem pnone : RPO X none rNoP := PO.imp po_none fun σ0 H Q0 h => by
  obtain ⟨σ, M, Q, hs, hv, ht, hk⟩ := h
  exact hk none M H ht (.refl H) hv
theorem psome {e : Expr} {te : RTE} (h : RPE X e te) : RPO X (some e) (rPart te) := PO.imp (po_some h) fun σ0 H Q0 h => by
  obtain ⟨σ, M, Q, hs, hv, ht, hk⟩ := h
  refine ⟨σ, M, _, hs, hv, ht, fun rx M1 x H1 q e1 v1 r1 => ?_⟩
  cases rx with
  | int i => simp only [Rep] at r1; exact ⟨i, r1, hk _ M1 H1 q e1 v1⟩
  | _ => exact (show False from q).elim
def cutR (xs : List RV) (lo hi : Option Int) : List RV := (xs.drop (sIx xs.length 0 lo)).take (sIx xs.length xs.length hi - sIx xs.length 0 lo)
theorem reps_cut {K : PySem.W.Frag} {H : Hp} {xs : List RV} {vs : List V} (r : Reps K H xs vs) (lo hi : Option Int) : Reps K H (cutR xs lo hi) (cutV vs lo hi) := by
  unfold cutR cutV
  rw [r.length]
  exact (r.drop _).take _
def rSlc : RV → Option Int → Option Int → RM → RVK → Prop := fun x lo hi M Q => match x with
  | .tup xs => Q (.tup (cutR xs lo hi)) M
  | .ls xs => Q (.ls (cutR xs lo hi)) M
  | .ref a => match M a with | some (.lst xs) => Q (.ls (cutR xs lo hi)) M | _ => False
  | _ => False
def upL (K : PySem.W.Frag) (r : RV → Option Int → Option Int → RM → RVK → Prop) : V → Option Int → Option Int → Hp → VK → Prop := fun x lo hi H Q0 => ∃ rx M Q, Rep K H rx x ∧ View K H M ∧ r rx lo hi M Q ∧ UpK K H Q Q0
theorem oslc : SlR X (upL X.K rSlc) := by
  intro pins s σ H x v vl vu lo hi sl Q0 I rx hs pl pu h
  obtain ⟨a, M, Q, ra, hv, hq, hk⟩ := h
  have lstcase : ∀ (p : Addr) (xs : List RV) (vs : List V), x = .ref p → SqL X.K H p vs → Reps X.K H xs vs → Q (.ls (cutR xs lo hi)) M →
      ∃ T id, typeLookup (.type T) "__getitem__" = pure (some (.builtin id)) ∧ s.TypeIs v T ∧ wpAny (model X.prog X.w) X.A (getItem v (.ref sl)) (EP X pins σ Q0) X.xe s := by
    intro p xs vs ex hp hr hq
    obtain ⟨T, id, h1, h2, h3⟩ := sl_list pins s σ H x v vl vu lo hi sl (fun v H' => ∃ H1 p xs, v = .ref p ∧ H1 p = none ∧ H' = upd H1 p (.lst xs) ∧ ∀ o, Q0 (.ref p) (upd H1 p (.frz o (.lst xs)))) I rx hs pl pu
      ⟨p, vs, ex, hp, fun q hq' => ⟨H, q, _, rfl, hq', rfl, fun o => hk _ M _ _ hq (Ext.new hq') (hv.new hq') (rep_ls hq' (reps_cut hr lo hi))⟩⟩
    exact ⟨T, id, h1, h2, thn h3 fun _ _ e => frozen e⟩
  cases a with
  | tup xs =>
    simp only [rSlc] at hq
    simp only [Rep] at ra
    obtain ⟨p, vs, rfl, hp, hr⟩ := ra
    by_cases hw : sIx vs.length 0 lo = 0 ∧ sIx vs.length vs.length hi = vs.length
    · cases rx
      obtain ⟨its, r, ht, hz⟩ := I.tuple hp
      have hlen : its.toArray.size = vs.length := by rw [List.size_toArray]; exact r.length.symm
      refine ⟨"tuple", _, PyProof.Rows.slot_tuple_getitem.lookup, ht.typeIs, ?_⟩
      refine getItem_tuple_whole ht hs pl pu (by rw [hlen]; exact hw.1) (by rw [hlen]; exact hw.2) ⟨.ref p, H, I, rfl, ?_⟩
      have e : cutR xs lo hi = xs := by
        unfold cutR
        rw [hr.length, hw.1, hw.2, List.drop_zero, Nat.sub_zero, ← hr.length, List.take_length]
      rw [e] at hq
      exact hk _ M _ H hq (.refl H) hv (by simp only [Rep]; exact ⟨p, vs, rfl, hp, hr⟩)
    · exact sl_tup pins s σ H _ v vl vu lo hi sl Q0 I rx hs pl pu ⟨p, vs, rfl, hp, hw, fun q hq' => hk _ M _ _ hq (Ext.new hq') (hv.new hq') (rep_tup hq' (reps_cut hr lo hi))⟩
  | ls xs =>
    simp only [rSlc] at hq
    simp only [Rep] at ra
    obtain ⟨p, vs, rfl, hp, hr⟩ := ra
    exact lstcase p xs vs rfl hp.sq hr hq
  | ref p =>
    simp only [rSlc] at hq
    simp only [Rep] at ra
    split at hq
    · rename_i xs em
      obtain ⟨ho, e, r⟩ := hv p _ em
      obtain ⟨vs, rfl, hr⟩ := r
      exact lstcase p xs vs ra (SqL.of e) hr hq
    · exact hq.elim
  | _ => exact (show False from hq).elim
def rSl (te : RTE) (tl th : RTO) : RTE := fun σ M Q => te σ M fun x M1 => tl σ M1 fun l M2 => th σ M2 fun u M3 => rSlc x l u M3 Q
theorem rsl {e : Expr} {te : RTE} {lo hi : Option Expr} {tl th : RTO} {pos p2 : Pos} (he : RPE X e te) (hl : RPO X lo tl) (hu : RPO X hi th) : RPE X (.Subscript e (.Slice lo hi none p2) pos) (rSl te tl th) := PE.imp (pe_slice oslc he hl hu) fun σ0 H Q0 h => by
  obtain ⟨σ, M, Q, hs, hv, ht, hk⟩ := h
  refine ⟨σ, M, _, hs, hv, ht, fun rx M1 x H1 q e1 v1 r1 => ?_⟩
  refine ⟨σ, M1, _, hs.ext e1, v1, q, fun l M2 H2 q2 e2 v2 => ?_⟩
  refine ⟨σ, M2, _, hs.ext (e1.trans e2), v2, q2, fun u M3 H3 q3 e3 v3 => ?_⟩
  exact ⟨rx, M3, Q, Rep.ext (e2.trans e3) rx x r1, v3, q3, hk.ext ((e1.trans e2).trans e3)⟩
/-! ### isinstance -/
theorem kit_non_int (K : PySem.W.Frag) : PySem.W.kitOne K (.type "NoneType") (.type "int") = some false := by kernel_rfl
theorem kit_bl_int (K : PySem.W.Frag) : PySem.W.kitOne K (.type "bool") (.type "int") = some true := by kernel_rfl
theorem kit_int_int (K : PySem.W.Frag) : PySem.W.kitOne K (.type "int") (.type "int") = some true := by kernel_rfl
theorem kit_str_int (K : PySem.W.Frag) : PySem.W.kitOne K (.type "str") (.type "int") = some false := by kernel_rfl
theorem kit_tup_int (K : PySem.W.Frag) : PySem.W.kitOne K (.type "tuple") (.type "int") = some false := by kernel_rfl
theorem kit_ls_int (K : PySem.W.Frag) : PySem.W.kitOne K (.type "list") (.type "int") = some false := by kernel_rfl
def is_int : RV → Option Bool
  | .non => some false
  | .bl _ => some true
  | .int _ => some true
  | .str _ => some false
  | .tup _ => some false
  | .ls _ => some false
  | _ => none
theorem kit_non_bool (K : PySem.W.Frag) : PySem.W.kitOne K (.type "NoneType") (.type "bool") = some false := by kernel_rfl
theorem kit_bl_bool (K : PySem.W.Frag) : PySem.W.kitOne K (.type "bool") (.type "bool") = some true := by kernel_rfl
theorem kit_int_bool (K : PySem.W.Frag) : PySem.W.kitOne K (.type "int") (.type "bool") = some false := by kernel_rfl
theorem kit_str_bool (K : PySem.W.Frag) : PySem.W.kitOne K (.type "str") (.type "bool") = some false := by kernel_rfl
theorem kit_tup_bool (K : PySem.W.Frag) : PySem.W.kitOne K (.type "tuple") (.type "bool") = some false := by kernel_rfl
theorem kit_ls_bool (K : PySem.W.Frag) : PySem.W.kitOne K (.type "list") (.type "bool") = some false := by kernel_rfl
def is_bool : RV → Option Bool
  | .non => some false
  | .bl _ => some true
  | .int _ => some false
  | .str _ => some false
  | .tup _ => some false
  | .ls _ => some false
  | _ => none
theorem kit_non_str (K : PySem.W.Frag) : PySem.W.kitOne K (.type "NoneType") (.type "str") = some false := by kernel_rfl
theorem kit_bl_str (K : PySem.W.Frag) : PySem.W.kitOne K (.type "bool") (.type "str") = some false := by kernel_rfl
theorem kit_int_str (K : PySem.W.Frag) : PySem.W.kitOne K (.type "int") (.type "str") = some false := by kernel_rfl
theorem kit_str_str (K : PySem.W.Frag) : PySem.W.kitOne K (.type "str") (.type "str") = some true := by kernel_rfl
theorem kit_tup_str (K : PySem.W.Frag) : PySem.W.kitOne K (.type "tuple") (.type "str") = some false := by kernel_rfl
theorem kit_ls_str (K : PySem.W.Frag) : PySem.W.kitOne K (.type "list") (.type "str") = some false := by kernel_rfl
def is_str : RV → Option Bool
  | .non => some false
  | .bl _ => some false
  | .int _ => some false
  | .str _ => some true
  | .tup _ => some false
  | .ls _ => some false
  | _ => none
theorem kit_non_tuple (K : PySem.W.Frag) : PySem.W.kitOne K (.type "NoneType") (.type "tuple") = some false := by kernel_rfl
theorem kit_bl_tuple (K : PySem.W.Frag) : PySem.W.kitOne K (.type "bool") (.type "tuple") = some false := by kernel_rfl
theorem kit_int_tuple (K : PySem.W.Frag) : PySem.W.kitOne K (.type "int") (.type "tuple") = some false := by kernel_rfl
theorem kit_str_tuple (K : PySem.W.Frag) : PySem.W.kitOne K (.type "str") (.type "tuple") = some false := by kernel_rfl
theorem kit_tup_tuple (K : PySem.W.Frag) : PySem.W.kitOne K (.type "tuple") (.type "tuple") = some true := by kernel_rfl
theorem kit_ls_tuple (K : PySem.W.Frag) : PySem.W.kitOne K (.type "list") (.type "tuple") = some false := by kernel_rfl
def is_tuple : RV → Option Bool
  | .non => some false
  | .bl _ => some false
  | .int _ => some false
  | .str _ => some false
  | .tup _ => some true
  | .ls _ => some false
  | _ => none
theorem kit_non_list (K : PySem.W.Frag) : PySem.W.kitOne K (.type "NoneType") (.type "list") = some false := by kernel_rfl
theorem kit_bl_list (K : PySem.W.Frag) : PySem.W.kitOne K (.type "bool") (.type "list") = some false := by kernel_rfl
theorem kit_int_list (K : PySem.W.Frag) : PySem.W.kitOne K (.type "int") (.type "list") = some false := by kernel_rfl
theorem kit_str_list (K : PySem.W.Frag) : PySem.W.kitOne K (.type "str") (.type "list") = some false := by kernel_rfl
theorem kit_tup_list (K : PySem.W.Frag) : PySem.W.kitOne K (.type "tuple") (.type "list") = some false := by kernel_rfl
theorem kit_ls_list (K : PySem.W.Frag) : PySem.W.kitOne K (.type "list") (.type "list") = some true := by kernel_rfl
def is_list : RV → Option Bool
  | .non => some false
  | .bl _ => some false
  | .int _ => some false
  | .str _ => some false
  | .tup _ => some false
  | .ls _ => some true
  | _ => none
def tyN : RV → Option String
  | .non => some "NoneType"
  | .bl _ => some "bool"
  | .int _ => some "int"
  | .str _ => some "str"
  | .tup _ => some "tuple"
  | .ls _ => some "list"
  | _ => none
def rIsi (T : String) (test : RV → Option Bool) : List RV → RM → RVK → Prop := fun rs M Q => match rs with
  | [x, .ty T'] => T' = T ∧ (match test x with | some b => Q (.bl b) M | none => False)
  | _ => False
theorem cisi {T : String} {test : RV → Option Bool} (ht : ∀ a b, test a = some b → ∃ n, tyN a = some n ∧ PySem.W.kitOne X.K (.type n) (.type T) = some b) : CallR X (.builtin "isinstance") (upC X.K (rIsi T test)) := by
  intro pins s σ H xs us Q0 I rl h
  obtain ⟨rs, M, Q, rr, hv, hq, hk⟩ := h
  unfold rIsi at hq
  split at hq
  · rename_i a T'
    obtain ⟨rfl, hq⟩ := hq
    obtain ⟨v, w, rfl, r1, r2⟩ := rr.two
    obtain ⟨u, u', rfl, w1, w2⟩ := vals2 rl
    simp only [Rep] at r2
    subst r2
    obtain rfl : u' = Value.type T' := w2
    cases e : test a with
    | none => rw [e] at hq; exact hq.elim
    | some b =>
      rw [e] at hq
      obtain ⟨n, en, ek⟩ := ht a b e
      have fin : ∀ tk, EP X pins σ Q0 (.bool b) { s with toks := tk } := fun tk => ⟨.bl b, H, I.tok tk, rfl, hk _ M _ H hq (.refl H) hv (by simp only [Rep])⟩
      cases a with
      | non => cases en; simp only [Rep] at r1; subst r1; cases (show u = Value.none from w1); exact PySem.W.kia_one PySem.W.kitx_none I.kIn True.intro ek (fun z => nomatch z) fin
      | bl y => cases en; simp only [Rep] at r1; subst r1; cases (show u = Value.bool y from w1); exact PySem.W.kia_one PySem.W.kitx_bool I.kIn True.intro ek (fun z => nomatch z) fin
      | int y => cases en; simp only [Rep] at r1; subst r1; obtain ⟨t, q⟩ := (show ∃ t, u = Value.int y t from w1); cases q; exact PySem.W.kia_one PySem.W.kitx_int I.kIn True.intro ek (fun z => nomatch z) fin
      | str y => cases en; simp only [Rep] at r1; subst r1; obtain ⟨t, q⟩ := (show ∃ t, u = Value.str y t from w1); cases q; exact PySem.W.kia_one PySem.W.kitx_str I.kIn True.intro ek (fun z => nomatch z) fin
      | tup ys =>
        cases en; simp only [Rep] at r1
        obtain ⟨p, vs, rfl, hp, hr⟩ := r1
        cases (show u = Value.ref p from w1)
        obtain ⟨its, _, pt, _⟩ := I.tuple hp
        obtain ⟨o, h1, h2, _⟩ := pt
        exact PySem.W.kia_one PySem.W.kitx_tuple I.kIn ⟨o, h1, h2⟩ ek (fun z => nomatch z) fin
      | ls ys =>
        cases en; simp only [Rep] at r1
        obtain ⟨p, vs, rfl, hp, hr⟩ := r1
        cases (show u = Value.ref p from w1)
        obtain ⟨its, _, pt, _⟩ := I.list hp.sq
        obtain ⟨o, h1, h2, _⟩ := pt.isList
        exact PySem.W.kia_one PySem.W.kitx_list I.kIn ⟨o, h1, h2⟩ ek (fun z => nomatch z) fin
      | _ => cases en
  · exact hq.elim
theorem cisi_int : CallR X (.builtin "isinstance") (upC X.K (rIsi "int" is_int)) := cisi fun a b e => by
  cases a with
  | non => cases e; exact ⟨_, rfl, kit_non_int X.K⟩
  | bl _ => cases e; exact ⟨_, rfl, kit_bl_int X.K⟩
  | int _ => cases e; exact ⟨_, rfl, kit_int_int X.K⟩
  | str _ => cases e; exact ⟨_, rfl, kit_str_int X.K⟩
  | tup _ => cases e; exact ⟨_, rfl, kit_tup_int X.K⟩
  | ls _ => cases e; exact ⟨_, rfl, kit_ls_int X.K⟩
  | _ => cases e
theorem cisi_bool : CallR X (.builtin "isinstance") (upC X.K (rIsi "bool" is_bool)) := cisi fun a b e => by
  cases a with
  | non => cases e; exact ⟨_, rfl, kit_non_bool X.K⟩
  | bl _ => cases e; exact ⟨_, rfl, kit_bl_bool X.K⟩
  | int _ => cases e; exact ⟨_, rfl, kit_int_bool X.K⟩
  | str _ => cases e; exact ⟨_, rfl, kit_str_bool X.K⟩
  | tup _ => cases e; exact ⟨_, rfl, kit_tup_bool X.K⟩
  | ls _ => cases e; exact ⟨_, rfl, kit_ls_bool X.K⟩
  | _ => cases e
theorem cisi_str : CallR X (.builtin "isinstance") (upC X.K (rIsi "str" is_str)) := cisi fun a b e => by
  cases a with
  | non => cases e; exact ⟨_, rfl, kit_non_str X.K⟩
  | bl _ => cases e; exact ⟨_, rfl, kit_bl_str X.K⟩
  | int _ => cases e; exact ⟨_, rfl, kit_int_str X.K⟩
  | str _ => cases e; exact ⟨_, rfl, kit_str_str X.K⟩
  | tup _ => cases e; exact ⟨_, rfl, kit_tup_str X.K⟩
  | ls _ => cases e; exact ⟨_, rfl, kit_ls_str X.K⟩
  | _ => cases e
theorem cisi_tuple : CallR X (.builtin "isinstance") (upC X.K (rIsi "tuple" is_tuple)) := cisi fun a b e => by
  cases a with
  | non => cases e; exact ⟨_, rfl, kit_non_tuple X.K⟩
  | bl _ => cases e; exact ⟨_, rfl, kit_bl_tuple X.K⟩
  | int _ => cases e; exact ⟨_, rfl, kit_int_tuple X.K⟩
  | str _ => cases e; exact ⟨_, rfl, kit_str_tuple X.K⟩
  | tup _ => cases e; exact ⟨_, rfl, kit_tup_tuple X.K⟩
  | ls _ => cases e; exact ⟨_, rfl, kit_ls_tuple X.K⟩
  | _ => cases e
theorem cisi_list : CallR X (.builtin "isinstance") (upC X.K (rIsi "list" is_list)) := cisi fun a b e => by
  cases a with
  | non => cases e; exact ⟨_, rfl, kit_non_list X.K⟩
  | bl _ => cases e; exact ⟨_, rfl, kit_bl_list X.K⟩
  | int _ => cases e; exact ⟨_, rfl, kit_int_list X.K⟩
  | str _ => cases e; exact ⟨_, rfl, kit_str_list X.K⟩
  | tup _ => cases e; exact ⟨_, rfl, kit_tup_list X.K⟩
  | ls _ => cases e; exact ⟨_, rfl, kit_ls_list X.K⟩
  | _ => cases e
/-! ### own defs -/
abbrev RSp := List RV → RM → RVK → Prop
def upSp (K : PySem.W.Frag) (sp : RSp) : Sp := fun vs H Q0 _ => ∃ rs M Q, Reps K H rs vs ∧ View K H M ∧ sp rs M Q ∧ UpK K H Q Q0
end
structure RFn (P : Program) (w : World) (K : PySem.W.Frag) (mg : Str → Option Value) (base : Heap) (k : Nat) (x : Str) (ps : List Str) (sp : RSp) : Prop where
  ex : ∃ (f : Addr) (fd : FuncData), mg x = some (.ref f) ∧ PySem.W.keepIn K (.ref f) = true ∧ Binds K fd ps [] ∧ FnOk P w K mg base CX0 k f fd ps (upSp K sp)
section
variable {X : Cx} {x : Str} {p pos : Pos} {e : Expr} {es : List Expr} {t : RTA} {k : Nat} {ps : List Str} {sp : RSp}
theorem rcallF (F : RFn X.prog X.w X.K X.mg X.base k x ps sp) (hr : Room k X.A) (ha : RPA X (e :: es) t) (hg : Gl X x := by rfl) (hdb : (x == ("__debug__" : Str)) = false := by decide)
    (he : starEach (e :: es) X.env = (false, eval e X.env) :: starEach es X.env := by rfl) (hpl : (backTo pos (starEach es X.env)).any (·.1) = false := by rfl) : RPE X (.Call (.Name x p) (e :: es) [] pos) (rCall sp t) := by
  obtain ⟨f, fd, hm, hk, hb, F⟩ := F.ex
  refine PE.imp (pe_call F hr hg hm hk hb .nil pass0 ha hdb he hpl) fun σ0 H Q0 h => ?_
  obtain ⟨σ, M, Q, hs, hv, ht, hk⟩ := h
  exact ⟨σ, M, _, hs, hv, ht, fun rs M1 vs H1 q e1 v1 r1 => ⟨rs, M1, Q, by rw [List.append_nil]; exact r1, v1, q, hk.ext e1⟩⟩
theorem rcallF0 (F : RFn X.prog X.w X.K X.mg X.base k x ps sp) (hr : Room k X.A) (hg : Gl X x := by rfl) (hdb : (x == ("__debug__" : Str)) = false := by decide) : RPE X (.Call (.Name x p) [] [] pos) (rCall sp rNil) := by
  obtain ⟨f, fd, hm, hk, hb, F⟩ := F.ex
  refine PE.imp (pe_call0 F hr hg hm hk hb .nil pass0 hdb) fun σ0 H Q0 h => ?_
  obtain ⟨σ, M, Q, hs, hv, ht, hk⟩ := h
  exact ⟨[], M, Q, Reps.nil, hv, ht, hk⟩
def rstart (N : List Str) (rs : List RV) : RSt := rs.map some ++ List.replicate (N.length - rs.length) none
theorem start_rep {K : PySem.W.Frag} {H : Hp} {N : List Str} {rs : List RV} {vs : List V} (r : Reps K H rs vs) : RepSt K H (rstart N rs) (L2.start N vs) := by
  unfold rstart L2.start
  refine ⟨by simp [r.length], fun i z e => ?_⟩
  have hi : i < rs.length := by
    by_cases hi : i < rs.length
    · exact hi
    · rw [List.getElem?_append_right (by simpa using hi), List.getElem?_replicate] at e
      split at e <;> cases e
  rw [List.getElem?_append_left (by simpa using hi), List.getElem?_map] at e
  cases q : rs[i]? with
  | none => rw [q] at e; cases e
  | some y =>
    rw [q] at e; cases e
    obtain ⟨v, e1, r1⟩ := r.get q
    exact ⟨v, by rw [List.getElem?_append_left (by rw [List.length_map, ← r.length]; exact hi), List.getElem?_map, e1]; rfl, r1⟩
theorem rfn {P : Program} {w : World} {K : PySem.W.Frag} {mg : Str → Option Value} {base : Heap} {qual : Str} {st : Stmt} {f : Addr} {fd : FuncData} {N : List Str} {t : RTS} (F : Fun K x qual st f fd) (S : FnScope N ps (defScope st)) (hm : mg x = some (.ref f)) (hb : Binds K fd ps [])
    (len : ∀ rs M Q, sp rs M Q → rs.length = ps.length)
    (term : ∀ (cdv : Value) (A : Around) (outer : List Env) (s : Shared) (H : Hp) (E : XK), Room k (A.deeper (envOfC qual (defScope st) s.heap.objs.size f cdv)) → RPSs (cxOf CX0 P w K mg base N qual (defScope st) f cdv A outer s H E).nox (defBody st) t)
    (body : ∀ rs M Q, sp rs M Q → t { nx := fun _ M' => Q .non M', rt := Q } (rstart N rs) M) : RFn P w K mg base (k + 1) x ps sp := by
  refine ⟨f, fd, hm, F.kp, hb, F.ok S (fun vs H Q0 E h => ?_) fun cdv A outer s H vs Q0 E hr h => ?_⟩
  · obtain ⟨rs, M, Q, rr, hv, hq, hk⟩ := h
    rw [← rr.length]; exact len rs M Q hq
  · obtain ⟨rs, M, Q, rr, hv, hq, hk⟩ := h
    refine ⟨_, term cdv A outer s H E hr, rstart N rs, M, { nx := fun _ M' => Q .non M', rt := Q }, start_rep rr, hv, body rs M Q hq, ⟨fun σ M' σ0 H' q e w r => hk .non M' .non H' q e w (by simp only [Rep]), hk, fun _ _ _ _ z => z.elim, fun _ _ _ _ z => z.elim⟩⟩
/-! ### for k in range(n) -/
def nums (n : Nat) : List RV := (List.range n).map fun (i : Nat) => RV.int (i : Int)
def rRng (g : RTG) (tb : RTS) (D : RD) (σ : RSt) : List RV → RM → Prop := fun rs M => match rs with
  | [.int n] => -(2 ^ 62) ≤ n ∧ n < 2 ^ 62 ∧ rForL g tb D (nums n.toNat) σ M
  | _ => False
def rForR (te : RTE) (g : RTG) (tb : RTS) : RTS := fun D σ M => te σ M fun v M1 => rRng g tb D σ [v] M1
theorem nums_rep {K : PySem.W.Frag} {H : Hp} (n : Nat) : Reps K H (nums n) ((List.range n).map fun (i : Nat) => V.int (i : Int)) := by
  unfold nums
  induction (List.range n) with
  | nil => exact Reps.nil
  | cons a l ih => exact Reps.cons (by simp only [Rep]) ih
theorem nums_len (n : Nat) : (nums n).length = n := by simp [nums]
end
section
variable {X : Cx}
theorem sforR {tg a : Expr} {body : List Stmt} {te : RTE} {g : RTG} {tb : RTS} {p pos pos' : Pos} (hp : PassesOwn (model X.prog X.w) X.A X.env X.xe) (hc : X.calm = true) (hm : X.mg "range" = none) (ha : RPE X a te) (hg : RPG X tg g) (hb : RPSs X body tb) (hgl : Gl X "range" := by rfl)
    (hst : starEach [a] X.env = [(false, eval a X.env)] := by rfl) (hs : ∀ x, foldedSetIterable (.Call (.Name "range" p) [a] [] pos') X.env x = pure x := by intro _; rfl) (hsc : starEach (a :: []) X.env = (false, eval a X.env) :: starEach [] X.env := by rfl) :
    RPS X (.For tg (.Call (.Name "range" p) [a] [] pos') body [] pos) (rForR te g tb) := PS.imp (ps_for hp hc (pi_range1 hgl hm (acons ha anil hsc) hst) hg hb hs) fun D0 σ0 H h => by
  obtain ⟨σ, M, D, hs, hv, ht, hd⟩ := h
  refine ⟨σ, M, rRng g tb D σ, hs, hv, ht, fun rs M1 vs H1 q e1 v1 r1 => ?_⟩
  unfold rRng at q
  split at q
  · rename_i n
    obtain ⟨q1, q2, q⟩ := q
    obtain ⟨v, rfl, r2⟩ := r1.one
    simp only [Rep] at r2
    subst r2
    have rr := nums_rep (K := X.K) (H := H1) n.toNat
    refine ⟨n, rfl, q1, q2, for_range (lo := 0) (n := n.toNat) (fun i σ0 H => ∃ σ M, RepSt X.K H σ σ0 ∧ View X.K H M ∧ rForL g tb D ((nums n.toNat).drop i) σ M ∧ Ext H1 H) ⟨σ, M1, hs.ext e1, v1, by simpa using q, .refl _⟩
      (fun i σ0 H hi h => ?_) fun σ0 H ⟨σ, M, hs, hv, hf, e⟩ => ?_⟩
    · have e0 : (0 : Int) + (i : Int) = (i : Int) := by omega
      rw [e0]
      exact forL_turn (hd.ext e1) rr i (.int i) σ0 H (by simp [hi]) h
    · have e2 : (nums n.toNat).drop n.toNat = [] := List.drop_eq_nil_of_le (by rw [nums_len]; exact Nat.le_refl _)
      rw [e2] at hf
      exact hd.nx σ M σ0 H hf (e1.trans e) hv hs
  · exact q.elim
end
end R

set_option Elab.async false
set_option linter.all false
set_option maxRecDepth 100000
set_option maxHeartbeats 1000000
namespace R
open PySem PySem.Spec PyProof.Rows L2
/-! ### what is walked -/
structure ItOf (K : PySem.W.Frag) (J : It) (xs : List RV) (H1 : Hp) : Prop where
  turn : ∀ i H, Ext H1 H → ∀ x, xs[i]? = some x → J.go i H ∧ ∀ v H', J.yld i H v H' → Ext H H' ∧ (∀ M, View K H M → View K H' M) ∧ Rep K H' x v
  stop : ∀ i H, Ext H1 H → xs.length ≤ i → J.stop i H
abbrev RTI := RSt → RM → (List RV → RM → Prop) → Prop
def upI (K : PySem.W.Frag) (ti : RTI) : TI := fun σ0 H R => ∃ σ M Q, RepSt K H σ σ0 ∧ View K H M ∧ ti σ M Q ∧ ∀ xs M' J H', Q xs M' → Ext H H' → View K H' M' → ItOf K J xs H' → R J H'
def RPI (X : Cx) (tg iter : Expr) (ti : RTI) : Prop := PI X tg iter (upI X.K ti)
section
variable {X : Cx} {tg : Expr}
def rItS (te : RTE) : RTI := fun σ M Q => te σ M fun v M1 => match v with
  | .tup xs => Q xs M1
  | .ls xs => Q xs M1
  | _ => False
theorem itl_of {K : PySem.W.Frag} {H1 : Hp} {a : Addr} {rs : List RV} {vs : List V} (h : Fz K H1 a vs) (r : Reps K H1 rs vs) : ItOf K (Itl K a) rs H1 where
  turn := fun i H e x hx => by
    obtain ⟨v, e1, r1⟩ := r.get hx
    refine ⟨⟨vs, v, (h.ext e).sq, e1⟩, fun v' H' y => ?_⟩
    obtain ⟨rfl, y⟩ := y
    have := y vs (h.ext e).sq
    rw [e1] at this; cases this
    exact ⟨.refl _, fun _ w => w, Rep.ext e x v r1⟩
  stop := fun i H e hi => ⟨vs, (h.ext e).sq, by rw [← r.length]; exact hi⟩
theorem itt_of {K : PySem.W.Frag} {H1 : Hp} {a : Addr} {rs : List RV} {vs : List V} (h : SqT K H1 a vs) (r : Reps K H1 rs vs) : ItOf K (Itt K a) rs H1 where
  turn := fun i H e x hx => by
    obtain ⟨v, e1, r1⟩ := r.get hx
    refine ⟨⟨vs, v, SqT.ext e h, e1⟩, fun v' H' y => ?_⟩
    obtain ⟨rfl, y⟩ := y
    have := y vs (SqT.ext e h)
    rw [e1] at this; cases this
    exact ⟨.refl _, fun _ w => w, Rep.ext e x v r1⟩
  stop := fun i H e hi => ⟨vs, SqT.ext e h, by rw [← r.length]; exact hi⟩
theorem itr_of {K : PySem.W.Frag} {H1 : Hp} (n : Nat) : ItOf K (Itr 0 n) (nums n) H1 where
  turn := fun i H e x hx => by
    have hi : i < n := by have := (List.getElem?_eq_some_iff.mp hx).1; rw [nums_len] at this; exact this
    have hx' : x = .int (i : Int) := by simp [nums, hi] at hx; exact hx.symm
    subst hx'
    refine ⟨hi, fun v' H' y => ?_⟩
    obtain ⟨rfl, rfl⟩ := y
    exact ⟨.refl _, fun _ w => w, by simp only [Rep]; simp⟩
  stop := fun i H e hi => by rw [nums_len] at hi; exact hi
theorem iseq {l : Expr} {te : RTE} (hl : RPE X l te) : RPI X tg l (rItS te) := by
  intro pins s σ0 H R I h
  obtain ⟨σ, M, Q, hs, hv, ht, hk⟩ := h
  refine thn (hl pins s σ0 H (fun x H1 => (∃ a vs rs M1, x = .ref a ∧ Fz X.K H1 a vs ∧ Reps X.K H1 rs vs ∧ Q rs M1 ∧ Ext H H1 ∧ View X.K H1 M1) ∨ ∃ a vs rs M1, x = .ref a ∧ SqT X.K H1 a vs ∧ Reps X.K H1 rs vs ∧ Q rs M1 ∧ Ext H H1 ∧ View X.K H1 M1) I ⟨σ, M, _, hs, hv, ht, fun rv M1 v H1 q e1 v1 r1 => ?_⟩) fun v s1 ⟨x, H1, I1, r1, q1⟩ => ?_
  · cases rv with
    | ls xs => simp only [Rep] at r1; obtain ⟨a, vs, rfl, h1, h2⟩ := r1; exact .inl ⟨a, vs, xs, M1, rfl, h1, h2, q, e1, v1⟩
    | tup xs => simp only [Rep] at r1; obtain ⟨a, vs, rfl, h1, h2⟩ := r1; exact .inr ⟨a, vs, xs, M1, rfl, h1, h2, q, e1, v1⟩
    | _ => exact (show False from q).elim
  · rcases q1 with ⟨a, vs, rs, M1, rfl, h1, h2, q, e1, v1⟩ | ⟨a, vs, rs, M1, rfl, h1, h2, q, e1, v1⟩
    · cases r1
      obtain ⟨its, rv, p, hz⟩ := I1.list h1.sq
      refine wpAny_pyIter_list p.isList ?_
      refine ⟨s1.heap.objs.size, [s1.heap.objs.size], _, _, H1, rfl, I1.kept (t' := s1.toks) fun b o e => Heap.get?_push_of_some _ e, turn_list a _, ⟨_, Heap.get?_push_size _ rfl, rfl, rfl⟩, fun b hb => ?_, hk rs M1 _ H1 q e1 v1 (itl_of h1 h2)⟩
      have e : b = s1.heap.objs.size := by simpa using hb
      subst e
      exact I1.fpOk (Nat.le_refl _) (I1.hok.fresh (Nat.le_refl _))
    · cases r1
      obtain ⟨its, rv, p, hz⟩ := I1.tuple h1
      refine wpAny_pyIter_tuple (show s1.heap.IsTuple a its.toArray from p) ?_
      refine ⟨s1.heap.objs.size, [s1.heap.objs.size], _, _, H1, rfl, I1.kept (t' := s1.toks) fun b o e => Heap.get?_push_of_some _ e, turn_tuple a _, ⟨_, Heap.get?_push_size _ rfl, rfl, rfl⟩, fun b hb => ?_, hk rs M1 _ H1 q e1 v1 (itt_of h1 h2)⟩
      have e : b = s1.heap.objs.size := by simpa using hb
      subst e
      exact I1.fpOk (Nat.le_refl _) (I1.hok.fresh (Nat.le_refl _))
def rRngI (Q : List RV → RM → Prop) : List RV → RM → Prop := fun rs M => match rs with
  | [.int n] => -(2 ^ 62) ≤ n ∧ n < 2 ^ 62 ∧ Q (nums n.toNat) M
  | _ => False
def rItR (te : RTE) : RTI := fun σ M Q => te σ M fun v M1 => rRngI Q [v] M1
theorem PI.imp {iter : Expr} {t t' : TI} (h : PI X tg iter t) (i : ∀ σ H R, t' σ H R → t σ H R) : PI X tg iter t' := fun pins s σ H R I w => h pins s σ H R I (i σ H R w)
theorem irange {a : Expr} {te : RTE} {p pos : Pos} (hm : X.mg "range" = none) (ha : RPE X a te) (hgl : Gl X "range" := by rfl) (hst : starEach [a] X.env = [(false, eval a X.env)] := by rfl) (hsc : starEach (a :: []) X.env = (false, eval a X.env) :: starEach [] X.env := by rfl) :
    RPI X tg (.Call (.Name "range" p) [a] [] pos) (rItR te) := PI.imp (pi_range1 hgl hm (acons ha anil hsc) hst) fun σ0 H R h => by
  obtain ⟨σ, M, Q, hs, hv, ht, hk⟩ := h
  refine ⟨σ, M, rRngI Q, hs, hv, ht, fun rs M1 vs H1 q e1 v1 r1 => ?_⟩
  unfold rRngI at q
  split at q
  · rename_i n
    obtain ⟨q1, q2, q⟩ := q
    obtain ⟨v, rfl, r2⟩ := r1.one
    simp only [Rep] at r2
    subst r2
    exact ⟨n, rfl, q1, q2, hk _ M1 _ H1 q e1 v1 (itr_of _)⟩
  · exact q.elim
/-! ### for, over anything -/
def rForI (ti : RTI) (g : RTG) (tb : RTS) : RTS := fun D σ M => ti σ M fun xs M1 => rForL g tb D xs σ M1
theorem sfor {iter : Expr} {body : List Stmt} {ti : RTI} {g : RTG} {tb : RTS} {pos : Pos} (hp : PassesOwn (model X.prog X.w) X.A X.env X.xe) (hc : X.calm = true) (hi : RPI X tg iter ti) (hg : RPG X tg g) (hb : RPSs X body tb)
    (hs : ∀ x, foldedSetIterable iter X.env x = pure x := by intro _; rfl) : RPS X (.For tg iter body [] pos) (rForI ti g tb) := PS.imp (ps_for hp hc hi hg hb hs) fun D0 σ0 H h => by
  obtain ⟨σ, M, D, hs, hv, ht, hd⟩ := h
  refine ⟨σ, M, _, hs, hv, ht, fun xs M1 J H1 q e1 v1 hJ => ?_⟩
  refine ⟨fun i m σ0 H => m = xs.length - i ∧ i ≤ xs.length ∧ ∃ σ M, RepSt X.K H σ σ0 ∧ View X.K H M ∧ rForL g tb D (xs.drop i) σ M ∧ Ext H1 H, ⟨_, rfl, Nat.zero_le _, σ, M1, hs.ext e1, v1, by simpa using q, .refl _⟩, ?_⟩
  rintro i m σ0 H ⟨rfl, hi, σ, M, hs, hv, hf, e⟩
  by_cases hlt : i < xs.length
  · have ed : xs.drop i = xs[i] :: xs.drop (i + 1) := by simp
    rw [ed] at hf
    obtain ⟨hgo, hy⟩ := hJ.turn i H e xs[i] (by simp)
    refine .inr ⟨hgo, fun σ0 H => ∃ σ M, RepSt X.K H σ σ0 ∧ View X.K H M ∧ rForL g tb D (xs.drop (i + 1)) σ M ∧ Ext H1 H, fun σ' H' h => ⟨_, by omega, rfl, hlt, h⟩, fun x H' y => ?_⟩
    obtain ⟨e2, w2, r2⟩ := hy x H' y
    refine ⟨xs[i], σ, M, _, r2, hs.ext e2, w2 M hv, hf, fun σ' M' σ0' H'' q e3 v3 r3 => ?_⟩
    have e13 := (e.trans e2).trans e3
    refine ⟨σ', M', _, r3, v3, q, ⟨fun σ4 M4 σ04 H4 q4 e4 v4 r4 => ⟨σ4, M4, r4, v4, q4, e13.trans e4⟩, (hd.ext (e1.trans e13)).rt, (hd.ext (e1.trans e13)).nx, fun σ4 M4 σ04 H4 q4 e4 v4 r4 => ⟨σ4, M4, r4, v4, q4, e13.trans e4⟩⟩⟩
  · have ei : i = xs.length := by omega
    subst ei
    rw [List.drop_length] at hf
    exact .inl ⟨hJ.stop _ H e (Nat.le_refl _), hd.nx σ M σ0 H hf (e1.trans e) hv hs⟩
end
/-! ### a comprehension's block -/
theorem closure_ok {env : Env} : ∀ (scope : Scope), (∀ y ∈ scope.names, y.2 = .free → ∃ c, env.cells.lookup y.1 = some c) → ∃ cl, closureFor scope env = pure cl ∧ (∀ y c, cl.lookup y = some c → env.cells.lookup y = some c) ∧ ∀ y ∈ scope.names, y.2 = .free → ∃ c, cl.lookup y.1 = some c := by
  intro scope h
  have all : ∀ (l : List (Str × NameKind)) (cs : List (Str × Addr)), (∀ y ∈ l, y.2 = .free → ∃ c, env.cells.lookup y.1 = some c) → (∀ y c, cs.lookup y = some c → env.cells.lookup y = some c) →
      ∃ cl, (forIn l cs fun (x : Str × NameKind) (r : List (Str × Addr)) => (match x with | (name, kind) => if (kind == NameKind.free) = true then do let c ← cellOf env name; pure (ForInStep.yield ((name, c) :: r)) else pure (ForInStep.yield r) : Sem (ForInStep (List (Str × Addr))))) = (pure cl : Sem _) ∧
        (∀ y c, cl.lookup y = some c → env.cells.lookup y = some c) ∧ (∀ y c, cs.lookup y = some c → ∃ c', cl.lookup y = some c') ∧ ∀ y ∈ l, y.2 = .free → ∃ c, cl.lookup y.1 = some c := by
    intro l
    induction l with
    | nil => intro cs _ h2; exact ⟨cs, by simp, h2, fun y c e => ⟨c, e⟩, fun y hy => by cases hy⟩
    | cons x l ih =>
      intro cs h1 h2
      obtain ⟨n, k⟩ := x
      by_cases hk : k = .free
      · subst hk
        obtain ⟨c, ec⟩ := h1 (n, .free) List.mem_cons_self rfl
        have e0 : cellOf env n = pure c := by unfold cellOf; rw [ec]
        obtain ⟨cl, e1, e2, e3, e4⟩ := ih ((n, c) :: cs) (fun y hy => h1 y (List.mem_cons_of_mem _ hy)) (fun y d e => by
          rw [List.lookup_cons] at e
          split at e
          · rename_i z; cases e; rw [eq_of_beq z]; exact ec
          · exact h2 y d e)
        refine ⟨cl, ?_, e2, fun y d e => ?_, fun y hy hf => ?_⟩
        · rw [List.forIn_cons]
          simp only [beq_self_eq_true, if_true, e0, pure_bind]
          exact e1
        · by_cases hy : y = n
          · subst hy; exact e3 y c (by simp)
          · exact e3 y d (by rw [List.lookup_cons, beq_eq_false_iff_ne.mpr hy]; exact e)
        · rcases List.mem_cons.mp hy with rfl | hy
          · exact e3 n c (by simp)
          · exact e4 y hy hf
      · obtain ⟨cl, e1, e2, e3, e4⟩ := ih cs (fun y hy => h1 y (List.mem_cons_of_mem _ hy)) h2
        have hb : (k == NameKind.free) = false := by simpa using hk
        refine ⟨cl, ?_, e2, e3, fun y hy hf => ?_⟩
        · rw [List.forIn_cons]
          simp only [hb, Bool.false_eq_true, if_false, pure_bind]
          exact e1
        · rcases List.mem_cons.mp hy with rfl | hy
          · exact absurd hf hk
          · exact e4 y hy hf
  obtain ⟨cl, e1, e2, _, e4⟩ := all scope.names [] h (fun y c e => by simp at e)
  refine ⟨cl, ?_, e2, e4⟩
  unfold closureFor
  have e5 := congrArg (fun m => m >>= fun r => (pure r : Sem (List (Str × Addr)))) e1
  simp only [pure_bind] at e5
  rw [← e5]
def relF (env : Env) (p : Str × NameKind) : Str × NameKind := if (p.2 == NameKind.free && env.scope.kind == .function && env.kindOf p.1 == some .cell) then (p.1, NameKind.cell) else (p.1, p.2)
theorem relF_eq (env : Env) (names : List (Str × NameKind)) : (names.map fun (n, k) => if (k == NameKind.free && env.scope.kind == .function && env.kindOf n == some .cell) then (n, NameKind.cell) else (n, k)) = names.map (relF env) := rfl
theorem relF_fst (env : Env) (p : Str × NameKind) : (relF env p).1 = p.1 := by unfold relF; split <;> rfl
theorem relF_snd (env : Env) (p : Str × NameKind) : (relF env p).2 = p.2 ∨ ((relF env p).2 = .cell ∧ p.2 = .free) := by
  unfold relF
  split
  · rename_i h
    rw [Bool.and_eq_true, Bool.and_eq_true] at h
    exact .inr ⟨rfl, eq_of_beq h.1.1⟩
  · exact .inl rfl
theorem lookup_relF {env : Env} {x : Str} : ∀ {names : List (Str × NameKind)}, (names.map (relF env)).lookup x = (names.find? fun p => x == p.1).map fun p => (relF env p).2
  | [] => rfl
  | p :: r => by
    rw [List.map_cons, List.find?_cons]
    obtain ⟨n, k⟩ := p
    have e : relF env (n, k) = (n, (relF env (n, k)).2) := Prod.ext (relF_fst env (n, k)) rfl
    rw [e, List.lookup_cons]
    cases hx : x == n with
    | true => rfl
    | false => exact lookup_relF
theorem lookup_find {x : Str} : ∀ {names : List (Str × NameKind)}, names.lookup x = (names.find? fun p => x == p.1).map fun p => p.2
  | [] => rfl
  | (n, k) :: r => by
    rw [List.lookup_cons, List.find?_cons]
    cases hx : x == n with
    | true => rfl
    | false => exact lookup_find
theorem relabel_back {env : Env} {names : List (Str × NameKind)} {x : Str} {k : NameKind} (hc : ∀ y ∈ names, y.2 ≠ .cell) (hk : k = .cell ∨ k = .free)
    (h : (names.map (relF env)).lookup x = some k) : names.lookup x = some .free := by
  rw [lookup_relF] at h
  rw [lookup_find]
  cases e : names.find? fun p => x == p.1 with
  | none => rw [e] at h; cases h
  | some p =>
    rw [e] at h
    have h' : (relF env p).2 = k := Option.some.inj h
    have hp := List.mem_of_find?_eq_some e
    show some p.2 = some .free
    rcases relF_snd env p with z | z
    · rcases hk with rfl | rfl
      · exact absurd (z.symm.trans h') (hc p hp)
      · rw [← h', z]
    · rw [z.2]
theorem relabel_free {env : Env} {names : List (Str × NameKind)} {x : Str} (h : names.lookup x = some .free) : (names.map (relF env)).lookup x = some .cell ∨ (names.map (relF env)).lookup x = some .free := by
  rw [lookup_find] at h
  rw [lookup_relF]
  cases e : names.find? fun p => x == p.1 with
  | none => rw [e] at h; cases h
  | some p =>
    rw [e] at h
    have h' : p.2 = .free := Option.some.inj h
    show some (relF env p).2 = some .cell ∨ some (relF env p).2 = some .free
    rcases relF_snd env p with z | z
    · right; rw [z, h']
    · left; rw [z.1]
def blk (X : Cx) (scope : Scope) (cl : List (Str × Addr)) (C : Addr) (Nc : List Str) (s : Shared) (H : Hp) (fp : List Addr) : Cx :=
  { X with N := Nc, s₀ := s, H₀ := H, env := compEnvC scope cl C X.env, outer := X.stack, ex := fp, fn := fun _ => false, pn := [], xe := fun _ _ => False }
theorem blk_ok {X : Cx} {pins : List (Addr × Obj)} {σ : L2.St} {H : Hp} {s : Shared} {scope : Scope} {cl : List (Str × Addr)} {C : Addr} {Nc : List Str} {fp : List Addr} (I : Inv X pins σ H s) (hf : ∀ b ∈ fp, FpOk X pins H b) (hlt : ∀ b ∈ fp, b < s.heap.objs.size)
    (hkind : scope.kind = .function) (hC : s.heap.objs.size ≤ C) (h1 : ∀ y c, cl.lookup y = some c → X.env.cells.lookup y = some c) (h2 : ∀ y ∈ scope.names, y.2 = .free → ∃ c, cl.lookup y.1 = some c) (hcell : ∀ y ∈ scope.names, y.2 ≠ .cell) :
    (blk X scope cl C Nc s H fp).Ok where
  mod := I.ok.mod
  kind := hkind
  glob := I.ok.glob
  blt := I.ok.blt
  above := hC
  inj := fun x y c e1 e2 => I.ok.inj x y c (h1 x c e1) (h1 y c e2)
  has := fun x hx => by
    have e : scope.names.lookup x = some .free := by
      rcases hx with hx | hx
      · exact relabel_back hcell (.inl rfl) hx
      · exact relabel_back hcell (.inr rfl) hx
    exact h2 (x, .free) (PySem.mem_of_lookup e) rfl
  cab := fun x c z => by cases z
  hd := I.ok.hd
  frames := I.ok.frames
  stk := .inl rfl
  exf := fun b hb => ⟨fun z => absurd (Nat.lt_of_lt_of_le (hlt b hb) hC) (by rw [show b = C from z]; exact Nat.lt_irrefl _), fun x c e => (hf b hb).2.2.2.2.1 x c (h1 x c e)⟩
  bs := fun b o e => I.bs b o e
  bsz := Nat.le_trans I.ok.bsz I.sz
  noex := fun b o e hb => by
    rcases (hf b hb).2.2.2.1 with z | z
    · exact I.ok.noex b o e z
    · exact absurd (Nat.lt_of_lt_of_le (Heap.lt_size e) (Nat.le_trans I.ok.bsz z)) (Nat.lt_irrefl _)
  exfs := fun b hb z => by
    rcases List.mem_cons.mp (I.stkSub b z) with e | e
    · exact (hf b hb).2.1 e
    · exact (hf b hb).2.2.1 e
  funs := I.stack
  frf := I.stkFree
end R

set_option Elab.async false
set_option linter.all false
set_option maxRecDepth 100000
set_option maxHeartbeats 1000000
namespace R
open PySem PySem.Spec PyProof.Rows L2
section
variable {prog : Program} {w : World} {A : Around} {R : Result → Shared → Prop} {s : Shared}
abbrev Nv : Value → Shared → Prop := fun _ _ => False
abbrev testsOf (ifs : List Expr) (env : Env) : Sem Bool := forIn ifs true fun c r => if r = true then do let ok ← isTrue c env (eval c env); pure (ForInStep.yield ok) else pure (ForInStep.yield r)
theorem comp_loop {elt target iter : Expr} {ifs : List Expr} {scope : Scope} {pos : Pos} {it acc : Value} {env : Env} (I : Nat → Shared → Prop)
    (turn : ∀ n s, I n s → wpAny (model prog w) A (pyNext it) (fun r s₁ => (r = none ∧ R (.ok .next) s₁) ∨ ∃ v, r = some v ∧ wpAny (model prog w) A (letOwnedTupleGo target it v) (fun _ s₁' => wpAny (model prog w) A (assign target env v) (fun _ s₂ =>
          wpAny (model prog w) A (testsOf ifs env) (fun ok s₃ =>
            if ok = true then wpAny (model prog w) A (eval elt env) (fun x s₄ =>
              wpAny (model prog w) A (call (.builtin "list.append") [acc, x]) (fun _ s₅ => ∃ m, m < n ∧ I m s₅) Nv s₄) Nv s₃
            else ∃ m, m < n ∧ I m s₃) Nv s₂) Nv s₁') Nv s₁) Nv s)
    (n : Nat) (h : I n s) :
    codeAny (model prog w) A (.compLoop (.ListComp elt [⟨target, iter, ifs, 0⟩] scope pos) 0 it acc env) R s := by
  refine codeAny_loop rfl I (fun n s hI => ?_) n h
  show wpAny _ A ((compTurn (.ListComp elt [⟨target, iter, ifs, 0⟩] scope pos) 0 it acc env).onRaise (fun x => do noteFrame x env; theTreesLotGoes x)) _ _ s
  refine wpAny_noted ?_
  rw [compTurn_list]
  refine wpAny_bind (wpAny_standAt (wpAny_bind (wpAny_mono (turn n s hI) (fun r s₁ h₁ => ?_) fun _ _ h' => h'.elim)))
  rcases h₁ with ⟨rfl, h₁⟩ | ⟨v, rfl, h₁⟩
  · exact wpAny_pure h₁
  · refine wpAny_bind (wpAny_mono h₁ (fun _ s₁' h₁' => ?_) fun _ _ h' => h'.elim)
    refine wpAny_bind (wpAny_mono h₁' (fun _ s₂ h₂ => wpAny_bind (wpAny_mono h₂ (fun ok s₃ h₃ => ?_) fun _ _ h' => h'.elim)) fun _ _ h' => h'.elim)
    cases ok with
    | false => exact wpAny_pure ⟨rfl, h₃⟩
    | true =>
      exact wpAny_bind (wpAny_bind (wpAny_mono h₃ (fun x s₄ h₄ => wpAny_bind (wpAny_mono h₄ (fun _ s₅ h₅ => wpAny_pure (wpAny_pure ⟨rfl, h₅⟩)) fun _ _ h' => h'.elim)) fun _ _ h' => h'.elim))
end
/-! ### the tests of a block -/
def RPTs (X : Cx) (ifs : List Expr) (t : RTT) : Prop :=
  ∀ (pins : List (Addr × Obj)) (s : Shared) (σ : L2.St) (H : Hp) (Q : Bool → Hp → Prop), Inv X pins σ H s → upT X.K t σ H Q → wpAny (model X.prog X.w) X.A (testsOf ifs X.env) (TP X pins σ Q) X.xe s
def rYes : RTT := fun _ M Q => Q true M
theorem tnil {X : Cx} : RPTs X [] rYes := by
  intro pins s σ0 H Q0 I h
  obtain ⟨σ, M, Q, hs, hv, ht, hk⟩ := h
  exact wpAny_pure ⟨H, I, hk true M H ht (.refl H) hv⟩
theorem tone {X : Cx} {c : Expr} {t : RTT} (h : RPT X c t) : RPTs X [c] t := by
  intro pins s σ0 H Q0 I hw
  have := h pins s σ0 H Q0 I hw
  unfold testsOf
  rw [List.forIn_cons]
  simp only [if_true, bind_assoc, pure_bind]
  refine wpAny_bind (thn this fun b s' q => ?_)
  simp only [List.forIn_nil]
  exact wpAny_pure q
def rCompL (tt : RTT) (te : RTE) (base : List (Option RV)) : List RV → List RV → RM → RVK → Prop
  | [], acc, M, Q => Q (.ls acc) M
  | x :: r, acc, M, Q => tt (some x :: base) M fun ok M1 => (ok = true → te (some x :: base) M1 fun v M2 => rCompL tt te base r (acc ++ [v]) M2 Q) ∧ (ok = false → rCompL tt te base r acc M1 Q)
def rComp (ti : RTI) (cap : List Nat) (tt : RTT) (te : RTE) : RTE := fun σ M Q => ti σ M fun xs M1 => xs.length < sizeLine ∧ rCompL tt te (cap.map fun i => (σ[i]?).join) xs [] M1 Q
section
variable {X : Cx}
theorem rcomp {elt iter : Expr} {x : Str} {px : Pos} {scope : Scope} {pos : Pos} {ti : RTI} {tt : RTT} {te : RTE} {ifs : List Expr} (caps : List (Nat × Str)) {osc : Scope} {oN : List Str}
    (hc : X.calm = true) (hi : RPI X (.Name x px) iter ti)
    (hif : ∀ cl C s H fp, RPTs (blk X scope cl C (x :: caps.map Prod.snd) s H fp) ifs tt)
    (hel : ∀ cl C s H fp, RPE (blk X scope cl C (x :: caps.map Prod.snd) s H fp) elt te)
    (hX : X.env.scope = osc) (hN : X.N = oN)
    (hcaps : ∀ p ∈ caps, oN[p.1]? = some p.2 ∧ scope.names.lookup p.2 = some .free ∧ (osc.names.lookup p.2 = some .cell ∨ osc.names.lookup p.2 = some .free))
    (hfr : ∀ y ∈ scope.names, y.2 = .free → (osc.names.lookup y.1 = some .cell ∨ osc.names.lookup y.1 = some .free))
    (hcell : ∀ y ∈ scope.names, y.2 ≠ .cell) (hkind : scope.kind = .function) (hnames : ∀ y ∈ scope.names, y.2 = .local → scope.names.lookup y.1 = some .local) (hx : scope.names.lookup x = some .local) (hnd : (x :: caps.map Prod.snd).Nodup)
    (hs : ∀ v, foldedSetIterable iter X.env v = pure v := by intro _; rfl) :
    RPE X (.ListComp elt [⟨.Name x px, iter, ifs, 0⟩] scope pos) (rComp ti (caps.map Prod.fst) tt te) := by
  subst hX; subst hN
  intro pins s σ0 H Q0 I hw
  obtain ⟨σ, M, Q, hst, hv, ht, hk⟩ := hw
  obtain ⟨cl, hclos, hcl1, hcl2⟩ := closure_ok scope fun y hy hf => I.ok.has y.1 (hfr y hy hf)
  rw [eval_ListComp]
  refine wpAny_comprehension_free (use := none) (cl := cl) rfl hs hclos hkind hnames ?_
  refine wpAny_mono (hi pins s σ0 H (fun J H1 => ∃ xs M1, Ext H H1 ∧ View X.K H1 M1 ∧ ItOf X.K J xs H1 ∧ xs.length < sizeLine ∧ rCompL tt te ((caps.map Prod.fst).map fun i => (σ[i]?).join) xs [] M1 Q) I ⟨σ, M, _, hst, hv, ht, fun xs M' J H' q e w hJ => ⟨xs, M', e, w, hJ, q.1, q.2⟩⟩)
    (fun v s1 h1 => wpAny_mono h1 (fun itv s2 h2 => ?_) fun _ _ e => e) fun _ _ e => e
  obtain ⟨it, fp, tn, J, H2, rfl, I2, T, st2, f2, xs, M1, e2, w2, hJ, hz, hq⟩ := h2
  have flt : ∀ b ∈ fp, b < s2.heap.objs.size := fun b hb => by obtain ⟨o, e, _⟩ := T.obj _ _ st2 b hb; exact Heap.lt_size e
  -- the list and the frame of the block
  refine wpAny_newObj_type (wpAny_newFunctionEnv hcell (by intro y hy; simp at hy) (fun h₁ hns₁ hsb₁ => ?_) hkind)
  dsimp only at hns₁ hsb₁ ⊢
  generalize hH2 : s2.heap.push { cls := .type "list", dict := none, data := .seq ([] : List Value).toArray } = hp2 at hns₁ hsb₁ ⊢
  have hCs : hp2.objs.size = s2.heap.objs.size + 1 := by rw [← hH2, Heap.size_push]
  have hDC : s2.heap.objs.size ≠ hp2.objs.size := by rw [hCs]; exact Nat.ne_of_lt (Nat.lt_succ_self _)
  have hCle : s2.heap.objs.size ≤ hp2.objs.size := by rw [hCs]; exact Nat.le_succ _
  have old : ∀ b o, s2.heap.get? b = some o → h₁.get? b = some o := fun b o e => hsb₁.extBut b o (Nat.ne_of_lt (by rw [hCs]; exact Nat.lt_succ_of_lt (Heap.lt_size e))) (Heap.get?_push_of_some _ (hH2 ▸ Heap.get?_push_of_some _ e))
  have hacc : h₁.get? s2.heap.objs.size = some { cls := .type "list", data := .seq ([] : List Value).toArray } := hsb₁.extBut _ _ hDC (Heap.get?_push_of_some _ (hH2 ▸ Heap.get?_push_size _ rfl))
  generalize hD : s2.heap.objs.size = D at *
  generalize hCg : hp2.objs.size = C at *
  have hDfp : ∀ b ∈ fp, b ≠ D := fun b hb => Nat.ne_of_lt (flt b hb)
  have okB : (blk X scope cl C (x :: caps.map Prod.snd) s2 H2 fp).Ok := blk_ok I2 f2 (by rw [hD]; exact flt) hkind (by rw [hD]; exact hCle) hcl1 hcl2 hcell
  have fr : ∀ b, D ≤ b → H2 b = none := fun b hb => I2.hok.fresh (by rw [hD]; exact hb)
  -- the captured values
  have capsV : ∃ cv : List (Option V), cv.length = caps.length ∧ (∀ (j : Nat) v, cv[j]? = some (some v) → ∃ p, caps[j]? = some p ∧ σ0[p.1]? = some (some v)) ∧
      ∀ (j : Nat) r, ((caps.map Prod.fst).map fun i => (σ[i]?).join)[j]? = some (some r) → ∃ v, cv[j]? = some (some v) ∧ Rep X.K H2 r v := by
    refine ⟨caps.map fun p => (σ0[p.1]?).join, by simp, fun j v e => ?_, fun j r e => ?_⟩
    · rw [List.getElem?_map] at e
      cases q : caps[j]? with
      | none => rw [q] at e; cases e
      | some p =>
        rw [q] at e
        have e' : (σ0[p.1]?).join = some v := Option.some.inj e
        refine ⟨p, rfl, ?_⟩
        cases z : σ0[p.1]? with
        | none => rw [z] at e'; cases e'
        | some o => rw [z] at e'; have : o = some v := e'; rw [this]
    · rw [List.getElem?_map, List.getElem?_map] at e
      cases q : caps[j]? with
      | none => rw [q] at e; cases e
      | some p =>
        rw [q] at e
        have e' : (σ[p.1]?).join = some r := Option.some.inj e
        have e'' : σ[p.1]? = some (some r) := by
          cases z : σ[p.1]? with
          | none => rw [z] at e'; cases e'
          | some o => rw [z] at e'; have : o = some r := e'; rw [this]
        obtain ⟨v, h1, h2⟩ := hst.2 p.1 r e''
        refine ⟨v, ?_, Rep.ext e2 r v h2⟩
        rw [List.getElem?_map, q]
        show some ((σ0[p.1]?).join) = _
        rw [h1]; rfl
  obtain ⟨cv, cvl, cv1, cv2⟩ := capsV
  -- the block's state at its start
  have I3 : Inv (blk X scope cl C (x :: caps.map Prod.snd) s2 H2 fp) [(D, { cls := .type "list", data := .seq ([] : List Value).toArray })] (none :: cv) H2 { s2 with heap := h₁, toks := s2.toks + ([] : List (Str × Value)).length } := by
    refine ⟨okB, rfl, I2.bare, Un.kept old, ⟨_, hns₁, fun i y v a b c => ?_⟩, fun y c e => ?_, fr C hCle, fun y c e => I2.freeC y c (hcl1 y c e), fun p hp => ?_, I2.hok.kept old, ?_⟩
    · cases i with
      | zero => cases b
      | succ j =>
        obtain ⟨p, q1, q2⟩ := cv1 j v b
        have hy : p.2 = y := by
          have a' : (caps.map Prod.snd)[j]? = some y := a
          rw [List.getElem?_map, q1] at a'
          exact Option.some.inj a'
        subst hy
        obtain ⟨z1, z2, z3⟩ := hcaps p (List.mem_of_getElem? q1)
        obtain ⟨m, hn, hl⟩ := I2.loc
        have vis : Vis X.env.scope p.2 := by rcases z3 with z | z; exact .inr (.inl z); exact .inr (.inr z)
        obtain ⟨u, ru, lk⟩ := hl p.1 p.2 v z1 q2 vis
        refine ⟨u, ru, .inr ⟨relabel_free z2, ?_⟩⟩
        obtain ⟨c, ec⟩ := hcl2 (p.2, .free) (PySem.mem_of_lookup z2) rfl
        have ec' := hcl1 p.2 c ec
        rcases lk with ⟨k, _⟩ | ⟨_, c', e', ic⟩
        · have k' : X.env.scope.names.lookup p.2 = some .local := k
          rcases z3 with z | z <;> (rw [z] at k'; cases k')
        · rw [ec'] at e'; cases e'
          obtain ⟨o, ho, hd⟩ := ic
          exact ⟨c, ec, o, old c o ho, hd⟩
    · obtain ⟨v, o, ho, hd⟩ := I2.cell y c (hcl1 y c e)
      exact ⟨v, o, old c o ho, hd⟩
    · have hp' : p = (D, { cls := .type "list", data := .seq ([] : List Value).toArray }) := by simpa [blk] using hp
      subst hp'
      refine ⟨hacc, fr D (Nat.le_refl _), hDC, fun z => ?_, fun v => by simp⟩
      have := I2.stkFree D z
      rcases List.mem_cons.mp (I2.stkSub D z) with e | e
      · exact absurd I2.lt (by rw [← e, hD]; exact Nat.lt_irrefl _)
      · exact I2.nofs (by rw [hD]; exact Nat.le_refl _) e
    · show (none :: cv).length = (x :: caps.map Prod.snd).length
      simp [cvl]
  -- the loop
  have W : ∀ s3 : Shared, s3 = { s2 with heap := h₁, toks := s2.toks + ([] : List (Str × Value)).length } → codeAny (model X.prog X.w) X.A (.compLoop (.ListComp elt [⟨.Name x px, iter, ifs, 0⟩] scope pos) 0 (.ref it) (.ref D) (compEnvC scope cl C X.env))
      (compPost (model X.prog X.w) X.A X.xe none (EP X pins σ0 Q0) (.ref D) C) s3 := by
    rintro s3 rfl
    refine comp_loop (fun n s' => ∃ (i : Nat) (v0 : Option V) (H' : Hp) (M' : RM) (accR : List RV) (accV : List V) (its : List Value) (k : Nat), n = xs.length - i ∧ i ≤ xs.length ∧ accR.length ≤ i ∧
        Inv (blk X scope cl C (x :: caps.map Prod.snd) s2 H2 fp) [(D, { cls := .type "list", data := .seq its.toArray k })] (v0 :: cv) H' s' ∧ View X.K H' M' ∧ Ext H2 H' ∧ Reps X.K H' accR accV ∧ Vals accV its ∧ tn i s'.heap ∧ (∀ b ∈ fp, H' b = none) ∧
        rCompL tt te ((caps.map Prod.fst).map fun i => (σ[i]?).join) (xs.drop i) accR M' Q) ?_ xs.length ⟨0, none, H2, M1, [], [], [], 0, rfl, Nat.zero_le _, Nat.le_refl _, I3, w2, .refl _, Reps.nil, .nil, T.keep _ _ _ st2 fun b _ o e => old b o e, fun b hb => (f2 b hb).1, by simpa using hq⟩
    rintro n s' ⟨i, v0, H', M', accR, accV, its, k, rfl, hi, hal, I4, w4, e4, ra, rl, st4, f4, hq4⟩
    have fpB : ∀ (pins' : List (Addr × Obj)) (H'' : Hp), (∀ b ∈ fp, H'' b = none) → (∀ p ∈ pins', ∀ b ∈ fp, p.1 ≠ b) → ∀ b ∈ fp, FpOk (blk X scope cl C (x :: caps.map Prod.snd) s2 H2 fp) pins' H'' b := fun pins' H'' h1 h2 b hb =>
      ⟨h1 b hb, (okB.exf b hb).1, okB.exfs b hb, .inl hb, (okB.exf b hb).2, fun p hp => h2 p (by simpa [blk] using hp) b hb⟩
    have pD : ∀ (o : Obj), ∀ p ∈ [(D, o)], ∀ b ∈ fp, p.1 ≠ b := fun o p hp b hb => by
      have : p = (D, o) := by simpa using hp
      subst this
      exact (hDfp b hb).symm
    by_cases hlt : i < xs.length
    · obtain ⟨hgo, hy⟩ := hJ.turn i H' e4 xs[i] (by simp)
      refine thn (T.item (blk X scope cl C (x :: caps.map Prod.snd) s2 H2 fp) rfl rfl rfl hc i _ s' _ H' Nv I4 (fpB _ _ f4 (pD _)) st4 hgo) fun r s5 ⟨u, hr, h5⟩ => .inr ⟨u, hr, ?_⟩
      refine thn h5 fun _ s6 ⟨xv, H6, I6, r6, y6, st6, f6⟩ => ?_
      obtain ⟨e6, w6, rr6⟩ := hy xv H6 y6
      have I6' := I6.pinned (fpB _ _ f6 (pD _)) (T.obj _ _ st6)
      refine thn (pg_name (X := blk X scope cl C (x :: caps.map Prod.snd) s2 H2 fp) (i := 0) hnd rfl (.inl (lookup_relabel_local hx)) (.inr (lookup_relabel_local hx)) _ s6 _ H6 xv u (fun σ' H' => σ' = (some xv :: cv) ∧ H' = H6) I6' r6 ⟨rfl, rfl⟩) fun _ s7 ⟨σ7, H7, I7, q7, q7'⟩ => ?_
      obtain rfl := q7
      subst q7'
      have ed : xs.drop i = xs[i] :: xs.drop (i + 1) := by simp
      rw [ed] at hq4
      have base : ∀ {Hx : Hp}, Ext H7 Hx → RepSt X.K Hx (some xs[i] :: (caps.map Prod.fst).map fun i => (σ[i]?).join) (some xv :: cv) := fun {Hx} ex => by
        refine ⟨by simp [cvl], fun j r e => ?_⟩
        cases j with
        | zero =>
          have e' : xs[i] = r := by simpa using e
          subst e'
          exact ⟨xv, rfl, Rep.ext ex _ _ rr6⟩
        | succ j =>
          obtain ⟨v, a, b⟩ := cv2 j r (by simpa using e)
          exact ⟨v, by simpa using a, Rep.ext (e4.trans (e6.trans ex)) r v b⟩
      have next : ∀ (M8 : RM) (H8 : Hp) (s8 : Shared) (accR' : List RV) (accV' : List V) (its' : List Value) (k' : Nat), accR'.length ≤ i + 1 →
          Inv (blk X scope cl C (x :: caps.map Prod.snd) s2 H2 fp) ([(D, { cls := .type "list", data := .seq its'.toArray k' })] ++ pinsAt fp s6.heap) (some xv :: cv) H8 s8 → View X.K H8 M8 → Ext H7 H8 → Reps X.K H8 accR' accV' → Vals accV' its' →
          rCompL tt te ((caps.map Prod.fst).map fun i => (σ[i]?).join) (xs.drop (i + 1)) accR' M8 Q → ∃ m, m < xs.length - i ∧ ∃ (i : Nat) (v0 : Option V) (H' : Hp) (M' : RM) (accR : List RV) (accV : List V) (its : List Value) (k : Nat), m = xs.length - i ∧ i ≤ xs.length ∧ accR.length ≤ i ∧
        Inv (blk X scope cl C (x :: caps.map Prod.snd) s2 H2 fp) [(D, { cls := .type "list", data := .seq its.toArray k })] (v0 :: cv) H' s8 ∧ View X.K H' M' ∧ Ext H2 H' ∧ Reps X.K H' accR accV ∧ Vals accV its ∧ tn i s8.heap ∧ (∀ b ∈ fp, H' b = none) ∧
        rCompL tt te ((caps.map Prod.fst).map fun i => (σ[i]?).join) (xs.drop i) accR M' Q := by
        intro M8 H8 s8 accR' accV' its' k' hl' I8 w8 e8 ra' rl' hq8
        have keep8 : ∀ b ∈ fp, ∀ o, s6.heap.get? b = some o → s8.heap.get? b = some o ∧ H8 b = none := fun b hb o e => by
          have := I8.pin (b, o) (List.mem_append_right _ (List.mem_append_right _ (mem_pinsAt hb e)))
          exact ⟨this.1, this.2.1⟩
        refine ⟨xs.length - (i + 1), by omega, i + 1, some xv, H8, M8, accR', accV', its', k', rfl, hlt, hl', I8.unpinned, w8, e4.trans (e6.trans e8), ra', rl', T.keep _ _ _ st6 fun b hb o e => (keep8 b hb o e).1, fun b hb => ?_, hq8⟩
        obtain ⟨o, e, _⟩ := T.obj _ _ st6 b hb
        exact (keep8 b hb o e).2
      refine thn (hif cl C s2 H2 fp _ s7 _ H7 (fun ok H8 => ∃ M8, View X.K H8 M8 ∧ Ext H7 H8 ∧ (ok = true → te (some xs[i] :: (caps.map Prod.fst).map fun i => (σ[i]?).join) M8 fun v M2 => rCompL tt te ((caps.map Prod.fst).map fun i => (σ[i]?).join) (xs.drop (i + 1)) (accR ++ [v]) M2 Q) ∧
        (ok = false → rCompL tt te ((caps.map Prod.fst).map fun i => (σ[i]?).join) (xs.drop (i + 1)) accR M8 Q)) I7 ⟨_, M', _, base (.refl _), w6 M' w4, hq4, fun b M8 H8 q e w => ⟨M8, w, e, q.1, q.2⟩⟩) fun ok s8 ⟨H8, I8, M8, w8, e8, qt, qf⟩ => ?_
      cases ok with
      | false =>
        exact next M8 H8 s8 accR accV its k (by omega) I8 w8 e8 (Reps.ext (e6.trans e8) _ _ ra) rl (qf rfl)
      | true =>
        refine thn (hel cl C s2 H2 fp _ s8 _ H8 (fun v H9 => ∃ rv M9, View X.K H9 M9 ∧ Ext H8 H9 ∧ Rep X.K H9 rv v ∧ rCompL tt te ((caps.map Prod.fst).map fun i => (σ[i]?).join) (xs.drop (i + 1)) (accR ++ [rv]) M9 Q) I8 ⟨_, M8, _, base e8, w8, qt rfl, fun rv M9 v H9 q e w r => ⟨rv, M9, w, e, r, q⟩⟩) fun y s9 ⟨yv, H9, I9, r9, rv, M9, w9, e9, rr9, hq9⟩ => ?_
        have pD9 := I9.pin (D, { cls := .type "list", data := .seq its.toArray k }) (List.mem_append_right _ (List.mem_append_left _ List.mem_cons_self))
        have hlen : its.length ≤ i := by rw [← rl.length, ← ra.length]; exact hal
        refine call_meets F.slot_list_append ⟨_, pD9.1, rfl⟩ F.entry_list_append (F.args_list_append_2 _ _) (PySem.list_append D its.toArray k y (by rw [List.size_toArray]; omega)) ⟨pD9.1, ?_⟩
        have q := PySem.IsL.update pD9.1 (fun x_1 => x_1.push y)
        have hpush : its.toArray.push y = (its ++ [y]).toArray := by simp
        rw [hpush] at q
        obtain ⟨k', q⟩ : ∃ k', (s9.heap.update D (Obj.mapSeq fun x_1 => x_1.push y)).get? D = some { cls := .type "list", data := .seq (its ++ [y]).toArray k' } := ⟨_, q⟩
        have I10 : Inv (blk X scope cl C (x :: caps.map Prod.snd) s2 H2 fp) (pinsAt fp s6.heap) (some xv :: cv) H9 { s9 with heap := s9.heap.update D (Obj.mapSeq fun x_1 => x_1.push y), toks := s9.toks } := by
          refine Inv.turned (it := D) (I9.pins_of fun p hp => I9.pin p (List.mem_append_right _ (List.mem_append_right _ hp))) (fun b o hb e => (Heap.get?_update_other _ _ (Ne.symm hb)).trans e) pD9.2.1 pD9.2.2.1 (.inr (by show s2.heap.objs.size ≤ D; rw [hD]; exact Nat.le_refl _)) (fun z c e => ?_) fun p hp => ?_
          · obtain ⟨v, o, ho, hd⟩ := I2.cell z c (hcl1 z c e)
            exact Nat.ne_of_lt (by have := Heap.lt_size ho; rw [hD] at this; exact this)
          · have hp' : p ∈ pinsAt fp s6.heap := by simpa [blk] using hp
            exact hDfp p.1 (of_pinsAt hp').1
        have I11 : Inv (blk X scope cl C (x :: caps.map Prod.snd) s2 H2 fp) ([(D, { cls := .type "list", data := .seq (its ++ [y]).toArray k' })] ++ pinsAt fp s6.heap) (some xv :: cv) H9 { s9 with heap := s9.heap.update D (Obj.mapSeq fun x_1 => x_1.push y), toks := s9.toks } := by
          refine I10.pins_of fun p hp => ?_
          rcases List.mem_append.mp hp with hp | hp
          · have : p = (D, { cls := .type "list", data := .seq (its ++ [y]).toArray k' }) := by simpa using hp
            subst this
            exact ⟨q, pD9.2.1, pD9.2.2.1, pD9.2.2.2.1, fun v => by simp⟩
          · exact I10.pin p (List.mem_append_right _ hp)
        exact next M9 H9 _ (accR ++ [rv]) (accV ++ [yv]) (its ++ [y]) k' (by rw [List.length_append, List.length_singleton]; omega) I11 w9 (e8.trans e9) ((Reps.ext (e6.trans (e8.trans e9)) _ _ ra).append (Reps.cons rr9 Reps.nil)) (rl.append (.cons r9 .nil)) hq9
    · have ei : i = xs.length := by omega
      subst ei
      refine thn (T.done (blk X scope cl C (x :: caps.map Prod.snd) s2 H2 fp) rfl rfl rfl hc _ _ s' _ H' Nv I4 (fpB _ _ f4 (pD _)) st4 (hJ.stop _ H' e4 (Nat.le_refl _))) fun r s5 ⟨hr, I5⟩ => .inl ⟨hr, ?_⟩
      rw [List.drop_length] at hq4
      obtain ⟨m5, hn5, _⟩ := I5.loc
      refine ⟨m5, hn5, fun h' sb => ?_⟩
      have pD5 := I5.pin (D, { cls := .type "list", data := .seq its.toArray k }) (List.mem_append_right _ List.mem_cons_self)
      have hDh : h'.get? D = some { cls := .type "list", data := .seq its.toArray k } := sb.extBut _ _ hDC pD5.1
      have hC5 : H' C = none := I5.free
      have hz' : accV.length ≤ sizeLine := by rw [← ra.length]; omega
      have hok5 : HOk X.prog X.w (upd H' D (.frz { cls := .type "list", data := .seq its.toArray k } (.lst accV))) h' := fun b u q => by
        by_cases hb : b = D
        · subst hb; rw [upd_same] at q; cases q
          exact ⟨hDh, hz', its, k, rl, hDh⟩
        · rw [upd_ne hb] at q
          refine (I5.hok b u q).stay (fun c v hcb e => sb.extBut c v ?_ e) (fun c e => ?_) fun c ys e => ?_
          · rcases hcb with rfl | e'
            · exact ne_of_none q hC5
            · exact ne_of_none e' hC5
          · rw [upd_ne (ne_of_none e pD5.2.1)]; exact e
          · rw [upd_ne (ne_of_none e pD5.2.1)]; exact e
      have un5 : Un (frs X.stack) fp H2 (upd H' D (.frz { cls := .type "list", data := .seq its.toArray k } (.lst accV))) s2.heap h' := by
        have B : Un (frs X.stack) fp H2 H' s2.heap s5.heap := I5.base
        have nC : ∀ b o, s2.heap.get? b = some o → b ≠ C := fun b o e => Nat.ne_of_lt (Nat.lt_of_lt_of_le (Heap.lt_size e) (by rw [hD]; exact hCle))
        have nD : ∀ b o, s2.heap.get? b = some o → b ≠ D := fun b o e => Nat.ne_of_lt (by have := Heap.lt_size e; rw [hD] at this; exact this)
        refine ⟨fun b o a1 a2 a3 a4 => sb.extBut b o (nC b o a1) (B.keep b o a1 a2 a3 a4), fun b o a1 a2 a3 a4 => ?_, fun b o a1 a2 a4 => ?_, fun b o a1 a4 => ?_, fun b ys a => ?_, fun b o u a => ?_, fun b ps a => ?_⟩
        · obtain ⟨sl, e⟩ := B.slot b o a1 a2 a3 a4
          exact ⟨sl, sb.extBut b _ (nC b o a1) e⟩
        · rw [upd_ne (nD b o a1)]; exact B.free b o a1 a2 a4
        · obtain ⟨o', e⟩ := B.there b o a1 a4
          exact ⟨o', sb.extBut b o' (nC b o a1) e⟩
        · have e := B.tups b ys a; rw [upd_ne (ne_of_none e pD5.2.1)]; exact e
        · have e := B.frzs b o u a; rw [upd_ne (ne_of_none e pD5.2.1)]; exact e
        · obtain ⟨more, e⟩ := B.tbls b ps a; exact ⟨more, by rw [upd_ne (ne_of_none e pD5.2.1)]; exact e⟩
      have I6 : Inv X pins σ0 (upd H' D (.frz { cls := .type "list", data := .seq its.toArray k } (.lst accV))) { s5 with heap := h' } := I2.call' (ch := fp) I5.os un5 hok5 I5.bare fun b hb => ⟨(f2 b hb).2.2.2.1, (f2 b hb).2.1, (f2 b hb).2.2.2.2.1, (f2 b hb).2.2.2.2.2⟩
      refine ⟨.ref D, _, I6, rfl, hk _ M' _ _ hq4 ((e2.trans e4).trans (Ext.new pD5.2.1)) (w4.new pD5.2.1) (rep_ls pD5.2.1 ra)⟩
  exact codeAny_compStart_list (W _ rfl) (T.self X.A 0 _ _ _ (T.keep _ _ _ st2 fun b _ o e => old b o e) (W _ rfl))
end
end R

set_option Elab.async false
set_option linter.all false
set_option maxRecDepth 100000
set_option maxHeartbeats 1000000
namespace R
open PySem PySem.Spec PyProof.Rows L2
def keyR : RV → Option Key
  | .int i => some (.inl i)
  | .str x => some (.inr x)
  | _ => none
def lookK {α : Type} (kvs : List (Key × α)) (k : Key) : Option α := (kvs.find? fun p => decide (p.1 = k)).map (·.2)
theorem keyR_kV {K : PySem.W.Frag} {H : Hp} {a : RV} {x : V} {k : Key} (e : keyR a = some k) (r : Rep K H a x) : x = kV k := by
  cases a with
  | int i => cases e; simp only [Rep] at r; exact r
  | str y => cases e; simp only [Rep] at r; exact r
  | _ => cases e
theorem repP_look {K : PySem.W.Frag} {H : Hp} {k : Key} : ∀ {kvs : List (Key × RV)} {ws : List (Key × V)}, RepP K H kvs ws → (∀ r, lookK kvs k = some r → ∃ v, valV ws k = some v ∧ Rep K H r v) ∧ (lookK kvs k = none → valV ws k = none)
  | [], ws, h => by
    have h : ws = [] := h
    subst h
    exact ⟨fun r e => (by cases e), fun _ => rfl⟩
  | (j, x) :: t, ws, h => by
    obtain ⟨v, u, rfl, h1, h2⟩ := h
    have ih := repP_look (k := k) h2
    unfold lookK
    rw [List.find?_cons]
    by_cases hj : j = k
    · rw [decide_eq_true (show (j, x).1 = k from hj)]
      refine ⟨fun r e => ⟨v, valV_pos (p := (j, v)) hj, ?_⟩, fun e => (by cases e)⟩
      cases e; exact h1
    · rw [decide_eq_false (show ¬ (j, x).1 = k from hj)]
      refine ⟨fun r e => ?_, fun e => ?_⟩
      · rw [valV_neg (p := (j, v)) hj]; exact ih.1 r e
      · rw [valV_neg (p := (j, v)) hj]; exact ih.2 e
theorem mergeK_nodup : ∀ (ws acc : List (Key × V)), ((acc ++ ws).map Prod.fst).Nodup → mergeK acc ws = acc ++ ws
  | [], acc, _ => by simp [mergeK]
  | p :: r, acc, h => by
    have e : valV acc p.1 = none := by
      cases q : valV acc p.1 with
      | none => rfl
      | some v =>
        have m := valV_in q
        rw [List.map_append, List.map_cons, List.nodup_append] at h
        exact absurd rfl (h.2.2 p.1 m p.1 List.mem_cons_self)
    show mergeK (putK acc p.1 p.2) r = _
    rw [putK_new _ e, mergeK_nodup r (acc ++ [(p.1, p.2)]) (by simpa using h)]
    simp
/-! ### a dict of the module's top -/
structure KTab (P : Program) (w : World) (K : PySem.W.Frag) (mg : Str → Option Value) (x : Str) (kvs : List (Key × RV)) : Prop where
  ex : ∃ (a : Addr) (vs : List (Key × Value)) (ws : List (Key × V)), mg x = some (.ref a) ∧ (a == sysModules) = false ∧ (∀ h : Heap, K.In h → h.DictOf (mixKind P w) a vs) ∧ KV ws vs ∧ ∀ H, RepP K H kvs ws
def KRows (w : World) : List DictEntry → List (Str × Value) → Prop
  | [], [] => True
  | e :: es, (x, v) :: r => (∃ t, e.key = .str x t) ∧ e.hash = hashStr w x ∧ e.val = v ∧ KRows w es r
  | _, _ => False
theorem krows_pairs {P : Program} {w : World} : ∀ {es : List DictEntry} {vs : List (Str × Value)}, KRows w es vs →
    (∀ e ∈ es, ∃ k, (mixKind P w).is k e.key = true ∧ e.hash = (mixKind P w).hash k) ∧ Pairs (mixKind P w) es (vs.map fun p => ((Sum.inr p.1 : Key), p.2))
  | [], [], _ => ⟨fun _ h => (by cases h), Pairs.nil⟩
  | e :: es, (x, v) :: r, h => by
    obtain ⟨⟨t, h1⟩, h2, h3, h4⟩ := h
    obtain ⟨ih1, ih2⟩ := krows_pairs (P := P) (w := w) h4
    have hi : (mixKind P w).is (.inr x) e.key = true := by rw [h1]; exact mixKind_str P w x t
    refine ⟨fun e' he => ?_, ?_⟩
    · rcases List.mem_cons.mp he with rfl | he
      · exact ⟨.inr x, hi, h2⟩
      · exact ih1 e' he
    · subst h3
      exact Pairs.cons hi rfl ih2
theorem nodup_inr : ∀ {l : List Str}, l.Nodup → (l.map (Sum.inr : Str → Key)).Nodup
  | [], _ => List.nodup_nil
  | a :: r, h => by
    obtain ⟨h1, h2⟩ := List.nodup_cons.mp h
    rw [List.map_cons]
    refine List.nodup_cons.mpr ⟨fun m => ?_, nodup_inr h2⟩
    obtain ⟨b, hb, e⟩ := List.mem_map.mp m
    cases e
    exact h1 hb
theorem ktab_mk {P : Program} {w : World} {K : PySem.W.Frag} {mg : Str → Option Value} {x : Str} {a : Addr} {es : Array DictEntry} {ep : Nat} {sl : Array (Option Value)} {vs : List (Str × Value)} {kvs : List (Key × RV)} {ws : List (Key × V)}
    (hm : mg x = some (.ref a)) (l : K.lookup a = some ⟨.type "dict", none, .dict es ep, sl⟩) (ha : (a == sysModules) = false) (hr : KRows w es.toList vs) (hn : (vs.map Prod.fst).Nodup)
    (hsl : Obj.ExactDict ⟨.type "dict", none, .dict es ep, sl⟩) (hk : KV ws (vs.map fun p => ((Sum.inr p.1 : Key), p.2))) (hp : ∀ H, RepP K H kvs ws) : KTab P w K mg x kvs := by
  obtain ⟨h1, h2⟩ := krows_pairs (P := P) hr
  refine ⟨a, _, ws, hm, ha, fun h X => ⟨_, es, ep, X _ _ l, hsl, rfl, fun e he => h1 e (by simpa using he), h2, ?_⟩, hk, hp⟩
  have : (vs.map fun p => ((Sum.inr p.1 : Key), p.2)).map (·.1) = (vs.map Prod.fst).map Sum.inr := by simp [List.map_map, Function.comp_def]
  rw [this]
  exact nodup_inr hn
section
variable {X : Cx}
def rTab (kvs : List (Key × RV)) (te : RTE) : RTE := fun σ M Q => te σ M fun k M1 => match keyR k with
  | some key => (match lookK kvs key with | some v => Q v M1 | none => False)
  | none => False
theorem rtab {x : Str} {kvs : List (Key × RV)} {e : Expr} {te : RTE} {p pos : Pos} (T : KTab X.prog X.w X.K X.mg x kvs) (he : RPE X e te) (hs : NoSl e := by intro _ _; rfl) (hg : Gl X x := by rfl) (hd : (x == ("__debug__" : Str)) = false := by decide) :
    RPE X (.Subscript (.Name x p) e pos) (rTab kvs te) := by
  obtain ⟨a, vs, ws, hm, ha, hD, hk, hr⟩ := T.ex
  intro pins s σ0 H Q0 I h
  obtain ⟨σ, M, Q, hs', hv, ht, hq⟩ := h
  refine subD_of PySem.F.slot_dict_getitem.lookup hs (ld_glob I hg hm (thn (he pins s σ0 H (fun v H1 => ∃ r M1, Rep X.K H1 r v ∧ Ext H H1 ∧ View X.K H1 M1 ∧ (match keyR r with
    | some key => (match lookK kvs key with | some v => Q v M1 | none => False)
    | none => False)) I ⟨σ, M, _, hs', hv, ht, fun r M1 v H1 q e w r1 => ⟨r, M1, r1, e, w, q⟩⟩) fun iv s2 ⟨y, H2, I2, ry, r, M2, rr, e2, w2, q2⟩ => ?_) hd)
  have dd := hD _ I2.kIn
  refine ⟨dd.typeIs, ?_⟩
  cases ek : keyR r with
  | none => rw [ek] at q2; exact q2.elim
  | some key =>
    rw [ek] at q2
    simp only at q2
    cases el : lookK kvs key with
    | none => rw [el] at q2; exact q2.elim
    | some rv =>
      rw [el] at q2
      simp only at q2
      obtain ⟨v, e1, r1⟩ := (repP_look (k := key) (hr H2)).1 rv el
      have := keyR_kV ek rr
      subst this
      obtain ⟨w', hw, rw'⟩ := RelO.some_of (v := v) (o := valueAt vs key) (by rw [← e1]; exact hk.val key)
      exact wpAny_getItem_of (kV_is ry) dd.mapOf hw ⟨v, H2, I2.tok _, rw', hq rv M2 v H2 q2 e2 w2 r1⟩
/-- x in T, x not in T -/
def rTabIn (neg : Bool) (kvs : List (Key × RV)) (te : RTE) : RTE := fun σ M Q => te σ M fun k M1 => match keyR k with
  | some key => Q (.bl (if neg then !(lookK kvs key).isSome else (lookK kvs key).isSome)) M1
  | none => False
theorem tab_isSome {K : PySem.W.Frag} {H : Hp} {kvs : List (Key × RV)} {ws : List (Key × V)} {vs : List (Key × Value)} {key : Key} (hk : KV ws vs) (hr : RepP K H kvs ws) : (valueAt vs key).isSome = (lookK kvs key).isSome := by
  rw [← (hk.val key).isSome_eq]
  cases el : lookK kvs key with
  | none => rw [(repP_look (k := key) hr).2 el]; rfl
  | some rv => obtain ⟨v, e1, _⟩ := (repP_look (k := key) hr).1 rv el; rw [e1]; rfl
theorem rtabin_core {x : Str} {kvs : List (Key × RV)} {e : Expr} {te : RTE} {p : Pos} {op : CmpOp} {neg : Bool} (T : KTab X.prog X.w X.K X.mg x kvs) (he : RPE X e te) (hop : (op = .In ∧ neg = false) ∨ (op = .NotIn ∧ neg = true)) (hg : Gl X x) (hd : (x == ("__debug__" : Str)) = false) :
    PC X op e (.Name x p) (up X.K (rTabIn neg kvs te)) := by
  obtain ⟨a, vs, ws, hm, ha, hD, hk, hr⟩ := T.ex
  intro pins s σ0 H Q0 I h
  obtain ⟨σ, M, Q, hs', hv, ht, hq⟩ := h
  refine thn (he pins s σ0 H (fun v H1 => ∃ r M1, Rep X.K H1 r v ∧ Ext H H1 ∧ View X.K H1 M1 ∧ (match keyR r with
    | some key => Q (.bl (if neg then !(lookK kvs key).isSome else (lookK kvs key).isSome)) M1
    | none => False)) I ⟨σ, M, _, hs', hv, ht, fun r M1 v H1 q e w r1 => ⟨r, M1, r1, e, w, q⟩⟩) fun iv s2 ⟨y, H2, I2, ry, r, M2, rr, e2, w2, q2⟩ => ?_
  refine ld_glob I2 hg hm ?_ hd
  have dd := hD _ I2.kIn
  cases ek : keyR r with
  | none => rw [ek] at q2; exact q2.elim
  | some key =>
    rw [ek] at q2
    simp only at q2
    have := keyR_kV ek rr
    subst this
    rcases hop with ⟨rfl, rfl⟩ | ⟨rfl, rfl⟩
    · refine wpAny_in_of (kV_is ry) ha dd.mapOf ?_
      rw [tab_isSome hk (hr H2)]
      exact ⟨.bl (lookK kvs key).isSome, H2, I2.tok _, rfl, hq _ M2 _ H2 q2 e2 w2 (by simp only [Rep]; rfl)⟩
    · refine wpAny_notIn_of (kV_is ry) ha dd.mapOf ?_
      rw [tab_isSome hk (hr H2)]
      exact ⟨.bl (!(lookK kvs key).isSome), H2, I2.tok _, rfl, hq _ M2 _ H2 q2 e2 w2 (by simp only [Rep]; rfl)⟩
theorem rttabnot {x : Str} {kvs : List (Key × RV)} {e : Expr} {te : RTE} {p pos : Pos} (T : KTab X.prog X.w X.K X.mg x kvs) (he : RPE X e te) (hg : Gl X x := by rfl) (hd : (x == ("__debug__" : Str)) = false := by decide) (h1 : behindInMarks .NotIn (Expr.Name x p) = false := by with_unfolding_all rfl) :
    RPT X (.Compare e [.NotIn] [.Name x p] pos) (rTest (rTabIn true kvs te)) := PT.imp (pt_cmp (rtabin_core T he (.inr ⟨rfl, rfl⟩) hg hd) h1) fun σ0 H Q0 h => by
  obtain ⟨σ, M, Q, hs, hv, ht, hk⟩ := h
  exact ⟨σ, M, _, hs, hv, ht, test_up hk⟩
/-! ### {k: v, ..}[e], written keys and values -/
def drop (M : RM) (p : Addr) : RM := fun b => if b = p then none else M b
theorem drop_put {M : RM} {p : Addr} {o : RO} (h : M p = none) : drop (put M p o) p = M := by
  funext b
  unfold drop put
  by_cases hb : b = p
  · subst hb; simp [h]
  · simp [hb]
theorem View.drop {K : PySem.W.Frag} {H : Hp} {M : RM} (w : View K H M) (p : Addr) : View K H (drop M p) := fun a o e => by
  unfold R.drop at e
  split at e
  · cases e
  · exact w a o e
def rDispGet (kvs : List (Key × RV)) (te : RTE) : RTE := fun σ M Q => ∀ p, M p = none → te σ (put M p (.dk kvs)) fun k M1 => M1 p = some (.dk kvs) ∧ (match keyR k with
  | some key => (match lookK kvs key with | some v => Q v (drop M1 p) | none => False)
  | none => False)
def constTrs : List (Key × V) → List (TE × TE)
  | [] => []
  | (k, v) :: r => (tC (kV k), tC v) :: constTrs r
theorem constTrs_go {σ : L2.St} : ∀ {ws : List (Key × V)} {H : Hp} {Q : List (V × V) → Hp → Prop}, Q (ws.map fun kv => (kV kv.1, kv.2)) H → tPairs (constTrs ws) σ H Q
  | [], _, _, h => h
  | (k, v) :: r, H, Q, h => constTrs_go (ws := r) (Q := fun ps H3 => Q ((kV k, v) :: ps) H3) h
theorem rdispget {kvs : List (Key × RV)} {ws : List (Key × V)} {keys : List (Option Expr)} {values : List Expr} {e : Expr} {te : RTE} {p1 pos : Pos} (hu : X.A.units + 1 < cLine) (h : PPs X p1 keys values (constTrs ws)) (he : RPE X e te) (hr : ∀ H, RepP X.K H kvs ws)
    (hn : (ws.map Prod.fst).Nodup) (hl15 : ws.length ≤ 15 := by decide) (hall : keys.all (·.isSome) = true := by rfl) (hl : keys.length = values.length := by rfl) (h0 : keys ≠ [] := by exact List.cons_ne_nil _ _) (h15 : keys.length ≤ 15 := by decide) (hs : NoSl e := by intro _ _; rfl) :
    RPE X (.Subscript (.Dict keys values p1) e pos) (rDispGet kvs te) := PE.imp (pe_dget hu (pe_disp h hall hl h0 h15) he hs) fun σ0 H Q0 h => by
  obtain ⟨σ, M, Q, hst, hv, ht, hk⟩ := h
  intro p hp
  refine constTrs_go ⟨upd_same, ws, rfl, hl15, ?_⟩
  have hm : mergeK [] ws = ws := by have := mergeK_nodup ws [] (by simpa using hn); simpa using this
  rw [hm, upd_upd]
  have ex : Ext H (upd H p (.dK ws)) := Ext.new hp
  refine ⟨σ, put M p (.dk kvs), _, hst.ext ex, hv.newPut hp ⟨ws, rfl, hr _⟩, ht p (hv.free hp), fun r M1 v H1 q e1 w1 r1 => ?_⟩
  obtain ⟨q0, q⟩ := q
  obtain ⟨ho, eh, rp⟩ := w1 p _ q0
  obtain ⟨ws1, rfl, rp⟩ := rp
  cases ek : keyR r with
  | none => rw [ek] at q; exact q.elim
  | some key =>
    rw [ek] at q
    simp only at q
    cases el : lookK kvs key with
    | none => rw [el] at q; exact q.elim
    | some rv =>
      rw [el] at q
      simp only at q
      obtain ⟨v', e', r'⟩ := (repP_look (k := key) rp).1 rv el
      have := keyR_kV ek r1
      subst this
      exact ⟨p, v', rfl, by rw [← e']; exact DGet.k eh, hk rv _ v' H1 q (ex.trans e1) (w1.drop p) r'⟩
/-- written texts for written ints -/
def kvI (l : List (Str × Int)) : List (Key × RV) := l.map fun p => ((Sum.inr p.1 : Key), RV.int p.2)
def wsI (l : List (Str × Int)) : List (Key × V) := l.map fun p => ((Sum.inr p.1 : Key), V.int p.2)
theorem repP_I {K : PySem.W.Frag} {H : Hp} : ∀ l : List (Str × Int), RepP K H (kvI l) (wsI l)
  | [] => rfl
  | p :: r => ⟨V.int p.2, wsI r, rfl, by simp only [Rep], repP_I r⟩
theorem nodup_I {l : List (Str × Int)} (h : (l.map Prod.fst).Nodup) : ((wsI l).map Prod.fst).Nodup := by
  have e : (wsI l).map Prod.fst = (l.map Prod.fst).map (Sum.inr : Str → Key) := by simp [wsI, List.map_map, Function.comp_def]
  rw [e]
  exact nodup_inr h
theorem rdispI (l : List (Str × Int)) {keys : List (Option Expr)} {values : List Expr} {trs : List (TE × TE)} {e : Expr} {te : RTE} {p1 pos : Pos} (hu : X.A.units + 1 < cLine) (h : PPs X p1 keys values trs) (he : RPE X e te)
    (hn : (l.map Prod.fst).Nodup) (ht : trs = constTrs (wsI l) := by rfl) (hl15 : l.length ≤ 15 := by decide) (hall : keys.all (·.isSome) = true := by rfl) (hl : keys.length = values.length := by rfl) (h0 : keys ≠ [] := by exact List.cons_ne_nil _ _) (h15 : keys.length ≤ 15 := by decide) (hs : NoSl e := by intro _ _; rfl) :
    RPE X (.Subscript (.Dict keys values p1) e pos) (rDispGet (kvI l) te) := rdispget hu (ht ▸ h) he (fun H => repP_I l) (nodup_I hn) (by rw [wsI, List.length_map]; exact hl15) hall hl h0 h15 hs
end
end R

set_option Elab.async false
set_option linter.all false
set_option maxRecDepth 100000
set_option maxHeartbeats 1000000
namespace R
open PySem PySem.Spec PyProof.Rows L2
theorem rfnok {P : Program} {w : World} {K : PySem.W.Frag} {mg : Str → Option Value} {base : Heap} {x qual : Str} {st : Stmt} {f : Addr} {fd : FuncData} {N ps : List Str} {k : Nat} {sp : RSp} {t : RTS} (F : Fun K x qual st f fd) (S : FnScope N ps (defScope st))
    (len : ∀ rs M Q, sp rs M Q → rs.length = ps.length)
    (term : ∀ (cdv : Value) (A : Around) (outer : List Env) (s : Shared) (H : Hp) (E : XK), Room k (A.deeper (envOfC qual (defScope st) s.heap.objs.size f cdv)) → RPSs (cxOf CX0 P w K mg base N qual (defScope st) f cdv A outer s H E).nox (defBody st) t)
    (body : ∀ rs M Q, sp rs M Q → t { nx := fun _ M' => Q .non M', rt := Q } (rstart N rs) M) : FnOk P w K mg base CX0 (k + 1) f fd ps (upSp K sp) := by
  refine F.ok S (fun vs H Q0 E h => ?_) fun cdv A outer s H vs Q0 E hr h => ?_
  · obtain ⟨rs, M, Q, rr, hv, hq, hk⟩ := h
    rw [← rr.length]; exact len rs M Q hq
  · obtain ⟨rs, M, Q, rr, hv, hq, hk⟩ := h
    refine ⟨_, term cdv A outer s H E hr, rstart N rs, M, { nx := fun _ M' => Q .non M', rt := Q }, start_rep rr, hv, body rs M Q hq, ⟨fun σ M' σ0 H' q e w r => hk .non M' .non H' q e w (by simp only [Rep]), hk, fun _ _ _ _ z => z.elim, fun _ _ _ _ z => z.elim⟩⟩
theorem bt_len : bootBuiltins "len" = some (.builtin "len") := by decide +kernel
theorem bt_isinstance : bootBuiltins "isinstance" = some (.builtin "isinstance") := by decide +kernel
theorem bt_ord : bootBuiltins "ord" = some (.builtin "ord") := by decide +kernel
theorem bt_all : bootBuiltins "all" = some (.builtin "all") := by decide +kernel
theorem bt_tuple : bootBuiltins "tuple" = some (.type "tuple") := by decide +kernel
theorem bt_list : bootBuiltins "list" = some (.type "list") := by decide +kernel
theorem bt_int : bootBuiltins "int" = some (.type "int") := by decide +kernel
theorem bt_bool : bootBuiltins "bool" = some (.type "bool") := by decide +kernel
theorem bt_str : bootBuiltins "str" = some (.type "str") := by decide +kernel
section
variable {X : Cx} {pos : Pos}
theorem rty_int (hm : X.mg "int" = none) (hg : Gl X "int" := by rfl) : RPE X (.Name "int" pos) (rC (.ty "int")) := rbltn hm bt_int (v := .ty "int") rfl (fun H => by simp only [Rep]) hg
theorem rty_bool (hm : X.mg "bool" = none) (hg : Gl X "bool" := by rfl) : RPE X (.Name "bool" pos) (rC (.ty "bool")) := rbltn hm bt_bool (v := .ty "bool") rfl (fun H => by simp only [Rep]) hg
theorem rty_str (hm : X.mg "str" = none) (hg : Gl X "str" := by rfl) : RPE X (.Name "str" pos) (rC (.ty "str")) := rbltn hm bt_str (v := .ty "str") rfl (fun H => by simp only [Rep]) hg
theorem rty_tuple (hm : X.mg "tuple" = none) (hg : Gl X "tuple" := by rfl) : RPE X (.Name "tuple" pos) (rC (.ty "tuple")) := rbltn hm bt_tuple (v := .ty "tuple") rfl (fun H => by simp only [Rep]) hg
theorem rty_list (hm : X.mg "list" = none) (hg : Gl X "list" := by rfl) : RPE X (.Name "list" pos) (rC (.ty "list")) := rbltn hm bt_list (v := .ty "list") rfl (fun H => by simp only [Rep]) hg
/-- an int of the module's top -/
def IntC (mg : Str → Option Value) (x : Str) (i : Int) : Prop := ∃ t, mg x = some (.int i t)
theorem rgi {x : Str} {i : Int} (h : IntC X.mg x i) (hg : Gl X x := by rfl) (hd : (x == ("__debug__" : Str)) = false := by decide) : RPE X (.Name x pos) (rC (.int i)) := by
  obtain ⟨t, hm⟩ := h
  exact rglob hm (v := .int i) ⟨t, rfl⟩ (fun H => by simp only [Rep]) hg hd
/-- a tuple of texts of the module's top -/
def TupC (K : PySem.W.Frag) (mg : Str → Option Value) (x : Str) (ss : List Str) : Prop := ∃ a, mg x = some (.ref a) ∧ ∀ H, Rep K H (.tup (ss.map RV.str)) (.ref a)
theorem rgt {x : Str} {ss : List Str} (h : TupC X.K X.mg x ss) (hg : Gl X x := by rfl) (hd : (x == ("__debug__" : Str)) = false := by decide) : RPE X (.Name x pos) (rC (.tup (ss.map RV.str))) := by
  obtain ⟨a, hm, hr⟩ := h
  exact rglob hm (v := .ref a) rfl hr hg hd
end
theorem tupc_mk {K : PySem.W.Frag} {mg : Str → Option Value} {x : Str} {a : Addr} {ss : List Str} {its : Array Value} {n : Nat} {d : Option Addr} {sl : Array (Option Value)} (hm : mg x = some (.ref a)) (l : K.lookup a = some ⟨.type "tuple", d, .seq its n, sl⟩) (hz : its.size ≤ sizeLine)
    (hv : Vals (ss.map V.str) its.toList) : TupC K mg x ss := by
  refine ⟨a, hm, fun H => ?_⟩
  simp only [Rep]
  refine ⟨a, ss.map V.str, rfl, .inr ⟨_, its, n, l, rfl, rfl, hz, hv⟩, ?_⟩
  clear hv
  induction ss with
  | nil => exact Reps.nil
  | cons s r ih => exact Reps.cons (by simp only [Rep]) ih
/-- the law's own head -/
theorem law_in {K : PySem.W.Frag} {sp : RSp} {H : Hp} {a : Addr} {ns : List Int} (hO : Only H) (hS : SqL K H a (ns.map V.int)) (h : sp [.ls (ns.map RV.int)] (fun _ => none) (fun v _ => v = .bl true)) : upSp K sp [.ref a] H (fun v _ => v = .bl true) (fun _ _ _ => False) := by
  have hr : ∀ l : List Int, Reps K H (l.map RV.int) (l.map V.int) := fun l => by
    induction l with
    | nil => exact Reps.nil
    | cons s r ih => exact Reps.cons (by simp only [Rep]) ih
  have hf : Fz K H a (ns.map V.int) := by
    rcases hS with (e | ⟨o, e⟩) | e
    · rcases hO a with z | ⟨o, xs, z⟩
      · rw [e] at z; cases z
      · rw [e] at z; cases z
    · exact .inl ⟨o, e⟩
    · exact .inr e
  refine ⟨[.ls (ns.map RV.int)], fun _ => none, fun v _ => v = .bl true, Reps.cons (by simp only [Rep]; exact ⟨a, _, rfl, hf, hr ns⟩) Reps.nil, fun _ _ z => (by cases z), h, fun rv M' v H' q _ _ r => ?_⟩
  have q' : rv = .bl true := q
  subst q'
  simpa only [Rep] using r
end R

set_option Elab.async false
set_option linter.all false
set_option maxRecDepth 100000
set_option maxHeartbeats 1000000
namespace R
open PySem PySem.Spec PyProof.Rows L2
/-! ### names, looked up once by the kernel -/
structure NameOk (N : List Str) (sc : Scope) : Prop where
  nd : N.Nodup
  loc : ∀ x ∈ N, sc.names.lookup x = some .local ∨ sc.names.lookup x = some .cell
  dbg : ∀ x ∈ N, (x == ("__debug__" : Str)) = false ∧ (x == ("__classdict__" : Str)) = false
section
variable {X : Cx} {x : Str} {pos pos' : Pos}
theorem rvN (i : Nat) (S : NameOk X.N X.env.scope) (hN : X.N[i]? = some x := by rfl) : RPE X (.Name x pos) (rVar i) :=
  have m := List.mem_of_getElem? hN
  rv i hN ((S.loc x m).elim .inl fun z => .inr (.inl z)) (S.dbg x m).1 (S.dbg x m).2
theorem ssetN {e : Expr} {te : RTE} (i : Nat) (S : NameOk X.N X.env.scope) (he : RPE X e te) (hN : X.N[i]? = some x := by rfl) (hs : swapsWith e (some (.Name x pos')) pos.line X.env = pure false := by rfl) (hf : X.fn x = true := by rfl) :
    RPS X (.Assign [.Name x pos'] e pos) (rSet i te) := sset i he S.nd hN (S.loc x (List.mem_of_getElem? hN)) hs (.inl hf)
theorem gnameN (i : Nat) (S : NameOk X.N X.env.scope) (hN : X.N[i]? = some x := by rfl) (hf : X.fn x = true := by rfl) : RPG X (.Name x pos) (rgN i) := gname i S.nd hN (S.loc x (List.mem_of_getElem? hN)) (.inl hf)
theorem pgN (i : Nat) (S : NameOk X.N X.env.scope) (hN : X.N[i]? = some x := by rfl) (hf : X.fn x = true := by rfl) : PG X (.Name x pos) (gName i) := pg_name S.nd hN (S.loc x (List.mem_of_getElem? hN)) (.inl hf)
structure VisB (X : Cx) : Prop where
  vis : ∀ x ∈ X.N, Vis X.env.scope x
  dbg : ∀ x ∈ X.N, (x == ("__debug__" : Str)) = false ∧ (x == ("__classdict__" : Str)) = false
theorem rvB (i : Nat) (S : VisB X) (hN : X.N[i]? = some x := by rfl) : RPE X (.Name x pos) (rVar i) :=
  have m := List.mem_of_getElem? hN
  rv i hN (S.vis x m) (S.dbg x m).1 (S.dbg x m).2
theorem glB {scope : Scope} {cl : List (Str × Addr)} {C : Addr} {Nc : List Str} {s : Shared} {H : Hp} {fp : List Addr} (h : scope.names.lookup x = some .globalImplicit) : Gl (blk X scope cl C Nc s H fp) x := by
  show (scope.names.map (relF X.env)).lookup x = _
  rw [lookup_relF]
  rw [lookup_find] at h
  cases e : scope.names.find? fun p => x == p.1 with
  | none => rw [e] at h; cases h
  | some p =>
    rw [e] at h
    have h' : p.2 = .globalImplicit := Option.some.inj h
    show some (relF X.env p).2 = _
    rcases relF_snd X.env p with z | z
    · rw [z, h']
    · rw [h'] at z; cases z.2
theorem rcompN {elt iter : Expr} {px : Pos} {scope : Scope} {ti : RTI} {tt : RTT} {te : RTE} {ifs : List Expr} (caps : List (Nat × Str)) {osc : Scope} {oN : List Str}
    (hc : X.calm = true) (hi : RPI X (.Name x px) iter ti)
    (hif : ∀ cl C s H fp, VisB (blk X scope cl C (x :: caps.map Prod.snd) s H fp) → RPTs (blk X scope cl C (x :: caps.map Prod.snd) s H fp) ifs tt)
    (hel : ∀ cl C s H fp, VisB (blk X scope cl C (x :: caps.map Prod.snd) s H fp) → RPE (blk X scope cl C (x :: caps.map Prod.snd) s H fp) elt te)
    (hX : X.env.scope = osc) (hN : X.N = oN)
    (hcaps : ∀ p ∈ caps, oN[p.1]? = some p.2 ∧ scope.names.lookup p.2 = some .free ∧ (osc.names.lookup p.2 = some .cell ∨ osc.names.lookup p.2 = some .free))
    (hfr : ∀ y ∈ scope.names, y.2 = .free → (osc.names.lookup y.1 = some .cell ∨ osc.names.lookup y.1 = some .free))
    (hcell : ∀ y ∈ scope.names, y.2 ≠ .cell) (hkind : scope.kind = .function) (hnames : ∀ y ∈ scope.names, y.2 = .local → scope.names.lookup y.1 = some .local) (hx : scope.names.lookup x = some .local) (hnd : (x :: caps.map Prod.snd).Nodup)
    (hdb : ∀ y ∈ x :: caps.map Prod.snd, (y == ("__debug__" : Str)) = false ∧ (y == ("__classdict__" : Str)) = false)
    (hs : ∀ v, foldedSetIterable iter X.env v = pure v := by intro _; rfl) :
    RPE X (.ListComp elt [⟨.Name x px, iter, ifs, 0⟩] scope pos) (rComp ti (caps.map Prod.fst) tt te) := by
  have vb : ∀ cl C s H fp, VisB (blk X scope cl C (x :: caps.map Prod.snd) s H fp) := fun cl C s H fp => ⟨fun y hy => by
    rcases List.mem_cons.mp hy with rfl | hy
    · exact .inl (lookup_relabel_local hx)
    · obtain ⟨p, hp, rfl⟩ := List.mem_map.mp hy
      exact .inr (relabel_free (hcaps p hp).2.1), hdb⟩
  exact rcomp caps hc hi (fun cl C s H fp => hif cl C s H fp (vb cl C s H fp)) (fun cl C s H fp => hel cl C s H fp (vb cl C s H fp)) hX hN hcaps hfr hcell hkind hnames hx hnd hs
end
/-! ### a dict of the top: texts and ints -/
def KRowsI (w : World) : List DictEntry → List (Str × Int) → Prop
  | [], [] => True
  | e :: es, (x, i) :: r => (∃ t, e.key = .str x t) ∧ e.hash = hashStr w x ∧ (∃ t, e.val = .int i t) ∧ KRowsI w es r
  | _, _ => False
theorem krowsI {w : World} : ∀ {es : List DictEntry} {l : List (Str × Int)}, KRowsI w es l → ∃ vs : List (Str × Value), KRows w es vs ∧ vs.map Prod.fst = l.map Prod.fst ∧ KV (wsI l) (vs.map fun p => ((Sum.inr p.1 : Key), p.2))
  | [], [], _ => ⟨[], trivial, rfl, .nil⟩
  | e :: es, (x, i) :: r, h => by
    obtain ⟨h1, h2, ⟨t, h3⟩, h4⟩ := h
    obtain ⟨vs, a, b, c⟩ := krowsI h4
    exact ⟨(x, .int i t) :: vs, ⟨h1, h2, h3, a⟩, by simp [b], .cons ⟨rfl, t, rfl⟩ c⟩
theorem ktabI_mk {P : Program} {w : World} {K : PySem.W.Frag} {mg : Str → Option Value} {x : Str} {a : Addr} {es : Array DictEntry} {ep : Nat} {l : List (Str × Int)}
    (hm : mg x = some (.ref a)) (lk : K.lookup a = some ⟨.type "dict", none, .dict es ep, #[]⟩) (ha : (a == sysModules) = false) (hr : KRowsI w es.toList l) (hn : (l.map Prod.fst).Nodup) : KTab P w K mg x (kvI l) := by
  obtain ⟨vs, h1, h2, h3⟩ := krowsI hr
  exact ktab_mk hm lk ha h1 (by rw [h2]; exact hn) ⟨rfl, rfl, rfl⟩ h3 fun H => repP_I l
end R

set_option Elab.async false
set_option linter.all false
set_option maxRecDepth 100000
set_option maxHeartbeats 1000000
/-! Readings step by step: one lemma for each head, and a tactic that takes the step that the goal's head asks for. -/
namespace R
open PySem PySem.Spec PyProof.Rows L2
section
variable {σ : RSt} {M : RM} {Q : RVK} {QT : Bool → RM → Prop} {QA : List RV → RM → Prop} {QO : Option Int → RM → Prop} {n b c : RSt → RM → Prop} {r : RVK} {ta tb tc : RTE} {tA tB : RTT} {t u : RTS} {tr : RTA} {rr rr' : RR2} {N : RSt → RM → Prop}
def kTest (Q : Bool → RM → Prop) : RVK := fun v M' => match v with | .bl k => Q k M' | _ => False
def kIf (A B : RM → Prop) : Bool → RM → Prop := fun c M1 => (c = true → A M1) ∧ (c = false → B M1)
def kPart (Q : Option Int → RM → Prop) : RVK := fun x M1 => match x with | .int i => Q (some i) M1 | _ => False
def kAt (Q : RVK) (M : RM) : Option RV → Prop := fun o => match o with | some v => Q v M | none => False
def kItS (Q : List RV → RM → Prop) : RVK := fun v M1 => match v with | .tup xs => Q xs M1 | .ls xs => Q xs M1 | _ => False
def kCh (rr' : RR2) (tc : RTE) (σ : RSt) (y : RV) (Q : RVK) : RVK := fun z M3 => match z with
  | .bl k => (k = true → tc σ M3 fun w M4 => rr' y w M4 Q) ∧ (k = false → Q (.bl false) M3)
  | _ => False
theorem do_var {i : Nat} {v : RV} (e : σ[i]? = some (some v)) (h : Q v M) : rVar i σ M Q := by unfold rVar; rw [e]; exact h
theorem do_c {v : RV} (h : Q v M) : rC v σ M Q := h
theorem do_op (h : ta σ M fun x M1 => tb σ M1 fun y M2 => rr x y M2 Q) : rOp rr ta tb σ M Q := h
theorem do_un {g : RV → RM → RVK → Prop} (h : ta σ M fun x M1 => g x M1 Q) : rUn g ta σ M Q := h
theorem do_chain (h : ta σ M fun x M1 => tb σ M1 fun y M2 => rr x y M2 (kCh rr' tc σ y Q)) : rChain rr rr' ta tb tc σ M Q := h
theorem do_kchT {y : RV} (h : tc σ M fun w M4 => rr' y w M4 Q) : kCh rr' tc σ y Q (.bl true) M := ⟨fun _ => h, fun z => (by cases z)⟩
theorem do_kchF {y : RV} (h : Q (.bl false) M) : kCh rr' tc σ y Q (.bl false) M := ⟨fun z => (by cases z), fun _ => h⟩
theorem do_test (h : ta σ M (kTest QT)) : rTest ta σ M QT := h
theorem do_ktest {k : Bool} (h : QT k M) : kTest QT (.bl k) M := h
theorem do_and (h : tA σ M (kIf (fun M1 => tB σ M1 QT) (fun M1 => QT false M1))) : rAnd tA tB σ M QT := h
theorem do_or (h : tA σ M (kIf (fun M1 => QT true M1) (fun M1 => tB σ M1 QT))) : rOr tA tB σ M QT := h
theorem do_not (h : tA σ M fun c M1 => QT (!c) M1) : rNot tA σ M QT := h
theorem do_if (h : tA σ M (kIf (fun M1 => ta σ M1 Q) (fun M1 => tb σ M1 Q))) : rIf tA ta tb σ M Q := h
theorem do_ifs {D : RD} (h : tA σ M (kIf (fun M1 => t D σ M1) (fun M1 => u D σ M1))) : rIfS tA t u D σ M := h
theorem do_kT {A B : RM → Prop} (h : A M) : kIf A B true M := ⟨fun _ => h, fun z => (by cases z)⟩
theorem do_kF {A B : RM → Prop} (h : B M) : kIf A B false M := ⟨fun z => (by cases z), fun _ => h⟩
theorem do_kT' {A B : RM → Prop} {x : Bool} (e : x = true) (h : A M) : kIf A B x M := by subst e; exact do_kT h
theorem do_kF' {A B : RM → Prop} {x : Bool} (e : x = false) (h : B M) : kIf A B x M := by subst e; exact do_kF h
theorem do_kB {A B : RM → Prop} {x : Bool} (h1 : x = true → A M) (h2 : x = false → B M) : kIf A B x M := ⟨h1, h2⟩
theorem do_norm {P : RSt → RM → Prop} {l : RSt} {i : Nat} {v : Option RV} {σ' : RSt} (e : l.set i v = σ') (h : P σ' M) : P (l.set i v) M := by subst e; exact h
theorem do_normU {P : RSt → RM → Prop} {l : RSt} {is : List Nat} {vs : List RV} {σ' : RSt} (e : setAll l is vs = σ') (h : P σ' M) : P (setAll l is vs) M := by subst e; exact h
theorem do_knT {A B : RM → Prop} (h : B M) : kIf A B (!true) M := do_kF h
theorem do_knF {A B : RM → Prop} (h : A M) : kIf A B (!false) M := do_kT h
theorem do_mulL {a : Addr} {k : Int} {xs : List RV} (e : M a = some (.lst xs)) (h0 : -(2 ^ 63) ≤ k) (h1 : k < 2 ^ 63) (h2 : Nat.ble (xs.length * k.toNat) 1000 = true) (h : Q (.ls (List.replicate k.toNat xs).flatten) M) : R.rMul (.ref a) (.int k) M Q :=
  ⟨xs, e, h0, h1, Nat.le_trans (Nat.le_of_ble_eq_true h2) (by decide), h⟩
theorem neqF {x : RV} (e : eqR x x = true) : (!eqR x x) = false := by rw [e]; rfl
theorem neqB {a b : Bool} (e : a = b) : (!eqR (.bl a) (.bl b)) = false := by subst e; cases a <;> rfl
theorem do_nil (h : QA [] M) : rNil σ M QA := h
theorem do_cons (h : ta σ M fun x M1 => tr σ M1 fun xs M2 => QA (x :: xs) M2) : rCons ta tr σ M QA := h
theorem do_tup (h : tr σ M fun rs M1 => rs.length ≤ sizeLine ∧ Q (.tup rs) M1) : rTup tr σ M Q := h
theorem do_lsf (h : tr σ M fun rs M1 => rs.length ≤ sizeLine ∧ Q (.ls rs) M1) : rLsF tr σ M Q := h
theorem do_lst (h : tr σ M fun rs M1 => rs.length ≤ sizeLine ∧ ∀ p, M1 p = none → Q (.ref p) (put M1 p (.lst rs))) : rLst tr σ M Q := h
theorem do_size {rs : List RV} {P : Prop} (e : Nat.ble rs.length 1000 = true) (h : P) : rs.length ≤ sizeLine ∧ P := ⟨Nat.le_trans (Nat.le_of_ble_eq_true e) (by decide), h⟩
theorem do_call {f : List RV → RM → RVK → Prop} (h : tr σ M fun rs M1 => f rs M1 Q) : rCall f tr σ M Q := h
theorem do_next : n σ M → rNext ⟨n, r, b, c⟩ σ M := fun h => h
theorem do_break : b σ M → rBreak ⟨n, r, b, c⟩ σ M := fun h => h
theorem do_cont : c σ M → rCont ⟨n, r, b, c⟩ σ M := fun h => h
theorem do_seq (h : t ⟨u ⟨n, r, b, c⟩, r, b, c⟩ σ M) : rSeq t u ⟨n, r, b, c⟩ σ M := h
theorem do_set {i : Nat} (h : ta σ M fun x M1 => n (σ.set i (some x)) M1) : rSet i ta ⟨n, r, b, c⟩ σ M := h
theorem do_ret (h : ta σ M r) : rRet ta ⟨n, r, b, c⟩ σ M := h
theorem do_retN (h : r .non M) : rRetN ⟨n, r, b, c⟩ σ M := h
theorem do_drop (h : ta σ M fun _ M1 => n σ M1) : rDrop ta ⟨n, r, b, c⟩ σ M := h
theorem do_asg {g : RTG} (h : ta σ M fun x M1 => g x σ M1 n) : rAsg ta g ⟨n, r, b, c⟩ σ M := h
theorem do_gN {i : Nat} {x : RV} (h : N (σ.set i (some x)) M) : rgN i x σ M N := h
theorem do_gU {is : List Nat} {xs : List RV} (e : xs.length = is.length) (h : N (setAll σ is xs) M) : rgU is (.tup xs) σ M N := ⟨e, h⟩
theorem do_gSub {to ti : RTE} {g : RTSet} {v : RV} (h : to σ M fun o M1 => ti σ M1 fun i M2 => g o i v M2 fun M3 => N σ M3) : rgSub to ti g v σ M N := h
theorem do_forI {ti : RTI} {g : RTG} (h : ti σ M fun xs M1 => rForL g t ⟨n, r, b, c⟩ xs σ M1) : rForI ti g t ⟨n, r, b, c⟩ σ M := h
theorem do_itS (h : ta σ M (kItS QA)) : rItS ta σ M QA := h
theorem do_kits_t {xs : List RV} (h : QA xs M) : kItS QA (.tup xs) M := h
theorem do_kits_l {xs : List RV} (h : QA xs M) : kItS QA (.ls xs) M := h
theorem do_itR (h : ta σ M fun v M1 => rRngI QA [v] M1) : rItR ta σ M QA := h
theorem do_rng {k : Int} (h0 : -(2 ^ 62) ≤ k) (h1 : k < 2 ^ 62) (h : QA (nums k.toNat) M) : rRngI QA [.int k] M := ⟨h0, h1, h⟩
theorem do_forNil {g : RTG} (h : n σ M) : rForL g t ⟨n, r, b, c⟩ [] σ M := h
theorem do_forCons {g : RTG} {x : RV} {xs : List RV} (h : g x σ M fun σ2 M2 => t ⟨rForL g t ⟨n, r, b, c⟩ xs, r, n, rForL g t ⟨n, r, b, c⟩ xs⟩ σ2 M2) : rForL g t ⟨n, r, b, c⟩ (x :: xs) σ M := h
theorem do_comp {ti : RTI} {cap : List Nat} (h : ti σ M fun xs M1 => xs.length < sizeLine ∧ rCompL tA ta (cap.map fun i => (σ[i]?).join) xs [] M1 Q) : rComp ti cap tA ta σ M Q := h
theorem do_compNil {base : List (Option RV)} {acc : List RV} (h : Q (.ls acc) M) : rCompL tA ta base [] acc M Q := h
theorem do_compYes {base : List (Option RV)} {acc : List RV} {x : RV} {xs : List RV} (h : ta (some x :: base) M fun v M2 => rCompL rYes ta base xs (acc ++ [v]) M2 Q) : rCompL rYes ta base (x :: xs) acc M Q := ⟨fun _ => h, fun z => (by cases z)⟩
theorem do_compT {base : List (Option RV)} {acc : List RV} {x : RV} {xs : List RV} (h : tA (some x :: base) M (kIf (fun M1 => ta (some x :: base) M1 fun v M2 => rCompL tA ta base xs (acc ++ [v]) M2 Q) (fun M1 => rCompL tA ta base xs acc M1 Q))) : rCompL tA ta base (x :: xs) acc M Q := h
theorem do_sl {tl th : RTO} (h : ta σ M fun x M1 => tl σ M1 fun l M2 => th σ M2 fun u M3 => rSlc x l u M3 Q) : rSl ta tl th σ M Q := h
theorem do_noP (h : QO none M) : rNoP σ M QO := h
theorem do_part (h : ta σ M (kPart QO)) : rPart ta σ M QO := h
theorem do_kpart {i : Int} (h : QO (some i) M) : kPart QO (.int i) M := h
theorem do_slT {xs : List RV} {lo hi : Option Int} (h : Q (.tup (cutR xs lo hi)) M) : rSlc (.tup xs) lo hi M Q := h
theorem do_slL {xs : List RV} {lo hi : Option Int} (h : Q (.ls (cutR xs lo hi)) M) : rSlc (.ls xs) lo hi M Q := h
theorem do_int0 {g : Int → Int → RV} {i j : Int} (h : Q (g i j) M) : rInt0 g (.int i) (.int j) M Q := h
theorem do_int2 {C : Int → Int → Prop} {g : Int → Int → RV} {i j : Int} (e : C i j) (h : Q (g i j) M) : rInt2 C g (.int i) (.int j) M Q := ⟨e, h⟩
theorem do_addI {i j : Int} (h : Q (.int (i + j)) M) : R.rAdd (.int i) (.int j) M Q := h
theorem do_addT {xs ys : List RV} (e : Nat.ble (xs.length + ys.length) 1000 = true) (h : Q (.tup (xs ++ ys)) M) : R.rAdd (.tup xs) (.tup ys) M Q := ⟨Nat.le_trans (Nat.le_of_ble_eq_true e) (by decide), h⟩
theorem do_addL {xs ys : List RV} (e : Nat.ble (xs.length + ys.length) 1000 = true) (h : Q (.ls (xs ++ ys)) M) : R.rAdd (.ls xs) (.ls ys) M Q := ⟨Nat.le_trans (Nat.le_of_ble_eq_true e) (by decide), h⟩
theorem do_eq {x y : RV} (e1 : okR 16 x = true) (e2 : okR 16 y = true) (h : Q (.bl (eqR x y)) M) : rEqq x y M Q := ⟨e1, e2, h⟩
theorem do_ne {x y : RV} (e1 : okR 16 x = true) (e2 : okR 16 y = true) (h : Q (.bl (!eqR x y)) M) : rNeq x y M Q := ⟨e1, e2, h⟩
theorem do_is {x : RV} (h : Q (.bl (isN x)) M) : rIs x .non M Q := h
theorem do_isnot {x : RV} (h : Q (.bl (!isN x)) M) : rIsNot x .non M Q := h
theorem do_ixT {xs : List RV} {i : Int} (h : kAt Q M (atI xs i)) : R.rIx (.tup xs) (.int i) M Q := h
theorem do_ixL {xs : List RV} {i : Int} (h : kAt Q M (atI xs i)) : R.rIx (.ls xs) (.int i) M Q := h
theorem do_kat {o : Option RV} {v : RV} (e : o = some v) (h : Q v M) : kAt Q M o := by subst e; exact h
theorem do_len_t {xs : List RV} (h : Q (.int xs.length) M) : rLen [.tup xs] M Q := h
theorem do_len_l {xs : List RV} (h : Q (.int xs.length) M) : rLen [.ls xs] M Q := h
theorem do_tuple_l {xs : List RV} (h : Q (.tup xs) M) : rTuple [.ls xs] M Q := h
theorem do_tuple_t {xs : List RV} (h : Q (.tup xs) M) : rTuple [.tup xs] M Q := h
theorem do_isi {T : String} {test : RV → Option Bool} {x : RV} {b : Bool} (e : test x = some b) (h : Q (.bl b) M) : rIsi T test [x, .ty T] M Q := by
  refine ⟨rfl, ?_⟩; rw [e]; exact h
def kTab (kvs : List (Key × RV)) (Q : RVK) : RVK := fun k M1 => match keyR k with
  | some key => (match lookK kvs key with | some v => Q v M1 | none => False)
  | none => False
theorem do_tab {kvs : List (Key × RV)} (h : ta σ M (kTab kvs Q)) : rTab kvs ta σ M Q := h
theorem do_ktab {kvs : List (Key × RV)} {k v : RV} {key : Key} (e1 : keyR k = some key) (e2 : lookK kvs key = some v) (h : Q v M) : kTab kvs Q k M := by
  unfold kTab; rw [e1]; dsimp only; rw [e2]; exact h
def kDisp (kvs : List (Key × RV)) (p : Addr) (Q : RVK) : RVK := fun k M1 => M1 p = some (.dk kvs) ∧ (match keyR k with
  | some key => (match lookK kvs key with | some v => Q v (drop M1 p) | none => False)
  | none => False)
theorem do_disp {kvs : List (Key × RV)} (h : ∀ p, M p = none → ta σ (put M p (.dk kvs)) (kDisp kvs p Q)) : rDispGet kvs ta σ M Q := h
theorem do_kdisp {kvs : List (Key × RV)} {p : Addr} {k v : RV} {key : Key} (e : M p = some (.dk kvs)) (e1 : keyR k = some key) (e2 : lookK kvs key = some v) (h : Q v (drop M p)) : kDisp kvs p Q k M := by
  refine ⟨e, ?_⟩; rw [e1]; dsimp only; rw [e2]; exact h
theorem drop_put' {M : RM} {p : Addr} {o : RO} (h : M p = none) : drop (put M p o) p = M := by
  funext b; unfold drop put
  by_cases hb : b = p
  · subst hb; rw [if_pos rfl, h]
  · rw [if_neg hb, if_neg hb]
theorem do_kdisp' {kvs : List (Key × RV)} {p : Addr} {k v : RV} {key : Key} (hp : M p = none) (e1 : keyR k = some key) (e2 : lookK kvs key = some v) (h : Q v M) : kDisp kvs p Q k (put M p (.dk kvs)) :=
  do_kdisp put_same e1 e2 (by rw [drop_put' hp]; exact h)
end
end R

set_option Elab.async false
set_option linter.all false
set_option maxRecDepth 100000
set_option maxHeartbeats 1000000
namespace R
open PySem PySem.Spec PyProof.Rows L2
/-! ### in, not in: trees -/
theorem any_den {h : Heap} {e : Value → Bool} {p : RV → Bool} : ∀ {xs : List RV} {us : List Value}, Dens h xs us → (∀ x ∈ xs, ∀ u, Den h x u → e u = p x) → us.any e = xs.any p
  | [], us, d, _ => by simp only [Dens] at d; subst d; rfl
  | x :: xs, us, d, k => by
    simp only [Dens] at d
    obtain ⟨u, r, rfl, d1, d2⟩ := d
    rw [List.any_cons, List.any_cons, k x List.mem_cons_self u d1, any_den d2 fun y hy => k y (List.mem_cons_of_mem _ hy)]
theorem mem_den {h : Heap} : ∀ {xs : List RV} {us : List Value}, Dens h xs us → ∀ u ∈ us, ∃ x ∈ xs, Den h x u
  | [], us, d, u, hu => by simp only [Dens] at d; subst d; cases hu
  | x :: xs, us, d, u, hu => by
    simp only [Dens] at d
    obtain ⟨w, r, rfl, d1, d2⟩ := d
    rcases List.mem_cons.mp hu with rfl | hu
    · exact ⟨x, List.mem_cons_self, d1⟩
    · obtain ⟨y, hy, dy⟩ := mem_den d2 u hu
      exact ⟨y, List.mem_cons_of_mem _ hy, dy⟩
open Classical in
/-- the items' answers, read off the values -/
noncomputable def eqD (h : Heap) (a : RV) (w : Value) : Bool := if q : ∃ r, okR 15 r = true ∧ Den h r w then eqR (choose q) a else false
theorem eqD_of {h : Heap} {a x : RV} {u : Value} (o : okR 15 x = true) (d : Den h x u) : eqD h a u = eqR x a := by
  have q : ∃ r, okR 15 r = true ∧ Den h r u := ⟨x, o, d⟩
  unfold eqD
  rw [dif_pos q]
  have e := den_inj 15 _ x u (Classical.choose_spec q).1 o (Classical.choose_spec q).2 d
  rw [e]
def inR (x : RV) (xs : List RV) : Bool := xs.any fun y => eqR y x
def rIn2 (neg : Bool) : RR2 := fun x y M Q => match y with
  | .tup xs => okR 15 x = true ∧ xs.all (okR 15) = true ∧ Q (.bl (if neg then !inR x xs else inR x xs)) M
  | .ls xs => okR 15 x = true ∧ xs.all (okR 15) = true ∧ Q (.bl (if neg then !inR x xs else inR x xs)) M
  | _ => False
section
variable {X : Cx}
theorem den_items {s : Shared} {A : Around} {xs : List RV} {its : List Value} {a : RV} {v : Value} (hu : A.units + 15 < cLine) (os : xs.all (okR 15) = true) (oa : okR 15 a = true) (d : Dens s.heap xs its) (da : Den s.heap a v) :
    (∀ w, w ∈ its.toArray → SeqAt.EqAt A s w v (eqD s.heap a w)) ∧ its.toArray.any (eqD s.heap a) = inR a xs := by
  have os' : ∀ x ∈ xs, okR 15 x = true := by simpa [List.all_eq_true] using os
  refine ⟨fun w hw => ?_, ?_⟩
  · obtain ⟨x, hx, dx⟩ := mem_den d w (by simpa using hw)
    rw [eqD_of (os' x hx) dx]
    exact eqAt_den 15 x a A s w v (os' x hx) oa dx da hu
  · rw [show its.toArray.any (eqD s.heap a) = its.any (eqD s.heap a) by simp]
    exact any_den d fun x hx u du => eqD_of (os' x hx) du
theorem ok_up {xs : List RV} (os : xs.all (okR 15) = true) : okR 16 (.tup xs) = true ∧ okR 16 (.ls xs) = true := ⟨os, os⟩
theorem oin (hu : X.A.units + 64 < cLine) : ROp X (compareOp .In) (rIn2 false) := by
  intro pins s σ H x y v u Q0 I rx ry h
  obtain ⟨a, b, M, Q, ra, rb, hv, hq, hk⟩ := h
  cases b with
  | tup xs =>
    obtain ⟨oa, os, hq⟩ := hq
    have d := den_of I 16 (.tup xs) y u (ok_up os).1 rb ry
    simp only [Den] at d
    obtain ⟨p, its, rfl, ht, ds⟩ := d
    have z := den_items (A := X.A.in1) (by rw [in1_units]; omega) os oa ds (den_of I 15 a x v oa ra rx)
    refine SeqAt.in_tupleAt _ ht z.1 ⟨.bl (inR a xs), H, I, by rw [z.2]; rfl, hk _ M _ H hq (.refl H) hv (by simp only [Rep]; rfl)⟩
  | ls xs =>
    obtain ⟨oa, os, hq⟩ := hq
    have d := den_of I 16 (.ls xs) y u (ok_up os).2 rb ry
    simp only [Den] at d
    obtain ⟨p, its, rfl, ht, ds⟩ := d
    have z := den_items (A := X.A.in1) (by rw [in1_units]; omega) os oa ds (den_of I 15 a x v oa ra rx)
    refine SeqAt.in_listAt _ ht z.1 ⟨.bl (inR a xs), H, I, by rw [z.2]; rfl, hk _ M _ H hq (.refl H) hv (by simp only [Rep]; rfl)⟩
  | _ => exact (show False from hq).elim
theorem onotin (hu : X.A.units + 64 < cLine) : ROp X (compareOp .NotIn) (rIn2 true) := by
  intro pins s σ H x y v u Q0 I rx ry h
  obtain ⟨a, b, M, Q, ra, rb, hv, hq, hk⟩ := h
  cases b with
  | tup xs =>
    obtain ⟨oa, os, hq⟩ := hq
    have d := den_of I 16 (.tup xs) y u (ok_up os).1 rb ry
    simp only [Den] at d
    obtain ⟨p, its, rfl, ht, ds⟩ := d
    have z := den_items (A := X.A.in1) (by rw [in1_units]; omega) os oa ds (den_of I 15 a x v oa ra rx)
    refine SeqAt.notIn_tupleAt _ ht z.1 ⟨.bl (!inR a xs), H, I, by rw [z.2]; rfl, hk _ M _ H hq (.refl H) hv (by simp only [Rep]; rfl)⟩
  | ls xs =>
    obtain ⟨oa, os, hq⟩ := hq
    have d := den_of I 16 (.ls xs) y u (ok_up os).2 rb ry
    simp only [Den] at d
    obtain ⟨p, its, rfl, ht, ds⟩ := d
    have z := den_items (A := X.A.in1) (by rw [in1_units]; omega) os oa ds (den_of I 15 a x v oa ra rx)
    refine SeqAt.notIn_listAt _ ht z.1 ⟨.bl (!inR a xs), H, I, by rw [z.2]; rfl, hk _ M _ H hq (.refl H) hv (by simp only [Rep]; rfl)⟩
  | _ => exact (show False from hq).elim
/-! ### texts -/
def rLtS : RR2 := fun x y M Q => match x, y with | .str i, .str j => Q (.bl (decide (i.cps.toList < j.cps.toList))) M | _, _ => False
def rGtS : RR2 := fun x y M Q => match x, y with | .str i, .str j => Q (.bl (decide (j.cps.toList < i.cps.toList))) M | _, _ => False
theorem oltS : ROp X (compareOp .Lt) rLtS := by
  intro pins s σ H x y v u Q0 I rx ry h
  obtain ⟨a, b, M, Q, ra, rb, hv, hq, hk⟩ := h
  cases a with
  | str i => cases b with
    | str j =>
      simp only [Rep] at ra rb
      subst ra; subst rb
      obtain ⟨t, rfl⟩ := rx
      obtain ⟨t', rfl⟩ := ry
      exact lt_str ⟨.bl _, H, I, rfl, hk _ M _ H hq (.refl H) hv (by simp only [Rep])⟩
    | _ => exact (show False from hq).elim
  | _ => cases b <;> exact (show False from hq).elim
theorem ogtS : ROp X (compareOp .Gt) rGtS := by
  intro pins s σ H x y v u Q0 I rx ry h
  obtain ⟨a, b, M, Q, ra, rb, hv, hq, hk⟩ := h
  cases a with
  | str i => cases b with
    | str j =>
      simp only [Rep] at ra rb
      subst ra; subst rb
      obtain ⟨t, rfl⟩ := rx
      obtain ⟨t', rfl⟩ := ry
      exact PySem.P.gt_str ⟨.bl _, H, I, rfl, hk _ M _ H hq (.refl H) hv (by simp only [Rep])⟩
    | _ => exact (show False from hq).elim
  | _ => cases b <;> exact (show False from hq).elim
def rOrd : List RV → RM → RVK → Prop := fun rs M Q => match rs with
  | [.str x] => x.length = 1 ∧ Q (.int (x.cps.getD 0 0 : Nat)) M
  | _ => False
theorem cord : CallR X (.builtin "ord") (upC X.K rOrd) := by
  intro pins s σ H xs us Q0 I rl h
  obtain ⟨rs, M, Q, rr, hv, hq, hk⟩ := h
  match rs, hq with
  | [.str x], hq =>
    obtain ⟨hl, hq⟩ := hq
    simp only [Reps, Rep] at rr
    obtain ⟨v, r, rfl, rfl, rfl⟩ := rr
    exact call_ord pins s σ H _ us Q0 I rl ⟨x, rfl, hl, hk _ M _ H hq (.refl H) hv (by simp only [Rep])⟩
end
end R

set_option Elab.async false
set_option linter.all false
set_option maxRecDepth 100000
set_option maxHeartbeats 1000000
namespace R
open PySem PySem.Spec PyProof.Rows L2
section
variable {X : Cx}
/-! ### all(): of a list of truths -/
def rAll : List RV → RM → RVK → Prop := fun rs M Q => ∃ bs : List Bool, rs = [.ls (bs.map RV.bl)] ∧ Q (.bl (bs.all id)) M
theorem reps_bl {K : PySem.W.Frag} {H : Hp} : ∀ {bs : List Bool} {vs : List V}, Reps K H (bs.map RV.bl) vs → vs = bs.map V.bl
  | [], vs, h => by simpa only [List.map_nil, Reps] using h
  | b :: bs, vs, h => by
    simp only [List.map_cons, Reps, Rep] at h
    obtain ⟨v, r, rfl, rfl, h2⟩ := h
    rw [reps_bl h2]; rfl
theorem vals_bl : ∀ {bs : List Bool} {us : List Value}, Vals (bs.map V.bl) us → us = bs.map Value.bool
  | [], us, h => by cases h; rfl
  | b :: bs, us, h => by
    obtain ⟨u, r, rfl, h1, h2⟩ := Vals.cons_inv h
    cases h1
    rw [vals_bl h2]; rfl
theorem range_all (bs : List Bool) : (List.range bs.length).all (fun i => bs.getD i true) = bs.all id := by
  induction bs with
  | nil => rfl
  | cons b bs ih =>
    rw [List.length_cons, List.range_succ_eq_map, List.all_cons, List.all_map, List.all_cons]
    have : ((fun i => (b :: bs).getD i true) ∘ Nat.succ) = fun i => bs.getD i true := by funext i; rfl
    rw [this, ih]; rfl
theorem call_all (hc : X.calm = true) : CallR X (.builtin "all") (upC X.K rAll) := by
  intro pins s σ H xs us Q0 I rl h
  obtain ⟨rs, M, Q, rr, hv, ⟨bs, rfl, hq⟩, hk⟩ := h
  obtain ⟨v, rfl, r1⟩ := rr.one
  simp only [Rep] at r1
  obtain ⟨a, vs, rfl, h1, h2⟩ := r1
  have := reps_bl h2
  subst this
  obtain ⟨u, rfl, ru⟩ := rl.one
  cases ru
  obtain ⟨its, rv, p, hz⟩ := I.list h1.sq
  have := vals_bl rv
  subst this
  have hlt : a < s.heap.objs.size := by obtain ⟨o, n, e, _⟩ := p; exact Heap.lt_size e
  refine call_all_walk (wpAny_pyIter_list p.isList ?_)
  have hd : X.A.in1.handled = none := I.ok.hd hc
  refine ⟨s.heap.objs.size, _, _, _, _, _, fun i => bs.getD i true, rfl, Walks.list hd s.heap.objs.size a (Nat.ne_of_lt hlt) (bs.map Value.bool).toArray, ⟨⟨_, Heap.get?_push_size _ rfl, rfl, rfl⟩, p.isList.push _⟩, ?_, ?_⟩
  · intro i v s' Q' E' hP hQ'
    have hP' : (bs.map Value.bool)[i]? = some v := by simpa using hP
    rw [List.getElem?_map] at hP'
    cases e : bs[i]? with
    | none => rw [e] at hP'; cases hP'
    | some b =>
      rw [e] at hP'
      have hb : bs.getD i true = b := by rw [List.getD_eq_getElem?_getD, e]; rfl
      cases hP'
      have hQ2 : Q' (bs.getD i true) s' := hQ'
      rw [hb] at hQ2
      exact wpAny_truthy_bool hQ2
  · intro h' tk hk'
    have I1 : Inv X pins σ H { s with heap := s.heap.push { cls := .type "list_iterator", data := .fields #[.ref a, .int 0 0] } } := I.kept (t' := s.toks) fun b o e => Heap.get?_push_of_some _ e
    obtain ⟨f0, f1, f2, f3, f4, f5⟩ := I.fpOk (Nat.le_refl _) (I.hok.fresh (Nat.le_refl _))
    have I2 : Inv X pins σ H { s with heap := h', toks := tk } := by
      have z := I1.turned (h' := h') (t' := tk) (it := s.heap.objs.size) (fun b o hb e => hk' b o (by simpa using hb) e) f0 f1 f3 f4 f5
      exact z
    refine ⟨.bl (bs.all id), H, I2, ?_, hk _ M _ H hq (.refl H) hv (by simp only [Rep])⟩
    show _ = _
    rw [← range_all]
    simp
/-! ### the signs of a text, walked -/
def Its (x : Str) : It := ⟨fun i _ => i < x.cps.size, fun i H v H' => H' = H ∧ ∃ c, x.cps[i]? = some c ∧ v = .str ⟨#[c]⟩, fun i _ => x.cps.size ≤ i⟩
def signsR (x : Str) : List RV := x.cps.toList.map fun c => .str ⟨#[c]⟩
theorem turn_str {P : Program} {w : World} {K : PySem.W.Frag} {tg : Expr} (it : Addr) (n : String) (x : Str) (t : Tok)
    (hn : ["enumerate", "zip", "dict_itemiterator", "dict_reverseitemiterator", "odict_iterator", "itertools.zip_longest", "itertools.pairwise"].contains n = false)
    (W : ∀ A : Around, A.handled = none → Walks P w A it [it] [it] x.cps.size (SignAt x) (fun i h => h.IsStrIter it n x t i))
    (hend : ∀ (A : Around) (i : Nat) (s : Shared) (Q : Option Value → Shared → Prop) (E : Value → Shared → Prop), A.handled = none → s.heap.IsStrIter it n x t i → x.cps.size ≤ i → (∀ h', (∀ b o, b ≠ it → s.heap.get? b = some o → h'.get? b = some o) → Q none { s with heap := h' }) → wpAny (model P w) A (pyNext (.ref it)) Q E s)
    (hself : ∀ (A : Around) (i : Nat) (s : Shared) (Q : Value → Shared → Prop) (E : Value → Shared → Prop), s.heap.IsStrIter it n x t i → Q (.ref it) s → wpAny (model P w) A (pyIter (.ref it)) Q E s) :
    Turn P w K tg (Its x) [it] it (fun i h => h.IsStrIter it n x t i) where
  mem := by simp
  obj := fun i h st b hb => by
    have e : b = it := by simpa using hb
    subst e
    obtain ⟨o, e, c, d⟩ := st
    exact ⟨o, e, fun v z => by rw [d] at z; cases z⟩
  keep := fun i h h' st k => by
    obtain ⟨o, e, r⟩ := st
    exact ⟨o, k it (by simp) o e, r⟩
  item := by
    intro X hP hw hK hc i pins s σ H E I hf st hg
    subst hP hw hK
    obtain ⟨f0, f1, f2, f3, f4, f5⟩ := hf it (by simp)
    refine (W X.A (I.ok.hd hc)).item i s _ _ hg st fun v h' tk hv st' kk => ?_
    obtain ⟨c, u, hcu, rfl⟩ := hv
    have I1 : Inv X pins σ H { s with heap := h', toks := tk } := I.turned (fun b o hb e => kk b o (by simpa using hb) e) f0 f1 f3 f4 f5
    obtain ⟨o, e, hcl, hd⟩ := id st'
    exact ⟨_, rfl, go_of (s := { s with heap := h', toks := tk }) (n := n) e hcl hd hn ⟨.str ⟨#[c]⟩, H, I1, ⟨u, rfl⟩, ⟨rfl, c, hcu, rfl⟩, st', fun b hb => (hf b hb).1⟩⟩
  done := by
    intro X hP hw hK hc i pins s σ H E I hf st hg
    subst hP hw hK
    obtain ⟨f0, f1, f2, f3, f4, f5⟩ := hf it (by simp)
    exact hend X.A i s _ _ (I.ok.hd hc) st hg fun h' eb => ⟨rfl, I.turned (t' := s.toks) (fun b o hb e => eb b o hb e) f0 f1 f3 f4 f5⟩
  self := hself
theorem its_of {K : PySem.W.Frag} {H1 : Hp} (x : Str) : ItOf K (Its x) (signsR x) H1 where
  turn := fun i H e r hr => by
    have hi : i < x.cps.size := by have := (List.getElem?_eq_some_iff.mp hr).1; simpa [signsR] using this
    refine ⟨hi, fun v' H' y => ?_⟩
    obtain ⟨rfl, c, hcx, rfl⟩ := y
    refine ⟨.refl _, fun _ w => w, ?_⟩
    have : r = .str ⟨#[c]⟩ := by
      have h2 : x.cps.toList[i]? = some c := by simpa using hcx
      simp only [signsR, List.getElem?_map, h2, Option.map_some, Option.some.injEq] at hr
      exact hr.symm
    subst this
    simp only [Rep]
  stop := fun i H e hi => by
    have : (signsR x).length = x.cps.size := by simp [signsR]
    rw [this] at hi; exact hi
def rItX (te : RTE) : RTI := fun σ M Q => te σ M fun v M1 => match v with | .str x => Q (signsR x) M1 | _ => False
theorem istr {tg : Expr} {l : Expr} {te : RTE} (hl : RPE X l te) : RPI X tg l (rItX te) := by
  intro pins s σ0 H R I h
  obtain ⟨σ, M, Q, hs, hv, ht, hk⟩ := h
  refine thn (hl pins s σ0 H (fun v H1 => ∃ x M1, v = .str x ∧ Q (signsR x) M1 ∧ Ext H H1 ∧ View X.K H1 M1) I ⟨σ, M, _, hs, hv, ht, fun rv M1 v H1 q e1 v1 r1 => ?_⟩) fun v s1 ⟨xv, H1, I1, r1, q1⟩ => ?_
  · cases rv with
    | str x => simp only [Rep] at r1; exact ⟨x, M1, r1, q, e1, v1⟩
    | _ => exact (show False from q).elim
  · obtain ⟨x, M1, rfl, q, e1, v1⟩ := q1
    obtain ⟨t, rfl⟩ := r1
    have hf : ∀ b ∈ [s1.heap.objs.size], FpOk X pins H1 b := fun b hb => by
      have e : b = s1.heap.objs.size := by simpa using hb
      subst e
      exact I1.fpOk (Nat.le_refl _) (I1.hok.fresh (Nat.le_refl _))
    cases ha : x.cps.all (· < 128)
    · refine wpAny_pyIter_wide ha ?_
      exact ⟨s1.heap.objs.size, [s1.heap.objs.size], _, Its x, H1, rfl, I1.kept (t' := s1.toks) fun b o e => Heap.get?_push_of_some _ e, turn_str _ "str_iterator" x t (by decide) (fun A hA => Walks.strWide hA _ x t) (fun A i s Q E hA st hi hq => wpAny_pyNext_wide_end hA st (by simp; exact hi) hq) (fun A i s Q E st hq => wpAny_pyIter_striter_wide st hq), ⟨_, Heap.get?_push_size _ rfl, rfl, rfl⟩, hf, hk _ M1 _ H1 q e1 v1 (its_of x)⟩
    · refine wpAny_pyIter_ascii ha ?_
      exact ⟨s1.heap.objs.size, [s1.heap.objs.size], _, Its x, H1, rfl, I1.kept (t' := s1.toks) fun b o e => Heap.get?_push_of_some _ e, turn_str _ "str_ascii_iterator" x t (by decide) (fun A hA => Walks.strAscii hA _ x t) (fun A i s Q E hA st hi hq => wpAny_pyNext_ascii_end hA st (by simp; exact hi) hq) (fun A i s Q E st hq => wpAny_pyIter_striter_ascii st hq), ⟨_, Heap.get?_push_size _ rfl, rfl, rfl⟩, hf, hk _ M1 _ H1 q e1 v1 (its_of x)⟩
end
end R

set_option Elab.async false
set_option linter.all false
set_option maxRecDepth 100000
set_option maxHeartbeats 1000000
namespace R
open PySem PySem.Spec PyProof.Rows L2
section
variable {X : Cx}
/-! ### join -/
theorem reps_str {K : PySem.W.Frag} {H : Hp} : ∀ {ys : List Str} {vs : List V}, Reps K H (ys.map RV.str) vs → vs = ys.map V.str
  | [], vs, h => by simpa only [List.map_nil, Reps] using h
  | b :: bs, vs, h => by
    simp only [List.map_cons, Reps, Rep] at h
    obtain ⟨v, r, rfl, rfl, h2⟩ := h
    rw [reps_str h2]; rfl
theorem vals_str : ∀ {ys : List Str} {us : List Value}, Vals (ys.map V.str) us → StrsAre us ys
  | [], us, h => by cases h; exact .nil
  | b :: bs, us, h => by
    obtain ⟨u, r, rfl, h1, h2⟩ := Vals.cons_inv h
    obtain ⟨t, rfl⟩ := h1
    exact .cons _ _ (vals_str h2)
def mJoin (K : PySem.W.Frag) : V → List V → Hp → VK → Prop := fun x vs H Q => ∃ z p ys, x = .str z ∧ vs = [.ref p] ∧ SqL K H p (ys.map V.str) ∧ (ys.map (·.length)).sum + ys.length * z.length ≤ 16777216 ∧ Q (.str (Txt.join z ys)) H
theorem mt_join : MtR X "str.join" (mJoin X.K) := by
  intro pins s σ H x vs v us Q I rx rv h
  obtain ⟨z, p, ys, rfl, rfl, hp, hb, q⟩ := h
  obtain ⟨t, rfl⟩ := rx
  obtain ⟨u, rfl, ru⟩ := rv.one
  cases ru
  obtain ⟨its, r, pl, hz⟩ := I.list hp
  exact join_list pl.isList (by simpa using vals_str r) hb fun t' k => ⟨.str _, H, I.tok _, ⟨_, rfl⟩, q⟩
def rJoin (to : RTE) (t : RTA) : RTE := fun σ M Q => to σ M fun x M1 => match x with
  | .str z => t σ M1 fun rs M2 => ∃ ys : List Str, rs = [.ls (ys.map RV.str)] ∧ (ys.map (·.length)).sum + ys.length * z.length ≤ 16777216 ∧ Q (.str (Txt.join z ys)) M2
  | _ => False
theorem rjoin {o e : Expr} {to : RTE} {t : RTA} {apos cpos : Pos} (ho : RPE X o to) (ha : RPA X [e] t)
    (hbase : attributeBase o "join" X.env (eval o X.env) = eval o X.env := by rfl)
    (hfew : ((backTo cpos (starEach [e] X.env)).all (fun x => !x.1) && (backToKw cpos (keywordEach [] X.env)).all (fun x => x.1.isSome) && decide ([e].length + ([] : List Keyword).length + (if ([] : List Keyword).isEmpty then 0 else 1) < 30)) = true := by rfl)
    (hline : (apos.endLine == cpos.line) = true := by rfl) (hs : starEach [e] X.env = (false, eval e X.env) :: starEach [] X.env := by rfl) (hplain : (backTo cpos (starEach [] X.env)).any (·.1) = false := by rfl) :
    RPE X (.Call (.Attribute o "join" apos) [e] [] cpos) (rJoin to t) := PE.imp (pe_bm PySem.F.plainAttrs_str PySem.F.slot_str_join PySem.F.type_str_join mt_join ho ha hbase hfew hline hs hplain) fun σ0 H Q0 h => by
  obtain ⟨σ, M, Q, hs, hv, ht, hk⟩ := h
  refine ⟨σ, M, _, hs, hv, ht, fun rx M1 x H1 q e1 v1 r1 => ?_⟩
  cases rx with
  | str z =>
    simp only [Rep] at r1
    subst r1
    refine ⟨rfl, σ, M1, _, hs.ext e1, v1, q, fun rs M2 vs H2 q2 e2 v2 r2 => ?_⟩
    obtain ⟨ys, rfl, hb, q2⟩ := q2
    obtain ⟨v, rfl, r3⟩ := r2.one
    simp only [Rep] at r3
    obtain ⟨p, ws, rfl, h1, h2⟩ := r3
    have := reps_str h2
    subst this
    exact ⟨z, p, ys, rfl, rfl, h1.sq, hb, hk _ M2 _ H2 q2 (e1.trans e2) v2 (by simp only [Rep])⟩
  | _ => exact (show False from q).elim
/-! ### append -/
def rApp (to : RTE) (t : RTA) : RTE := fun σ M Q => to σ M fun x M1 => match x with
  | .ref p => (∃ ys, M1 p = some (.lst ys)) ∧ t σ M1 fun rs M2 => ∃ ys y, rs = [y] ∧ M2 p = some (.lst ys) ∧ ys.length < sizeLine ∧ Q .non (put M2 p (.lst (ys ++ [y])))
  | _ => False
theorem rappend {o e : Expr} {to : RTE} {t : RTA} {apos cpos : Pos} (ho : RPE X o to) (ha : RPA X [e] t)
    (hbase : attributeBase o "append" X.env (eval o X.env) = eval o X.env := by rfl)
    (hfew : ((backTo cpos (starEach [e] X.env)).all (fun x => !x.1) && (backToKw cpos (keywordEach [] X.env)).all (fun x => x.1.isSome) && decide ([e].length + ([] : List Keyword).length + (if ([] : List Keyword).isEmpty then 0 else 1) < 30)) = true := by rfl)
    (hline : (apos.endLine == cpos.line) = true := by rfl) (hs : starEach [e] X.env = (false, eval e X.env) :: starEach [] X.env := by rfl) (hplain : (backTo cpos (starEach [] X.env)).any (·.1) = false := by rfl) :
    RPE X (.Call (.Attribute o "append" apos) [e] [] cpos) (rApp to t) := PE.imp (pe_bm PySem.F.plainAttrs_list PySem.F.slot_list_append PySem.F.type_list_append mt_append ho ha hbase hfew hline hs hplain) fun σ0 H Q0 h => by
  obtain ⟨σ, M, Q, hs, hv, ht, hk⟩ := h
  refine ⟨σ, M, _, hs, hv, ht, fun rx M1 x H1 q e1 v1 r1 => ?_⟩
  cases rx with
  | ref p =>
    obtain ⟨⟨ys, hm⟩, q⟩ := q
    simp only [Rep] at r1
    subst r1
    obtain ⟨ho', e0, r0⟩ := v1 p _ hm
    obtain ⟨vs0, rfl, rr0⟩ := r0
    refine ⟨.inl ⟨rfl, _, SqL.of e0⟩, σ, M1, _, hs.ext e1, v1, q, fun rs M2 vs H2 q2 e2 v2 r2 => ?_⟩
    obtain ⟨ys2, y, rfl, hm2, hz, q2⟩ := q2
    obtain ⟨v, rfl, r3⟩ := r2.one
    obtain ⟨ho2, e3, r4⟩ := v2 p _ hm2
    obtain ⟨vs2, rfl, rr2⟩ := r4
    have ex : Ext H2 (upd H2 p (.lst (vs2 ++ [v]))) := Ext.write e3 rfl
    refine ⟨p, vs2, v, rfl, rfl, e3, by rw [← rr2.length]; exact hz, hk _ _ _ _ q2 ((e1.trans e2).trans ex) (v2.write hm2 ⟨_, rfl, ?_⟩) (by simp only [Rep])⟩
    exact (Reps.ext ex _ _ rr2).append (Reps.cons (Rep.ext ex _ _ r3) Reps.nil)
  | _ => exact (show False from q).elim
/-! ### list() of a tuple -/
def rList : List RV → RM → RVK → Prop := fun rs M Q => match rs with
  | [.tup xs] => Q (.ls xs) M
  | [.ls xs] => Q (.ls xs) M
  | _ => False
theorem clist : CallR X (.type "list") (upC X.K rList) := by
  intro pins s σ H xs us Q0 I rl h
  obtain ⟨rs, M, Q, rr, hv, hq, hk⟩ := h
  have key : ∀ (p : Addr) (vs : List V) (ys : List RV), xs = [.ref p] → (SqL X.K H p vs ∨ SqT X.K H p vs) → Reps X.K H ys vs → Q (.ls ys) M → wpAny (model X.prog X.w) X.A (call (.type "list") us) (EP X pins σ Q0) X.xe s := by
    intro p vs ys e hp hr hq
    subst e
    refine thn (call_list_of pins s σ H _ us (fun v H' => ∃ H1 p xs, v = .ref p ∧ H1 p = none ∧ H' = upd H1 p (.lst xs) ∧ ∀ o, Q0 (.ref p) (upd H1 p (.frz o (.lst xs)))) I rl ⟨p, vs, rfl, hp, fun l hl => ⟨H, l, vs, rfl, hl, rfl, fun o => ?_⟩⟩) fun _ _ e => frozen e
    exact hk _ M _ _ hq (Ext.new hl) (hv.new hl) (rep_ls hl hr)
  unfold rList at hq
  split at hq
  · obtain ⟨v, rfl, r1⟩ := rr.one
    simp only [Rep] at r1
    obtain ⟨q, vs, rfl, hp, hr⟩ := r1
    exact key q vs _ rfl (.inr hp) hr hq
  · obtain ⟨v, rfl, r1⟩ := rr.one
    simp only [Rep] at r1
    obtain ⟨q, vs, rfl, hp, hr⟩ := r1
    exact key q vs _ rfl (.inl hp.sq) hr hq
  · exact hq.elim
/-! ### a text times an int -/
def repS (x : Str) (n : Nat) : Str := ⟨(List.replicate n x.cps).foldl (· ++ ·) #[]⟩
def rMulS : RR2 := fun x y M Q => match x, y with
  | .str z, .int k => 2 ≤ k ∧ k ≤ 1000 ∧ z.length = 1 ∧ Q (.str (repS z k.toNat)) M
  | _, _ => False
theorem size_rep {α : Type} (a : Array α) : ∀ (n : Nat) (acc : Array α), ((List.replicate n a).foldl (· ++ ·) acc).size = acc.size + n * a.size
  | 0, acc => by simp
  | n + 1, acc => by
    rw [List.replicate_succ, List.foldl_cons, size_rep a n, Array.size_append, Nat.succ_mul]
    omega
theorem omulS : ROp X (binaryOp .Mult) rMulS := by
  intro pins s σ H x y v u Q0 I rx ry h
  obtain ⟨a, b, M, Q, ra, rb, hv, hq, hk⟩ := h
  cases a with
  | str z => cases b with
    | int k =>
      simp only [Rep] at ra rb
      subst ra; subst rb
      obtain ⟨t, rfl⟩ := rx
      obtain ⟨t', rfl⟩ := ry
      obtain ⟨h1, h2, h3, hq⟩ := hq
      have hn : ¬ k < 1 := by omega
      have hn1 : (k == 1 || z.length == 0) = false := by
        rw [h3]
        have : (k == 1) = false := by simp; omega
        rw [this]; rfl
      refine PySem.P.mul_str ?_ ?_ ?_ ?_
      · rw [decide_eq_false (by omega), decide_eq_false (by omega)]; rfl
      · intro _ _ hgt
        rw [h3] at hgt
        have h5 : (2 ^ 63 - 1) / k ≥ 1 := by
          have : (1 : Int) * k ≤ 2 ^ 63 - 1 := by omega
          exact Int.le_ediv_of_mul_le (by omega) this
        have h6 : ((1 : Nat) : Int) = 1 := rfl
        omega
      · intro _ _
        rw [h3]
        unfold Builtin.Str.tooLong
        exact decide_eq_false (by have : (1000 : Nat) ≤ sizeLine := by decide
                                  omega)
      · rw [if_neg hn, hn1]
        simp only [Bool.false_eq_true, if_false]
        refine ⟨?_, ⟨.str (repS z k.toNat), H, I.tok _, ⟨_, rfl⟩, hk _ M _ H hq (.refl H) hv (by simp only [Rep])⟩⟩
        show Array.size (List.foldl _ _ _) ≤ sizeLine
        rw [size_rep]
        have : z.cps.size = 1 := h3
        rw [this]
        have h7 : (1000 : Nat) ≤ sizeLine := by decide
        simp only [Array.size_empty]
        omega
    | _ => exact (show False from hq).elim
  | _ => cases b <;> exact (show False from hq).elim
/-! ### a def called by a name that holds it -/
def rCallV (fs : List (Addr × RSp)) (tx : RTE) (t : RTA) : RTE := fun σ M Q => tx σ M fun v M1 => match v with
  | .ref f => ∃ sp, (f, sp) ∈ fs ∧ t σ M1 fun rs M2 => sp rs M2 Q
  | _ => False
theorem rcallV {x : Str} {p pos : Pos} {e : Expr} {es : List Expr} {t : RTA} {tx : RTE} (fs : List (Addr × RSp))
    (hF : ∀ q ∈ fs, ∃ fd ps k, Room k X.A ∧ PySem.W.keepIn X.K (.ref q.1) = true ∧ Binds X.K fd ps [] ∧ FnOk X.prog X.w X.K X.mg X.base CX0 k q.1 fd ps (upSp X.K q.2)) (hx : RPE X (.Name x p) tx) (ha : RPA X (e :: es) t)
    (he : starEach (e :: es) X.env = (false, eval e X.env) :: starEach es X.env := by rfl) (hpl : (backTo pos (starEach es X.env)).any (·.1) = false := by rfl) : RPE X (.Call (.Name x p) (e :: es) [] pos) (rCallV fs tx t) := by
  intro pins s σ0 H Q0 I h
  obtain ⟨σ, M, Q, hs, hv, ht, hk⟩ := h
  refine wpAny_Call_Name_kw (thn (hx pins s σ0 H (fun v H1 => ∃ f sp M1, v = .ref f ∧ (f, sp) ∈ fs ∧ Ext H H1 ∧ View X.K H1 M1 ∧ t σ M1 fun rs M2 => sp rs M2 Q) I ⟨σ, M, _, hs, hv, ht, fun rv M1 v H1 q e1 v1 r1 => ?_⟩) fun v s1 ⟨y, H1, I1, r1, q1⟩ => ?_)
  · cases rv with
    | ref f => simp only [Rep] at r1; obtain ⟨sp, hm, q⟩ := q; exact ⟨f, sp, M1, r1, hm, e1, v1, q⟩
    | _ => exact (show False from q).elim
  · obtain ⟨f, sp, M1, rfl, hm, e1, v1, q⟩ := q1
    cases r1
    obtain ⟨fd, ps, k, hr, hkp, hb, F⟩ := hF _ hm
    refine PySem.W.callWith_K (h₀ := X.base) I1.ok.mod.kin hkp (thn (ha pos pins s1 σ0 H1 (fun vs H2 => upSp X.K sp (vs ++ []) H2 Q0 (fun _ _ _ => False)) I1 ⟨σ, M1, _, hs.ext e1, v1, q, fun rs M2 vs H2 q2 e2 v2 r2 => ?_⟩) fun us s2 ⟨vs, H2, I2, r, q⟩ => ⟨I2.kIn, ?_⟩) he hpl
    · exact ⟨rs, M2, Q, by rw [List.append_nil]; exact r2, v2, q2, hk.ext (e1.trans e2)⟩
    · exact run_fn F hr hb .nil pass0 I2 r q
end
theorem RFn.at {P : Program} {w : World} {K : PySem.W.Frag} {mg : Str → Option Value} {base : Heap} {k : Nat} {x : Str} {ps : List Str} {sp : RSp} {f : Addr} (F : RFn P w K mg base k x ps sp) (hm : mg x = some (.ref f)) :
    ∃ fd, PySem.W.keepIn K (.ref f) = true ∧ Binds K fd ps [] ∧ FnOk P w K mg base CX0 k f fd ps (upSp K sp) := by
  obtain ⟨g, fd, hg, h1, h2, h3⟩ := F.ex
  have e := hm.symm.trans hg
  cases e
  exact ⟨fd, h1, h2, h3⟩
end R

set_option Elab.async false
set_option linter.all false
set_option maxRecDepth 100000
set_option maxHeartbeats 1000000
namespace R
open PySem PySem.Spec PyProof.Rows L2
section
variable {σ : RSt} {M : RM} {Q : RVK} {QA : List RV → RM → Prop} {ta tb : RTE} {tr : RTA}
def kAndV (tb : RTE) (σ : RSt) (Q : RVK) : RVK := fun x M1 => match x with | .bl c => (c = true → tb σ M1 Q) ∧ (c = false → Q (.bl false) M1) | _ => False
def kOrV (tb : RTE) (σ : RSt) (Q : RVK) : RVK := fun x M1 => match x with | .bl c => (c = true → Q (.bl true) M1) ∧ (c = false → tb σ M1 Q) | _ => False
def kNotV (Q : RVK) : RVK := fun x M1 => match x with | .bl c => Q (.bl (!c)) M1 | _ => False
theorem do_andv (h : ta σ M (kAndV tb σ Q)) : rAndV ta tb σ M Q := h
theorem do_orv (h : ta σ M (kOrV tb σ Q)) : rOrV ta tb σ M Q := h
theorem do_notv (h : ta σ M (kNotV Q)) : rNotV ta σ M Q := h
theorem do_knotv {c : Bool} (h : Q (.bl (!c)) M) : kNotV Q (.bl c) M := h
theorem do_kand {c : Bool} (h1 : c = true → tb σ M Q) (h2 : c = false → Q (.bl false) M) : kAndV tb σ Q (.bl c) M := ⟨h1, h2⟩
theorem do_kandT (h : tb σ M Q) : kAndV tb σ Q (.bl true) M := ⟨fun _ => h, fun z => (by cases z)⟩
theorem do_kandF (h : Q (.bl false) M) : kAndV tb σ Q (.bl false) M := ⟨fun z => (by cases z), fun _ => h⟩
theorem do_kor {c : Bool} (h1 : c = true → Q (.bl true) M) (h2 : c = false → tb σ M Q) : kOrV tb σ Q (.bl c) M := ⟨h1, h2⟩
theorem do_korT (h : Q (.bl true) M) : kOrV tb σ Q (.bl true) M := ⟨fun _ => h, fun z => (by cases z)⟩
theorem do_korF (h : tb σ M Q) : kOrV tb σ Q (.bl false) M := ⟨fun z => (by cases z), fun _ => h⟩
theorem do_kch {rr' : RR2} {tc : RTE} {y : RV} {k : Bool} (h1 : k = true → tc σ M fun w M4 => rr' y w M4 Q) (h2 : k = false → Q (.bl false) M) : kCh rr' tc σ y Q (.bl k) M := ⟨h1, h2⟩
theorem do_inT {x : RV} {xs : List RV} (e1 : okR 15 x = true) (e2 : xs.all (okR 15) = true) (h : Q (.bl (inR x xs)) M) : rIn2 false x (.tup xs) M Q := ⟨e1, e2, h⟩
theorem do_inL {x : RV} {xs : List RV} (e1 : okR 15 x = true) (e2 : xs.all (okR 15) = true) (h : Q (.bl (inR x xs)) M) : rIn2 false x (.ls xs) M Q := ⟨e1, e2, h⟩
theorem do_ninT {x : RV} {xs : List RV} (e1 : okR 15 x = true) (e2 : xs.all (okR 15) = true) (h : Q (.bl (!inR x xs)) M) : rIn2 true x (.tup xs) M Q := ⟨e1, e2, h⟩
theorem do_ninL {x : RV} {xs : List RV} (e1 : okR 15 x = true) (e2 : xs.all (okR 15) = true) (h : Q (.bl (!inR x xs)) M) : rIn2 true x (.ls xs) M Q := ⟨e1, e2, h⟩
theorem do_ord {c : Nat} (h : Q (.int (c : Int)) M) : rOrd [.str ⟨#[c]⟩] M Q := ⟨rfl, h⟩
theorem do_all (bs : List Bool) (h : Q (.bl (bs.all id)) M) : rAll [.ls (bs.map RV.bl)] M Q := ⟨bs, rfl, h⟩
theorem do_len_s {z : Str} (e : z.length ≤ sizeLine) (h : Q (.int z.length) M) : rLen [.str z] M Q := ⟨e, h⟩
def kItX (Q : List RV → RM → Prop) : RVK := fun v M1 => match v with | .str x => Q (signsR x) M1 | _ => False
theorem do_itX (h : ta σ M (kItX QA)) : rItX ta σ M QA := h
theorem do_kitx {x : Str} (h : QA (signsR x) M) : kItX QA (.str x) M := h
theorem do_list_t {xs : List RV} (h : Q (.ls xs) M) : rList [.tup xs] M Q := h
theorem do_ltS {i j : Str} (h : Q (.bl (decide (i.cps.toList < j.cps.toList))) M) : rLtS (.str i) (.str j) M Q := h
theorem do_gtS {i j : Str} (h : Q (.bl (decide (j.cps.toList < i.cps.toList))) M) : rGtS (.str i) (.str j) M Q := h
def kCallV (fs : List (Addr × RSp)) (t : RTA) (σ : RSt) (Q : RVK) : RVK := fun v M1 => match v with
  | .ref f => ∃ sp, (f, sp) ∈ fs ∧ t σ M1 fun rs M2 => sp rs M2 Q
  | _ => False
theorem do_callV {fs : List (Addr × RSp)} (h : ta σ M (kCallV fs tr σ Q)) : rCallV fs ta tr σ M Q := h
theorem do_kcallV {fs : List (Addr × RSp)} {f : Addr} {sp : RSp} (hm : (f, sp) ∈ fs) (h : tr σ M fun rs M2 => sp rs M2 Q) : kCallV fs tr σ Q (.ref f) M := ⟨sp, hm, h⟩
def kTabIn (neg : Bool) (kvs : List (Key × RV)) (Q : RVK) : RVK := fun k M1 => match keyR k with
  | some key => Q (.bl (if neg then !(lookK kvs key).isSome else (lookK kvs key).isSome)) M1
  | none => False
theorem do_tabin {neg : Bool} {kvs : List (Key × RV)} (h : ta σ M (kTabIn neg kvs Q)) : rTabIn neg kvs ta σ M Q := h
theorem do_ktabnot {kvs : List (Key × RV)} {n : Str} (h : Q (.bl (!(lookK kvs (Sum.inr n)).isSome)) M) : kTabIn true kvs Q (.str n) M := h
theorem do_neg {i : Int} (h : Q (.int (-i)) M) : rgNeg (.int i) M Q := h
theorem do_addS {i j : Str} (e : i.length + j.length ≤ sizeLine) (h : Q (.str (i ++ j)) M) : R.rAdd (.str i) (.str j) M Q := ⟨e, h⟩
theorem do_start {P : RSt → RM → Prop} {τ τ' : RSt} (e : τ = τ') (h : P τ' M) : P τ M := by subst e; exact h
def kJoin (t : RTA) (σ : RSt) (Q : RVK) : RVK := fun x M1 => match x with
  | .str z => t σ M1 fun rs M2 => ∃ ys : List Str, rs = [.ls (ys.map RV.str)] ∧ (ys.map (·.length)).sum + ys.length * z.length ≤ 16777216 ∧ Q (.str (Txt.join z ys)) M2
  | _ => False
theorem do_join (h : ta σ M (kJoin tr σ Q)) : rJoin ta tr σ M Q := h
theorem do_kjoin {z : Str} (h : tr σ M fun rs M2 => ∃ ys : List Str, rs = [.ls (ys.map RV.str)] ∧ (ys.map (·.length)).sum + ys.length * z.length ≤ 16777216 ∧ Q (.str (Txt.join z ys)) M2) : kJoin tr σ Q (.str z) M := h
theorem do_mulI {i j : Int} (e : CMul i j) (h : Q (.int (i * j)) M) : R.rMul (.int i) (.int j) M Q := ⟨e, h⟩
theorem do_mulS {z : Str} {k : Int} (e1 : 2 ≤ k) (e2 : k ≤ 1000) (e3 : z.length = 1) (h : Q (.str (repS z k.toNat)) M) : rMulS (.str z) (.int k) M Q := ⟨e1, e2, e3, h⟩
theorem do_ixS {z : Str} {i : Int} (e : z.length ≤ sizeLine) (h0 : 0 ≤ i) (h1 : i < z.length) (h : ∀ c, Q (.str ⟨#[c]⟩) M) : R.rIx (.str z) (.int i) M Q := by
  refine ⟨e, ?_⟩
  obtain ⟨j, rfl⟩ := Int.eq_ofNat_of_zero_le h0
  have hj : j < z.cps.toList.length := by
    have : z.length = z.cps.toList.length := by simp [Str.length]
    omega
  rw [atI_nat (xs := z.cps.toList) (j := j) (by simp [hj] : z.cps.toList[j]? = some z.cps.toList[j])]
  exact h _
theorem do_addT' {xs ys : List RV} (e : xs.length + ys.length ≤ sizeLine) (h : Q (.tup (xs ++ ys)) M) : R.rAdd (.tup xs) (.tup ys) M Q := ⟨e, h⟩
def kApp (t : RTA) (σ : RSt) (Q : RVK) : RVK := fun x M1 => match x with
  | .ref p => (∃ ys, M1 p = some (.lst ys)) ∧ t σ M1 fun rs M2 => ∃ ys y, rs = [y] ∧ M2 p = some (.lst ys) ∧ ys.length < sizeLine ∧ Q .non (put M2 p (.lst (ys ++ [y])))
  | _ => False
theorem do_append (h : ta σ M (kApp tr σ Q)) : rApp ta tr σ M Q := h
theorem do_kapp {p : Addr} {ys : List RV} (e : M p = some (.lst ys)) (h : tr σ M fun rs M2 => ∃ ys y, rs = [y] ∧ M2 p = some (.lst ys) ∧ ys.length < sizeLine ∧ Q .non (put M2 p (.lst (ys ++ [y])))) : kApp tr σ Q (.ref p) M := ⟨⟨ys, e⟩, h⟩
theorem do_tuple_r {p : Addr} {ys : List RV} (e : M p = some (.lst ys)) (h : Q (.tup ys) M) : rTuple [.ref p] M Q := by
  show (match M p with | some (.lst xs) => Q (.tup xs) M | _ => False)
  rw [e]; exact h
theorem comp_all {te : RTE} {base : List (Option RV)} (p : RV → Prop) : ∀ (xs acc : List RV), (∀ x ∈ xs, ∀ Q' : RVK, (∀ v, p v → Q' v M) → te (some x :: base) M Q') → (∀ ys : List RV, ys.length = xs.length → (∀ y ∈ ys, p y) → Q (.ls (acc ++ ys)) M) → rCompL rYes te base xs acc M Q
  | [], acc, _, h => do_compNil (by simpa using h [] rfl (by simp))
  | x :: xs, acc, hs, h => do_compYes (hs x List.mem_cons_self _ fun v hv => comp_all p xs (acc ++ [v]) (fun y hy => hs y (List.mem_cons_of_mem _ hy)) fun ys hl ha => by
      have := h (v :: ys) (by simp [hl]) (by intro y hy; rcases List.mem_cons.mp hy with rfl | hy; exact hv; exact ha y hy)
      simpa using this)
theorem forL_ix {g : RTG} {tb : RTS} {n b c : RSt → RM → Prop} {r : RVK} (J : Nat → RSt → RM → Prop) (p : RV → Prop) (L : Nat) (hs : ∀ i x σ M (N : RSt → RM → Prop), i < L → p x → J i σ M → (∀ σ' M', J (i + 1) σ' M' → N σ' M') → g x σ M fun σ2 M2 => tb ⟨N, r, n, N⟩ σ2 M2)
    (hd : ∀ σ M, J L σ M → n σ M) : ∀ (xs : List RV) (i : Nat), (∀ x ∈ xs, p x) → i + xs.length = L → ∀ σ M, J i σ M → rForL g tb ⟨n, r, b, c⟩ xs σ M
  | [], i, _, hl, σ, M, j => hd σ M (by have : i = L := by simpa using hl
                                        subst this; exact j)
  | x :: xs, i, hp, hl, σ, M, j => by
    have hl' : i + 1 + xs.length = L := by rw [List.length_cons] at hl; omega
    exact do_forCons (hs i x σ M _ (by omega) (hp x List.mem_cons_self) j fun σ' M' j' => forL_ix J p L hs hd xs (i + 1) (fun y hy => hp y (List.mem_cons_of_mem _ hy)) hl' σ' M' j')
/-- a comprehension whose items are told by a function -/
theorem comp_map {te : RTE} {base : List (Option RV)} {f : RV → RV} : ∀ (xs acc : List RV), (∀ x ∈ xs, ∀ Q' : RVK, Q' (f x) M → te (some x :: base) M Q') → Q (.ls (acc ++ xs.map f)) M → rCompL rYes te base xs acc M Q
  | [], acc, _, h => do_compNil (by simpa using h)
  | x :: xs, acc, hs, h => do_compYes (hs x List.mem_cons_self _ (comp_map xs (acc ++ [f x]) (fun y hy => hs y (List.mem_cons_of_mem _ hy)) (by simpa using h)))
theorem comp_filter {tt : RTT} {te : RTE} {base : List (Option RV)} {p : RV → Bool} {f : RV → RV} : ∀ (xs acc : List RV), (∀ x ∈ xs, ∀ Q' : Bool → RM → Prop, Q' (p x) M → tt (some x :: base) M Q') → (∀ x ∈ xs, ∀ Q' : RVK, Q' (f x) M → te (some x :: base) M Q') →
    Q (.ls (acc ++ (xs.filter p).map f)) M → rCompL tt te base xs acc M Q
  | [], acc, _, _, h => do_compNil (by simpa using h)
  | x :: xs, acc, ht, hs, h => by
    refine do_compT (ht x List.mem_cons_self _ ?_)
    have ih := fun acc' h' => comp_filter xs acc' (fun y hy => ht y (List.mem_cons_of_mem _ hy)) (fun y hy => hs y (List.mem_cons_of_mem _ hy)) h'
    refine do_kB (fun e => hs x List.mem_cons_self _ (ih _ ?_)) fun e => ih _ ?_
    · simpa [List.filter_cons, e] using h
    · simpa [List.filter_cons, e] using h
end
end R

set_option Elab.async false
set_option linter.all false
set_option maxRecDepth 100000
set_option maxHeartbeats 1000000
namespace R
open PySem PySem.Spec PyProof.Rows L2
/-! ### None asked of a dict of the top -/
def okIs : Option Key → Value → Bool
  | none, .none => true
  | none, _ => false
  | some k, v => keyIs k v
def okH (w : World) : Option Key → Int
  | none => 0xFCA86420
  | some k => keyH w k
theorem okIs_shape : ∀ {k : Option Key} {v : Value}, okIs k v = true → (k = none ∧ v = Value.none) ∨ ∃ j, k = some j ∧ keyIs j v = true
  | none, v, h => by cases v <;> first | exact .inl ⟨rfl, rfl⟩ | (simp [okIs] at h)
  | some k, v, h => .inr ⟨k, rfl, h⟩
theorem keyIs_none {k : Key} : keyIs k Value.none = false := by cases k <;> rfl
section
variable {prog : Program} {w : World} {A : Around} {E : Value → Shared → Prop} {s : Shared}
theorem hash_none {Q : Int → Shared → Prop} (h : Q 0xFCA86420 { s with toks := s.toks + 1 }) : wpAny (model prog w) A (PySem.pyHash .none) Q E s := by
  have hT : s.TypeIs .none "NoneType" := rfl
  unfold PySem.pyHash
  have hv : [Value.none].any Value.onHeap = false := rfl
  refine wpAny_bind ?_
  rw [cRoomFor, if_neg (by rw [hv]; exact Bool.false_ne_true)]; refine wpAny_pure ?_
  refine wpAny_bind (wpAny_specialOf hT F.slot_NoneType_hash.lookup ?_)
  show wpAny _ _ (if (some (Value.builtin "NoneType.__hash__") == some Value.none) = true then _ else _) Q E s
  rw [if_neg (by rw [beq_builtin_none]; exact Bool.false_ne_true)]
  refine wpAny_bind (wpAny_specialOf hT F.slot_NoneType_hash.lookup ?_)
  show wpAny _ _ (callSpecialIfBoundUnlessNone? .none "__hash__" _ >>= _) Q E s
  refine wpAny_bind (wpAny_callSpecialIfBoundUnlessNone?_slot hT F.slot_NoneType_hash
    (wpAny_call_entry F.slot_NoneType_hash hT F.entry_NoneType_hash
      (show wpAny _ _ (do ret (← mkInt 0xFCA86420)) _ _ s from wpAny_ret_mkInt ?_) (F.args_NoneType_hash_1 _)))
  show wpAny _ _ (if (decide (-(2 : Int) ^ 63 ≤ 0xFCA86420) && decide ((0xFCA86420 : Int) < 2 ^ 63)) = true then _ else _) Q E _
  rw [if_pos (by decide)]
  exact wpAny_pure h
end
def optKind (prog : Program) (w : World) : PySem.KeyKind prog w (Option Key) where
  is := okIs
  hash := okH w
  inj := fun v a b ha hb => by
    rcases okIs_shape ha with ⟨rfl, rfl⟩ | ⟨j, rfl, hj⟩
    · rcases okIs_shape hb with ⟨rfl, _⟩ | ⟨i, rfl, hi⟩
      · rfl
      · rw [keyIs_none] at hi; cases hi
    · rcases okIs_shape hb with ⟨rfl, rfl⟩ | ⟨i, rfl, hi⟩
      · rw [keyIs_none] at hj; cases hj
      · rw [(mixKind prog w).inj v j i hj hi]
  byValue := fun k v h => by
    rcases okIs_shape h with ⟨rfl, rfl⟩ | ⟨j, rfl, hj⟩
    · rfl
    · exact (mixKind prog w).byValue j v hj
  pyHash := fun hv h => by
    rcases okIs_shape hv with ⟨rfl, rfl⟩ | ⟨j, rfl, hj⟩
    · exact hash_none h
    · exact (mixKind prog w).pyHash hj h
  eqBool := fun {A E s a b u v Q} hu hv h => by
    rcases okIs_shape hu with ⟨rfl, rfl⟩ | ⟨i, rfl, hi⟩
    · rcases okIs_shape hv with ⟨rfl, rfl⟩ | ⟨j, rfl, hj⟩
      · exact SeqAt.EqAt.same _ _ _ _ _ (by simpa using h)
      · have e : decide ((none : Option Key) = some j) = false := decide_eq_false (fun q => nomatch q)
        rw [e] at h
        rcases keyIs_shape hj with ⟨k, t, rfl, rfl⟩ | ⟨x, t, rfl, rfl⟩
        · exact SeqAt.EqAt.none_int k t _ _ _ _ h
        · exact SeqAt.EqAt.none_str x t _ _ _ _ h
    · rcases okIs_shape hv with ⟨rfl, rfl⟩ | ⟨j, rfl, hj⟩
      · have e : decide ((some i : Option Key) = none) = false := decide_eq_false (fun q => nomatch q)
        rw [e] at h
        rcases keyIs_shape hi with ⟨k, t, rfl, rfl⟩ | ⟨x, t, rfl, rfl⟩
        · exact SeqAt.EqAt.int_none k t _ _ _ _ h
        · exact SeqAt.EqAt.str_none x t _ _ _ _ h
      · have e : decide (some i = some j) = decide (i = j) := by
          by_cases q : i = j
          · subst q; simp
          · rw [decide_eq_false q, decide_eq_false fun z => q (Option.some.inj z)]
        rw [e] at h
        exact (mixKind prog w).eqBool hi hj h
  «strs» := fun k x t v h => by
    rcases okIs_shape h with ⟨rfl, e⟩ | ⟨j, rfl, hj⟩
    · cases e
    · exact (mixKind prog w).strs j x t v hj
theorem pairs_opt {P : Program} {w : World} {es : List DictEntry} {vs : List (Key × Value)} (h : Pairs (mixKind P w) es vs) : Pairs (optKind P w) es (vs.map fun p => (some p.1, p.2)) := by
  induction h with
  | nil => exact .nil
  | cons a b _ ih => exact .cons (kv := (some _, _)) a b ih
theorem nodup_some : ∀ {l : List Key}, l.Nodup → (l.map some).Nodup
  | [], _ => List.nodup_nil
  | a :: r, h => by
    obtain ⟨h1, h2⟩ := List.nodup_cons.mp h
    rw [List.map_cons]
    refine List.nodup_cons.mpr ⟨fun m => ?_, nodup_some h2⟩
    obtain ⟨b, hb, e⟩ := List.mem_map.mp m
    cases e
    exact h1 hb
theorem dict_opt {P : Program} {w : World} {h : Heap} {a : Addr} {vs : List (Key × Value)} (d : h.DictOf (mixKind P w) a vs) : h.DictOf (optKind P w) a (vs.map fun p => (some p.1, p.2)) := by
  obtain ⟨o, es, ep, h1, h2, h3, h4, h5, h6⟩ := d
  refine ⟨o, es, ep, h1, h2, h3, fun e he => ?_, pairs_opt h5, ?_⟩
  · obtain ⟨k, q1, q2⟩ := h4 e he
    exact ⟨some k, q1, q2⟩
  · rw [List.map_map]
    have : ((fun x : Option Key × Value => x.1) ∘ fun p : Key × Value => (some p.1, p.2)) = some ∘ fun p => p.1 := rfl
    rw [this, ← List.map_map]
    exact nodup_some h6
theorem none_at {vs : List (Key × Value)} : valueAt (vs.map fun p => (some p.1, p.2)) (none : Option Key) = none := by
  unfold valueAt
  rw [List.find?_eq_none.mpr]
  · rfl
  · intro x hx
    obtain ⟨p, _, rfl⟩ := List.mem_map.mp hx
    simp
section
variable {X : Cx}
def kTabNotN (kvs : List (Key × RV)) (Q : RVK) : RVK := fun k M1 => match k with
  | .non => Q (.bl true) M1
  | k => kTabIn true kvs Q k M1
def rTabNotN (kvs : List (Key × RV)) (te : RTE) : RTE := fun σ M Q => te σ M (kTabNotN kvs Q)
theorem rtabnotN_core {x : Str} {kvs : List (Key × RV)} {e : Expr} {te : RTE} {p : Pos} (T : KTab X.prog X.w X.K X.mg x kvs) (he : RPE X e te) (hg : Gl X x) (hd : (x == ("__debug__" : Str)) = false) :
    PC X .NotIn e (.Name x p) (up X.K (rTabNotN kvs te)) := by
  obtain ⟨a, vs, ws, hm, ha, hD, hk, hr⟩ := T.ex
  intro pins s σ0 H Q0 I h
  obtain ⟨σ, M, Q, hs', hv, ht, hq⟩ := h
  refine thn (he pins s σ0 H (fun v H1 => ∃ r M1, Rep X.K H1 r v ∧ Ext H H1 ∧ View X.K H1 M1 ∧ kTabNotN kvs Q r M1) I ⟨σ, M, _, hs', hv, ht, fun r M1 v H1 q e w r1 => ⟨r, M1, r1, e, w, q⟩⟩) fun iv s2 ⟨y, H2, I2, ry, r, M2, rr, e2, w2, q2⟩ => ?_
  refine ld_glob I2 hg hm ?_ hd
  have dd := hD _ I2.kIn
  by_cases hn : r = .non
  · subst hn
    have q2 : Q (.bl true) M2 := q2
    have : y = V.non := by simpa only [Rep] using rr
    subst this
    have : iv = Value.none := ry
    subst this
    refine wpAny_notIn_of (knd := optKind X.prog X.w) (k := none) rfl ha (dict_opt dd).mapOf ?_
    rw [none_at]
    exact ⟨.bl true, H2, I2.tok _, rfl, hq _ M2 _ H2 q2 e2 w2 (by simp only [Rep])⟩
  · have q2 : kTabIn true kvs Q r M2 := by
      cases r <;> first | exact q2 | exact absurd rfl hn
    unfold kTabIn at q2
    cases ek : keyR r with
    | none => rw [ek] at q2; exact q2.elim
    | some key =>
      rw [ek] at q2
      simp only at q2
      have := keyR_kV ek rr
      subst this
      refine wpAny_notIn_of (kV_is ry) ha dd.mapOf ?_
      rw [tab_isSome hk (hr H2)]
      exact ⟨.bl (!(lookK kvs key).isSome), H2, I2.tok _, rfl, hq _ M2 _ H2 q2 e2 w2 (by simp only [Rep]; rfl)⟩
theorem rttabnotN {x : Str} {kvs : List (Key × RV)} {e : Expr} {te : RTE} {p pos : Pos} (T : KTab X.prog X.w X.K X.mg x kvs) (he : RPE X e te) (hg : Gl X x := by rfl) (hd : (x == ("__debug__" : Str)) = false := by decide) (h1 : behindInMarks .NotIn (Expr.Name x p) = false := by with_unfolding_all rfl) :
    RPT X (.Compare e [.NotIn] [.Name x p] pos) (rTest (rTabNotN kvs te)) := PT.imp (pt_cmp (rtabnotN_core T he hg hd) h1) fun σ0 H Q0 h => by
  obtain ⟨σ, M, Q, hs, hv, ht, hk⟩ := h
  exact ⟨σ, M, _, hs, hv, ht, test_up hk⟩
end
section
variable {σ : RSt} {M : RM} {Q : RVK} {ta : RTE}
theorem do_tabnotN {kvs : List (Key × RV)} (h : ta σ M (kTabNotN kvs Q)) : rTabNotN kvs ta σ M Q := h
theorem do_ktabnotN0 {kvs : List (Key × RV)} (h : Q (.bl true) M) : kTabNotN kvs Q .non M := h
theorem do_ktabnotN {kvs : List (Key × RV)} {n : Str} (h : Q (.bl (!(lookK kvs (Sum.inr n)).isSome)) M) : kTabNotN kvs Q (.str n) M := h
end
end R

set_option Elab.async false
set_option linter.all false
set_option maxRecDepth 100000
set_option maxHeartbeats 4000000
namespace R
open PySem PySem.Spec PyProof.Rows L2
section
variable {prog : Program} {w : World} {A : Around} {E : Value → Shared → Prop} {s : Shared}
/-- zip draws from a tuple's iterator -/
theorem draw_tup {it t : Addr} {i : Nat} {items : Array Value} {x : Value} {Q : Value → Shared → Prop} (a1 : s.heap.IsTupleIter it t i) (a2 : s.heap.IsTuple t items) (a3 : items[i]? = some x)
    (k : ∀ h', h'.IsTupleIter it t (i + 1) → Heap.SameBut it s.heap h' → Q x { s with heap := h' }) : wpAny (model prog w) A (Builtin.SmallTypes.nextOf (.ref it)) Q E s := by
  obtain ⟨⟨c, d0, da, sl⟩, oe, oc, od⟩ := id a1
  simp only at oc od
  subst oc od
  obtain ⟨⟨c2, d2, da2, sl2⟩, qe, _, m, qd⟩ := a2
  simp only at qd
  subst qd
  have body : wpAny (model prog w) A.in1 (Builtin.«tuple_iterator.__next__» ⟨[.ref it], []⟩) (fun fin s' => ∃ v, fin = .done (.ret v) ∧ wpAny (model prog w) A (pure v : Sem Value) Q E s') E s := by
    wp_walk
    simp only [Int.toNat_natCast, a3]
    wp_walk
    refine ⟨x, rfl, wpAny_pure (k _ ⟨_, Heap.get?_update_self _ oe rfl, rfl, ?_⟩ (Heap.SameBut.update ..))⟩
    simp [Obj.mapFields, rawInt]
  unfold Builtin.SmallTypes.nextOf
  exact wpAny_bind (wpAny_callSpecial?_slot (name := Str.ofString "__next__") a1.typeIs PySem.F.slot_tuple_iterator_next (wpAny_call_entry PySem.F.slot_tuple_iterator_next a1.typeIs PySem.F.entry_tuple_iterator_next body (PySem.F.args_tuple_iterator_next_1 _)))
theorem end_tup {it t : Addr} {i : Nat} {items : Array Value} {Q : Value → Shared → Prop} (hh : A.handled = none) (a1 : s.heap.IsTupleIter it t i) (a2 : s.heap.IsTuple t items) (a3 : items[i]? = none)
    (k : ∀ h' e, Heap.ExtBut it s.heap h' → (∃ o, h'.get? e = some o ∧ o.cls = .type "StopIteration") → E (.ref e) { s with heap := h' }) : wpAny (model prog w) A (Builtin.SmallTypes.nextOf (.ref it)) Q E s := by
  obtain ⟨⟨c, d0, da, sl⟩, oe, oc, od⟩ := id a1
  simp only at oc od
  subst oc od
  obtain ⟨⟨c2, d2, da2, sl2⟩, qe, _, m, qd⟩ := a2
  simp only at qd
  subst qd
  have body : wpAny (model prog w) A.in1 (Builtin.«tuple_iterator.__next__» ⟨[.ref it], []⟩) (fun fin s' => ∃ v, fin = .done (.ret v) ∧ wpAny (model prog w) A (pure v : Sem Value) Q E s') E s := by
    wp_walk
    simp only [Int.toNat_natCast, a3]
    wp_walk
    unfold raiseNew
    refine wpAny_bind (wpAny_handled ?_)
    rw [show A.in1.handled = none from hh]
    exact wpAny_bind (wpAny_pure (wpAny_throw (k _ _ (((Heap.SameBut.update ..).extBut.push _).push _) ⟨_, Heap.get?_push_size _ rfl, rfl⟩)))
  unfold Builtin.SmallTypes.nextOf
  exact wpAny_bind (wpAny_callSpecial?_slot (name := Str.ofString "__next__") a1.typeIs PySem.F.slot_tuple_iterator_next (wpAny_call_entry PySem.F.slot_tuple_iterator_next a1.typeIs PySem.F.entry_tuple_iterator_next body (PySem.F.args_tuple_iterator_next_1 _)))
/-- the parts of a zip, which stand apart -/
structure Apart (z T O i j l m : Addr) : Prop where
  ne : [z, T, O, i, j].Nodup
  src : l ∉ [z, O, i, j] ∧ m ∉ [z, O, i, j]
/-- what a zip of a tuple (at l) and a list (at m) has about it behind n items -/
structure ZipSt (h : Heap) (z T O i j l m : Addr) (n : Nat) (xs ys : Array Value) (f : Value) : Prop where
  zp : IsZip h z T O f
  its : IsPair h T (.ref i) (.ref j)
  own : ∃ a b, IsPair h O a b
  it1 : h.IsTupleIter i l n
  it2 : h.IsListIter j m n
  src1 : h.IsTuple l xs
  src2 : h.IsList m ys
theorem zip_turn {z T O i j l m : Addr} {n : Nat} {xs ys : Array Value} {x y : Value} {Q : Value → Shared → Prop} (D : Apart z T O i j l m) (S : ZipSt s.heap z T O i j l m n xs ys .none) (hx : xs[n]? = some x) (hy : ys[n]? = some y)
    (k : ∀ h', ZipSt h' z T O i j l m (n + 1) xs ys (rawInt s.heap.objs.size) → IsPair h' s.heap.objs.size x y → h'.objs.size = s.heap.objs.size + 1 → (∀ c o, c ∉ [z, O, i, j] → s.heap.get? c = some o → h'.get? c = some o) → Q (.ref s.heap.objs.size) { s with heap := h' }) :
    wpAny (model prog w) A (Builtin.«zip.__next__» ⟨[.ref z], []⟩) (fun fin s' => ∃ v, fin = .done (.ret v) ∧ Q v s') E s := by
  obtain ⟨ez, et, ⟨a, b, eo⟩, e1, e2, es1, es2⟩ := S
  show wpAny _ _ (field (.ref z) 2 >>= _) _ _ _
  refine wpAny_bind (wpAny_field ez rfl (x := .bool false) rfl (wpAny_bind (wpAny_field ez rfl (x := .ref T) rfl (wpAny_bind (wpAny_seqItems et rfl ?_)))))
  have nd := D.ne
  simp only [List.nodup_cons, List.mem_cons, List.not_mem_nil, or_false, not_or, List.nodup_nil, not_false_eq_true, and_true] at nd
  obtain ⟨⟨zT, zO, zi, zj⟩, ⟨TO, Ti, Tj⟩, ⟨Oi, Oj⟩, ij⟩ := nd
  have sl := D.src.1
  have sm := D.src.2
  simp only [List.mem_cons, List.not_mem_nil, or_false, not_or] at sl sm
  obtain ⟨lz, lO, li, lj⟩ := sl
  obtain ⟨mz, mO, mi, mj⟩ := sm
  have free : wpAny (model prog w) A (Builtin.SmallTypes.ownedTupleIsFree (.ref z)) (fun b s' => b = true ∧ s' = s) E s := by
    unfold Builtin.SmallTypes.ownedTupleIsFree
    exact wpAny_bind (wpAny_field ez rfl (x := .none) rfl (wpAny_pure ⟨rfl, rfl⟩))
  refine wpAny_bind (m := Builtin.SmallTypes.ownedTupleIsFree (.ref z)) (thn free fun b' s' eb => ?_)
  obtain ⟨rfl, rfl⟩ := eb
  refine wpAny_bind (m := rule _) (wpAny_rule (wpAny_bind (wpAny_field ez rfl (x := .ref O) rfl (wpAny_bind (wpAny_setField_rec ez (by simp) fun g1 zp1 sb1 => ?_)))))
  have zq1 : IsZip g1 z T O .ellipsis := zp1
  refine wpAny_bind ?_
  simp only [List.zipIdx_cons, List.zipIdx_nil, List.forIn_cons, List.forIn_nil]
  refine wpAny_bind (wpAny_bind (wpAny_onRaise ?_))
  have keep1 : ∀ c o, c ≠ z → s'.heap.get? c = some o → g1.get? c = some o := fun c o n e => sb1.extBut c o n e
  refine wpAny_bind (m := Builtin.SmallTypes.nextOf (.ref i)) (draw_tup (e1.at fun o e => keep1 _ o (Ne.symm zi) e) (es1.at fun o e => keep1 _ o lz e) hx fun g2 u1 sb2 => wpAny_pure ?_)
  have keep2 : ∀ c o, c ≠ z → c ≠ i → s'.heap.get? c = some o → g2.get? c = some o := fun c o n n2 e => sb2.extBut c o n2 (keep1 c o n e)
  have eo2 : IsPair g2 O a b := keep2 _ _ (Ne.symm zO) Oi eo
  refine wpAny_bind (wpAny_seqItems eo2 rfl (wpAny_bind (wpAny_updateSeq_pair eo2 fun g3 v3 sb3 => wpAny_bind (wpAny_letGo (wpAny_pure ?_)))))
  have eo3 : IsPair g3 O x b := v3
  have keep3 : ∀ c o, c ≠ z → c ≠ i → c ≠ O → s'.heap.get? c = some o → g3.get? c = some o := fun c o n n2 n3 e => sb3.extBut c o n3 (keep2 c o n n2 e)
  refine wpAny_bind (wpAny_bind (wpAny_onRaise ?_))
  refine wpAny_bind (m := Builtin.SmallTypes.nextOf (.ref j)) (wpAny_nextOf_list_item (e2.at fun o e => keep3 _ o (Ne.symm zj) (Ne.symm ij) (Ne.symm Oj) e) (es2.at fun o e => keep3 _ o mz mi mO e) hy fun g4 u2 sb4 => wpAny_pure ?_)
  have eo4 : IsPair g4 O x b := sb4.extBut _ _ Oj eo3
  refine wpAny_bind (wpAny_seqItems eo4 rfl (wpAny_bind (wpAny_updateSeq_pair eo4 fun g5 v5 sb5 => wpAny_bind (wpAny_letGo (wpAny_pure (wpAny_pure ?_))))))
  have eo5 : IsPair g5 O x y := v5
  have keep5 : ∀ c o, c ≠ z → c ≠ i → c ≠ O → c ≠ j → s'.heap.get? c = some o → g5.get? c = some o := fun c o n n2 n3 n4 e => sb5.extBut c o n3 (sb4.extBut c o n4 (keep3 c o n n2 n3 e))
  have size5 : g5.objs.size = s'.heap.objs.size := by rw [sb5.1, sb4.1, sb3.1, sb2.1, sb1.1]
  have zq5 : IsZip g5 z T O .ellipsis := sb5.extBut _ _ zO (sb4.extBut _ _ zj (sb3.extBut _ _ zO (sb2.extBut _ _ zi zq1)))
  have u15 : g5.IsTupleIter i l (n + 1) := u1.at fun o e => sb5.extBut _ _ (Ne.symm Oi) (sb4.extBut _ _ ij (sb3.extBut _ _ (Ne.symm Oi) e))
  have u25 : g5.IsListIter j m (n + 1) := u2.at fun o e => sb5.extBut _ _ (Ne.symm Oj) e
  refine wpAny_bind (wpAny_seqItems eo5 rfl (wpAny_bind (wpAny_newTuple ?_)))
  have zq6 : IsZip (g5.push { cls := .type "tuple", data := .seq #[x, y] }) z T O .ellipsis := Heap.get?_push_of_some _ zq5
  have hand : wpAny (model prog w) A (Builtin.SmallTypes.ownedTupleHandOut (.ref z) (.ref g5.objs.size)) (fun _ s2 => ∃ g8, IsZip g8 z T O (rawInt g5.objs.size) ∧ g8.objs.size = g5.objs.size + 1 ∧ (∀ c o, c ≠ z → (g5.push { cls := .type "tuple", data := .seq #[x, y] }).get? c = some o → g8.get? c = some o) ∧ s2 = { s' with heap := g8 }) E { s' with heap := g5.push { cls := .type "tuple", data := .seq #[x, y] } } := by
    unfold Builtin.SmallTypes.ownedTupleHandOut
    refine wpAny_bind (wpAny_setField_rec zq6 (by simp) fun g7 w7 sb7 => wpAny_setField_rec (show IsZip g7 z T O (rawInt g5.objs.size) from w7) (by simp) fun g8 w8 sb8 => ⟨g8, w8, by rw [sb8.1, sb7.1, Heap.size_push], fun c o n e => sb8.extBut c o n (sb7.extBut c o n e), rfl⟩)
  refine wpAny_bind (m := Builtin.SmallTypes.ownedTupleHandOut (.ref z) (.ref g5.objs.size)) (thn hand fun _ s2 e8 => ?_)
  obtain ⟨g8, w8, sz8, keep8, rfl⟩ := e8
  have up : ∀ c o, c ≠ z → g5.get? c = some o → g8.get? c = some o := fun c o n e => keep8 c o n (Heap.get?_push_of_some _ e)
  have zlt : z < g5.objs.size := Heap.lt_size zq5
  have pr : IsPair g8 g5.objs.size x y := keep8 _ _ (Nat.ne_of_gt zlt) (Heap.get?_push_size _ rfl)
  rw [size5] at pr w8 sz8
  have keepK : ∀ c o, c ∉ [z, O, i, j] → s'.heap.get? c = some o → g8.get? c = some o := fun c o hc e => by
    simp only [List.mem_cons, List.not_mem_nil, or_false, not_or] at hc
    exact up c o hc.1 (keep5 c o hc.1 hc.2.2.1 hc.2.1 hc.2.2.2 e)
  have fin := k g8 ⟨w8, up _ _ (Ne.symm zT) (keep5 _ _ (Ne.symm zT) Ti TO Tj et), ⟨x, y, up _ _ (Ne.symm zO) eo5⟩, u15.at fun o e => up _ o (Ne.symm zi) e, u25.at fun o e => up _ o (Ne.symm zj) e, es1.at fun o e => up _ o lz (keep5 _ o lz li lO lj e), es2.at fun o e => up _ o mz (keep5 _ o mz mi mO mj e)⟩ pr sz8 keepK
  refine wpAny_pure ⟨_, rfl, ?_⟩
  show Q (.ref g5.objs.size) _
  rw [size5]
  exact fin
theorem zip_stop {z T O i j l m : Addr} {n : Nat} {xs ys : Array Value} {Q : Fin → Shared → Prop} (hh : A.handled = none) (D : Apart z T O i j l m) (S : ZipSt s.heap z T O i j l m n xs ys .none) (hx : xs[n]? = none)
    (k : ∀ h' e, (∀ c o, c ∉ [z, O, i, j] → s.heap.get? c = some o → h'.get? c = some o) → (∃ o, h'.get? e = some o ∧ o.cls = .type "StopIteration") → E (.ref e) { s with heap := h' }) :
    wpAny (model prog w) A (Builtin.«zip.__next__» ⟨[.ref z], []⟩) Q E s := by
  obtain ⟨ez, et, ⟨a, b, eo⟩, e1, e2, es1, es2⟩ := S
  have nd := D.ne
  simp only [List.nodup_cons, List.mem_cons, List.not_mem_nil, or_false, not_or, List.nodup_nil, not_false_eq_true, and_true] at nd
  obtain ⟨⟨zT, zO, zi, zj⟩, ⟨TO, Ti, Tj⟩, ⟨Oi, Oj⟩, ij⟩ := nd
  have sl := D.src.1
  simp only [List.mem_cons, List.not_mem_nil, or_false, not_or] at sl
  obtain ⟨lz, lO, li, lj⟩ := sl
  show wpAny _ _ (field (.ref z) 2 >>= _) _ _ _
  refine wpAny_bind (wpAny_field ez rfl (x := .bool false) rfl (wpAny_bind (wpAny_field ez rfl (x := .ref T) rfl (wpAny_bind (wpAny_seqItems et rfl ?_)))))
  have free : wpAny (model prog w) A (Builtin.SmallTypes.ownedTupleIsFree (.ref z)) (fun b s' => b = true ∧ s' = s) E s := by
    unfold Builtin.SmallTypes.ownedTupleIsFree
    exact wpAny_bind (wpAny_field ez rfl (x := .none) rfl (wpAny_pure ⟨rfl, rfl⟩))
  refine wpAny_bind (m := Builtin.SmallTypes.ownedTupleIsFree (.ref z)) (thn free fun b' s' eb => ?_)
  obtain ⟨rfl, rfl⟩ := eb
  refine wpAny_bind (m := rule _) (wpAny_rule (wpAny_bind (wpAny_field ez rfl (x := .ref O) rfl (wpAny_bind (wpAny_setField_rec ez (by simp) fun g1 zp1 sb1 => ?_)))))
  have zq1 : IsZip g1 z T O .ellipsis := zp1
  refine wpAny_bind ?_
  simp only [List.zipIdx_cons, List.zipIdx_nil, List.forIn_cons, List.forIn_nil]
  refine wpAny_bind (wpAny_bind (wpAny_onRaise ?_))
  have keep1 : ∀ c o, c ≠ z → s'.heap.get? c = some o → g1.get? c = some o := fun c o n e => sb1.extBut c o n e
  refine wpAny_bind (m := Builtin.SmallTypes.nextOf (.ref i)) (end_tup hh (e1.at fun o e => keep1 _ o (Ne.symm zi) e) (es1.at fun o e => keep1 _ o lz e) hx fun g2 ex sb2 st => ?_)
  obtain ⟨oe, he, hc⟩ := st
  have zq2 : IsZip g2 z T O .ellipsis := sb2 _ _ zi zq1
  have exz : ex ≠ z := fun q => by subst q; rw [zq2] at he; cases he; simp at hc
  refine wpAny_setField_rec zq2 (by simp) fun g3 _ sb3 => k g3 ex (fun c o hc e => ?_) ⟨oe, sb3.extBut _ _ exz he, hc⟩
  simp only [List.mem_cons, List.not_mem_nil, or_false, not_or] at hc
  exact sb3.extBut _ _ hc.1 (sb2 _ _ hc.2.2.1 (keep1 _ _ hc.1 e))
theorem zip_next {z T O i j l m : Addr} {n : Nat} {xs ys : Array Value} {x y : Value} {Q : Option Value → Shared → Prop} (D : Apart z T O i j l m) (S : ZipSt s.heap z T O i j l m n xs ys .none) (hx : xs[n]? = some x) (hy : ys[n]? = some y)
    (k : ∀ h', ZipSt h' z T O i j l m (n + 1) xs ys (rawInt s.heap.objs.size) → IsPair h' s.heap.objs.size x y → h'.objs.size = s.heap.objs.size + 1 → (∀ c o, c ∉ [z, O, i, j] → s.heap.get? c = some o → h'.get? c = some o) → Q (some (.ref s.heap.objs.size)) { s with heap := h' }) :
    wpAny (model prog w) A (pyNext (.ref z)) Q E s := by
  have ty : s.TypeIs (.ref z) "zip" := ⟨_, S.zp, rfl⟩
  unfold pyNext
  exact wpAny_bind (wpAny_attempt (wpAny_callSpecial?_slot (name := Str.ofString "__next__") ty PySem.F.slot_zip_next (wpAny_call_entry PySem.F.slot_zip_next ty PySem.F.entry_zip_next (zip_turn D S hx hy fun h' q1 q2 q3 q4 => wpAny_pure (k h' q1 q2 q3 q4)) (PySem.F.args_zip_next_1 _))))
theorem zip_over {z T O i j l m : Addr} {n : Nat} {xs ys : Array Value} {Q : Option Value → Shared → Prop} (hh : A.handled = none) (D : Apart z T O i j l m) (S : ZipSt s.heap z T O i j l m n xs ys .none) (hx : xs[n]? = none)
    (k : ∀ h', (∀ c o, c ∉ [z, O, i, j] → s.heap.get? c = some o → h'.get? c = some o) → Q none { s with heap := h' }) : wpAny (model prog w) A (pyNext (.ref z)) Q E s := by
  have ty : s.TypeIs (.ref z) "zip" := ⟨_, S.zp, rfl⟩
  unfold pyNext
  refine wpAny_bind (wpAny_attempt (wpAny_callSpecial?_slot (name := Str.ofString "__next__") ty PySem.F.slot_zip_next (wpAny_call_entry PySem.F.slot_zip_next ty PySem.F.entry_zip_next (zip_stop hh D S hx fun h' e q1 q2 => ?_) (PySem.F.args_zip_next_1 _))))
  obtain ⟨o, ho, hc⟩ := q2
  exact wpAny_bind (wpAny_isInstance (T := "StopIteration") (b := true) ⟨o, ho, hc⟩ isSubtype_stop (wpAny_pure (k _ q1)))
end
section
variable {X : Cx} {pins : List (Addr × Obj)} {σ : L2.St} {H : Hp} {s : Shared} {h' : Heap}
/-- several records of ours have turned -/
theorem turnedL {t' : Nat} {its : List Addr} (I : Inv X pins σ H s) (k : ∀ b o, b ∉ its → s.heap.get? b = some o → h'.get? b = some o) (hf : ∀ b ∈ its, FpOk X pins H b) : Inv X pins σ H { s with heap := h', toks := t' } := by
  have off : ∀ b u, H b = some u → b ∉ its := fun b u e z => by rw [(hf b z).1] at e; cases e
  refine I.step (g' := s.gens) (d' := s.drawn) (ch := its) (fun b hb => ⟨(hf b hb).2.2.2.1, (hf b hb).2.1, (hf b hb).2.2.2.2.1, (hf b hb).2.2.2.2.2⟩) (fun b o _ _ hc e _ => k b o hc e) (fun b o _ _ hc e _ => ⟨o.slots, k b o hc e⟩) (fun _ _ _ _ n => n)
    (fun b o hc e => ⟨o, k b o hc e⟩) (fun _ _ e => e) (fun _ _ _ e => e) (fun b ps e => ⟨#[], by rw [e]; simp⟩) (fun m hm => ?_) (fun b u e => ?_) I.bare
  · obtain ⟨o, es, ep, ho, r⟩ := hm
    exact ⟨o, es, ep, k _ o (fun z => (hf _ z).2.1 rfl) ho, r⟩
  · refine (I.hok b u e).stay (fun c v hc q => k c v ?_ q) (fun _ q => q) fun _ _ q => q
    rcases hc with z | z
    · rw [z]; exact off b u e
    · exact off c _ z
end
def Itz (K : PySem.W.Frag) (l m : Addr) : It :=
  ⟨fun i H => ∃ xs ys x y, SqT K H l xs ∧ SqL K H m ys ∧ xs[i]? = some x ∧ ys[i]? = some y,
   fun i H v H' => ∃ p x y, v = .ref p ∧ H p = none ∧ H' = upd H p (.tup [x, y]) ∧ (∀ xs, SqT K H l xs → xs[i]? = some x) ∧ ∀ ys, SqL K H m ys → ys[i]? = some y,
   fun i H => ∃ xs ys, SqT K H l xs ∧ SqL K H m ys ∧ xs.length ≤ i⟩
structure ZipTn (h : Heap) (z T O i j l m : Addr) (n : Nat) : Prop where
  zp : IsZip h z T O .none
  its : IsPair h T (.ref i) (.ref j)
  own : ∃ a b, IsPair h O a b
  it1 : h.IsTupleIter i l n
  it2 : h.IsListIter j m n
theorem turn_zip {P : Program} {w : World} {K : PySem.W.Frag} {es : List Expr} {k : Nat} {ps : Pos} {z T O i j l m : Addr} (D : Apart z T O i j l m) : Turn P w K (.Tuple es k ps) (Itz K l m) [z, T, O, i, j] z (fun n h => ZipTn h z T O i j l m n) where
  mem := by simp
  obj := fun n h st b hb => by
    obtain ⟨q1, q2, ⟨a, c, q3⟩, ⟨o4, q4, _, d4⟩, ⟨o5, q5, _, d5⟩⟩ := st
    simp only [List.mem_cons, List.not_mem_nil, or_false] at hb
    rcases hb with rfl | rfl | rfl | rfl | rfl
    · exact ⟨_, q1, fun v e => by cases e⟩
    · exact ⟨_, q2, fun v e => by cases e⟩
    · exact ⟨_, q3, fun v e => by cases e⟩
    · exact ⟨o4, q4, fun v e => by rw [d4] at e; cases e⟩
    · exact ⟨o5, q5, fun v e => by rw [d5] at e; cases e⟩
  keep := fun n h h' st kp => by
    obtain ⟨q1, q2, ⟨a, c, q3⟩, q4, q5⟩ := st
    exact ⟨kp _ (by simp) _ q1, kp _ (by simp) _ q2, ⟨a, c, kp _ (by simp) _ q3⟩, q4.at fun o e => kp _ (by simp) o e, q5.at fun o e => kp _ (by simp) o e⟩
  item := by
    intro X hP hw hK hc n pins s σ H E I hf st hg
    subst hP hw hK
    obtain ⟨xs, ys, x, y, t1, t2, hx, hy⟩ := hg
    obtain ⟨its1, rv1, p1, hz1⟩ := I.tuple t1
    obtain ⟨its2, rv2, p2, hz2⟩ := I.list t2
    obtain ⟨u1, hu1, ru1⟩ := rv1.get hx
    obtain ⟨u2, hu2, ru2⟩ := rv2.get hy
    obtain ⟨q1, q2, q3, q4, q5⟩ := id st
    have hfr := I.hok.fresh (Nat.le_refl s.heap.objs.size)
    have new : ∀ b ∈ [z, T, O, i, j], b < s.heap.objs.size := fun b hb => by
      obtain ⟨a, c, q3'⟩ := q3
      obtain ⟨o4, q4', _⟩ := q4
      obtain ⟨o5, q5', _⟩ := q5
      simp only [List.mem_cons, List.not_mem_nil, or_false] at hb
      rcases hb with rfl | rfl | rfl | rfl | rfl
      · exact Heap.lt_size q1
      · exact Heap.lt_size q2
      · exact Heap.lt_size q3'
      · exact Heap.lt_size q4'
      · exact Heap.lt_size q5'
    have hfO : FpOk X pins H O := hf O (by simp)
    refine zip_next D ⟨q1, q2, q3, q4, q5, show s.heap.IsTuple l its1.toArray from p1, p2.isList⟩ (by simpa using hu1) (by simpa using hu2) fun g S pr sz kk => ⟨_, rfl, ?_⟩
    refine wpAny_letOwnedTupleGo_zip S.zp fun g' z' sb => ?_
    have keepg : ∀ c o, c ∉ [z, O, i, j] → s.heap.get? c = some o → g'.get? c = some o := fun c o hc' e => sb.extBut c o (fun q => hc' (by simp [q])) (kk c o hc' e)
    have pz : s.heap.objs.size ≠ z := Nat.ne_of_gt (new z (by simp))
    have pr' : IsPair g' s.heap.objs.size u1 u2 := sb.extBut _ _ pz pr
    have I1 := I.laid (h' := s.heap.push { cls := .type "tuple", data := .seq #[u1, u2] }) (a := s.heap.objs.size) (o := .tup [x, y]) (t' := s.toks) (fun b o e => Heap.get?_push_of_some _ e) (Nat.le_refl _) ⟨show 2 ≤ sizeLine by decide, [u1, u2], .cons ru1 (.cons ru2 .nil), ⟨_, Heap.get?_push_size _ rfl, rfl, _, rfl⟩⟩
    have fp' : ∀ b ∈ [z, O, i, j], FpOk X pins (upd H s.heap.objs.size (.tup [x, y])) b := fun b hb => by
      have hb' : b ∈ [z, T, O, i, j] := by
        simp only [List.mem_cons, List.not_mem_nil, or_false] at hb ⊢
        rcases hb with q | q | q | q <;> simp [q]
      have z1 := hf b hb'
      exact ⟨by rw [upd_ne (Nat.ne_of_lt (new b hb'))]; exact z1.1, z1.2⟩
    have I2 := turnedL (h' := g') (t' := s.toks) (its := [z, O, i, j]) I1 (fun b o hb e => by
      rcases Heap.get?_push_cases e with ⟨rfl, rfl⟩ | e2
      · exact pr'
      · exact keepg b o hb e2) fp'
    refine ⟨.ref s.heap.objs.size, upd H s.heap.objs.size (.tup [x, y]), I2, rfl, ⟨_, x, y, rfl, hfr, rfl, fun xs' t1' => ?_, fun ys' t2' => ?_⟩, ?_, fun b hb => ?_⟩
    · rw [I.tuple_inj t1' t1]; exact hx
    · rw [I.list_inj t2' t2]; exact hy
    · obtain ⟨w1, w2, ⟨a, c, w3⟩, w4, w5, _, _⟩ := S
      have nd := D.ne
      simp only [List.nodup_cons, List.mem_cons, List.not_mem_nil, or_false, not_or, List.nodup_nil, not_false_eq_true, and_true] at nd
      obtain ⟨⟨zT, zO, zi, zj⟩, _⟩ := nd
      exact ⟨z', sb.extBut _ _ (Ne.symm zT) w2, ⟨a, c, sb.extBut _ _ (Ne.symm zO) w3⟩, w4.at fun o e => sb.extBut _ _ (Ne.symm zi) e, w5.at fun o e => sb.extBut _ _ (Ne.symm zj) e⟩
    · rw [upd_ne (Nat.ne_of_lt (new b hb))]; exact (hf b hb).1
  done := by
    intro X hP hw hK hc n pins s σ H E I hf st hg
    subst hP hw hK
    obtain ⟨xs, ys, t1, t2, hn⟩ := hg
    obtain ⟨its1, rv1, p1, hz1⟩ := I.tuple t1
    obtain ⟨its2, rv2, p2, hz2⟩ := I.list t2
    obtain ⟨q1, q2, q3, q4, q5⟩ := id st
    have hl := rv1.length
    refine zip_over (I.ok.hd hc) D ⟨q1, q2, q3, q4, q5, show s.heap.IsTuple l its1.toArray from p1, p2.isList⟩ (by simp; omega) fun g kk => ⟨rfl, ?_⟩
    exact turnedL (h' := g) (t' := s.toks) (its := [z, O, i, j]) I kk fun b hb => hf b (by
      simp only [List.mem_cons, List.not_mem_nil, or_false] at hb ⊢
      rcases hb with q | q | q | q <;> simp [q])
  self := fun A n s Q E st h => wpAny_pyIter_zip st.zp h
abbrev zA (h : Heap) (l : Addr) : Heap := h.push { cls := .type "tuple_iterator", data := .fields #[.ref l, .int 0 0] }
abbrev zB (h : Heap) (l m : Addr) : Heap := (zA h l).push { cls := .type "list_iterator", data := .fields #[.ref m, .int 0 0] }
abbrev zC (h : Heap) (l m : Addr) : Heap := (zB h l m).push { cls := .type "tuple", data := .seq #[.ref h.objs.size, .ref (zA h l).objs.size] }
abbrev zD (h : Heap) (l m : Addr) : Heap := (zC h l m).push { cls := .type "tuple", data := .seq #[.none, .none] }
abbrev zE (h : Heap) (l m : Addr) : Heap := (zD h l m).push { cls := .type "zip", data := .fields #[.none, .bool false, .bool false, .ref (zB h l m).objs.size, .ref (zC h l m).objs.size] }
theorem zip_made (l m : Addr) (xs ys : Array Value) : Meets (Builtin.«zip.__new__» ⟨[.type "zip", .ref l, .ref m], []⟩) (fun _ R s => s.heap.IsTuple l xs ∧ s.heap.IsList m ys ∧ R (.ok (.ret (.ref (zD s.heap l m).objs.size))) { s with heap := zE s.heap l m }) :=
  .of_wp fun prog w A R s h => by
    obtain ⟨hp, g, d, tk, os⟩ := s
    obtain ⟨t1, t2, q⟩ := h
    have sub := sub_zip
    have k1 : Heap.IsTuple (Shared.heap ⟨hp, g, d, tk, os⟩) l xs := t1
    have k2 : Heap.IsList (Shared.heap ⟨zA hp l, g, d, tk, os⟩) m ys := Heap.IsList.push t2 _
    wp_walk using wpAny_pyIter_tuple k1, wpAny_pyIter_list k2
    exact ⟨_, rfl, q⟩
section
variable {X : Cx}
def zRs (Q : List RV → RM → Prop) : List RV → RM → Prop := fun rs M2 => match rs with
  | [.tup xs, .ls ys] => xs.length = ys.length ∧ Q ((xs.zip ys).map fun p => .tup [p.1, p.2]) M2
  | _ => False
def rItZ (t1 t2 : RTE) : RTI := fun σ M Q => rCons t1 (rCons t2 rNil) σ M (zRs Q)
def kItZ (Q : List RV → RM → Prop) (x : RV) : RVK := fun y M2 => zRs Q [x, y] M2
theorem do_itZ {t1 t2 : RTE} {σ : RSt} {M : RM} {Q : List RV → RM → Prop} (h : t1 σ M fun x M1 => t2 σ M1 (kItZ Q x)) : rItZ t1 t2 σ M Q := h
theorem do_kitz {M : RM} {Q : List RV → RM → Prop} {xs ys : List RV} {zs : List RV} (e : xs.length = ys.length) (ez : ((xs.zip ys).map fun p => (.tup [p.1, p.2] : RV)) = zs) (h : Q zs M) : kItZ Q (.tup xs) (.ls ys) M := ⟨e, by rw [ez]; exact h⟩
theorem itz_of {K : PySem.W.Frag} {H1 : Hp} {l m : Addr} {xs ys : List RV} {vs ws : List V} (t1 : SqT K H1 l vs) (t2 : Fz K H1 m ws) (r1 : Reps K H1 xs vs) (r2 : Reps K H1 ys ws) (he : xs.length = ys.length) : ItOf K (Itz K l m) ((xs.zip ys).map fun p => .tup [p.1, p.2]) H1 where
  turn := fun i H e x hx => by
    rw [List.getElem?_map] at hx
    cases hz : (xs.zip ys)[i]? with
    | none => rw [hz] at hx; cases hx
    | some p =>
      rw [hz] at hx
      have hx' : RV.tup [p.1, p.2] = x := by simpa using hx
      subst hx'
      rw [List.getElem?_zip_eq_some] at hz
      obtain ⟨v, hv, rv⟩ := r1.get hz.1
      obtain ⟨w, hw, rw_⟩ := r2.get hz.2
      refine ⟨⟨vs, ws, v, w, SqT.ext e t1, (t2.ext e).sq, hv, hw⟩, fun u H' y => ?_⟩
      obtain ⟨q, v', w', rfl, hn, rfl, k1, k2⟩ := y
      have e1 := k1 vs (SqT.ext e t1)
      have e2 := k2 ws (t2.ext e).sq
      rw [hv] at e1; cases e1
      rw [hw] at e2; cases e2
      refine ⟨Ext.new hn, fun M vw => vw.new hn, ?_⟩
      exact rep_tup hn (Reps.cons (Rep.ext e _ _ rv) (Reps.cons (Rep.ext e _ _ rw_) Reps.nil))
  stop := fun i H e hi => ⟨vs, ws, SqT.ext e t1, (t2.ext e).sq, by
    rw [List.length_map, List.length_zip] at hi
    rw [← r1.length]
    omega⟩
theorem izip {tg a b : Expr} {t1 t2 : RTE} {p pos : Pos} (hm : X.mg "zip" = none) (ha : RPE X a t1) (hb : RPE X b t2) (hgl : Gl X "zip" := by rfl) (htg : ∃ elts k q, tg = .Tuple elts k q := by exact ⟨_, _, _, rfl⟩)
    (hst : starEach [a, b] X.env = [(false, eval a X.env), (false, eval b X.env)] := by rfl) (hs2 : starEach [b] X.env = [(false, eval b X.env)] := by rfl)
    (he1 : starEach [a, b] X.env = (false, eval a X.env) :: starEach [b] X.env := by rfl) (he2 : starEach [b] X.env = (false, eval b X.env) :: starEach [] X.env := by rfl) : RPI X tg (.Call (.Name "zip" p) [a, b] [] pos) (rItZ t1 t2) := by
  obtain ⟨elts, kk, qq, rfl⟩ := htg
  intro pins s σ0 H R I h
  obtain ⟨σ, M, Q, hs, hv, ht, hk⟩ := h
  have args : RPA X [a, b] (rCons t1 (rCons t2 rNil)) := acons ha (acons hb anil he2) he1
  refine Call_ (ld_blt I hgl hm boot_zip (PyProof.Rows.callWith_type1 (thn (args pos pins s σ0 H (fun vs H1 => ∃ xs ys M1, Reps X.K H1 [.tup xs, .ls ys] vs ∧ xs.length = ys.length ∧ Q ((xs.zip ys).map fun p => .tup [p.1, p.2]) M1 ∧ Ext H H1 ∧ View X.K H1 M1) I ⟨σ, M, _, hs, hv, ht, fun rs M1 vs H1 q e1 v1 r1 => ?_⟩) fun us s1 q1 => ?_) (by rw [hst, hs2]) (by rw [hs2]; rfl)))
  · unfold zRs at q
    split at q
    · exact ⟨_, _, M1, r1, q.1, q.2, e1, v1⟩
    · exact q.elim
  · obtain ⟨vs, H1, I1, rv, xs, ys, M1, rr, hl, q, e1, v1⟩ := q1
    simp only [Reps, Rep] at rr
    obtain ⟨v, r, rfl, ⟨l, ws, rfl, ht1, hr1⟩, v2, r2, rfl, ⟨m, ws2, rfl, ht2, hr2⟩, rfl⟩ := rr
    obtain ⟨u1, us1, rfl, q1, rv⟩ := Vals.cons_inv rv
    obtain ⟨u2, us2, rfl, q2, rv⟩ := Vals.cons_inv rv
    cases rv
    cases q1; cases q2
    obtain ⟨i1, vv1, p1, z1⟩ := I1.tuple ht1
    obtain ⟨i2, vv2, p2, z2⟩ := I1.list ht2.sq
    have l1 : l < s1.heap.objs.size := by obtain ⟨o, e, _⟩ := (show s1.heap.IsTuple l i1.toArray from p1); exact Heap.lt_size e
    have l2 : m < s1.heap.objs.size := by obtain ⟨o, e, _⟩ := p2.isList; exact Heap.lt_size e
    have sA : (zA s1.heap l).objs.size = s1.heap.objs.size + 1 := Heap.size_push ..
    have sB : (zB s1.heap l m).objs.size = s1.heap.objs.size + 2 := by rw [Heap.size_push, sA]
    have sC : (zC s1.heap l m).objs.size = s1.heap.objs.size + 3 := by rw [Heap.size_push, sB]
    have sD : (zD s1.heap l m).objs.size = s1.heap.objs.size + 4 := by rw [Heap.size_push, sC]
    have g1 : (zE s1.heap l m).get? s1.heap.objs.size = some _ := Heap.get?_push_of_some _ (Heap.get?_push_of_some _ (Heap.get?_push_of_some _ (Heap.get?_push_of_some _ (Heap.get?_push_size _ rfl))))
    have g2 : (zE s1.heap l m).get? (zA s1.heap l).objs.size = some _ := Heap.get?_push_of_some _ (Heap.get?_push_of_some _ (Heap.get?_push_of_some _ (Heap.get?_push_size _ rfl)))
    have g3 : (zE s1.heap l m).get? (zB s1.heap l m).objs.size = some _ := Heap.get?_push_of_some _ (Heap.get?_push_of_some _ (Heap.get?_push_size _ rfl))
    have g4 : (zE s1.heap l m).get? (zC s1.heap l m).objs.size = some _ := Heap.get?_push_of_some _ (Heap.get?_push_size _ rfl)
    have g5 : (zE s1.heap l m).get? (zD s1.heap l m).objs.size = some _ := Heap.get?_push_size _ rfl
    have old : ∀ b o, s1.heap.get? b = some o → (zE s1.heap l m).get? b = some o := fun b o e => Heap.get?_push_of_some _ (Heap.get?_push_of_some _ (Heap.get?_push_of_some _ (Heap.get?_push_of_some _ (Heap.get?_push_of_some _ e))))
    refine callType_new PySem.F.called_zip (by decide) (PySem.F.typeCall_zip_2 _ _) (PySem.F.newCall_zip_2 _ _) (fun obj => PySem.F.args_object_init_3 obj _ _) PySem.F.entry_zip_new (zip_made l m i1.toArray i2.toArray) ⟨p1, p2.isList, ⟨_, g5, rfl⟩, ?_⟩
    have D : Apart (zD s1.heap l m).objs.size (zB s1.heap l m).objs.size (zC s1.heap l m).objs.size s1.heap.objs.size (zA s1.heap l).objs.size l m := by
      rw [sA, sB, sC, sD]
      refine ⟨by simp, ?_, ?_⟩
      · simp only [List.mem_cons, List.not_mem_nil, or_false, not_or]
        exact ⟨Nat.ne_of_lt (Nat.lt_of_lt_of_le l1 (Nat.le_add_right _ 4)), Nat.ne_of_lt (Nat.lt_of_lt_of_le l1 (Nat.le_add_right _ 3)), Nat.ne_of_lt l1, Nat.ne_of_lt (Nat.lt_of_lt_of_le l1 (Nat.le_add_right _ 1))⟩
      · simp only [List.mem_cons, List.not_mem_nil, or_false, not_or]
        exact ⟨Nat.ne_of_lt (Nat.lt_of_lt_of_le l2 (Nat.le_add_right _ 4)), Nat.ne_of_lt (Nat.lt_of_lt_of_le l2 (Nat.le_add_right _ 3)), Nat.ne_of_lt l2, Nat.ne_of_lt (Nat.lt_of_lt_of_le l2 (Nat.le_add_right _ 1))⟩
    have I2 : Inv X pins σ0 H1 { s1 with heap := zE s1.heap l m } := I1.kept (t' := s1.toks) old
    refine wpAny_pyIter_zip (z := (zD s1.heap l m).objs.size) g5 ⟨(zD s1.heap l m).objs.size, _, _, Itz X.K l m, H1, rfl, I2, turn_zip D, ⟨g5, g3, ⟨_, _, g4⟩, ⟨_, g1, rfl, rfl⟩, ⟨_, g2, rfl, rfl⟩⟩, fun b hb => ?_, hk _ M1 _ H1 q e1 v1 (itz_of ht1 ht2 hr1 hr2 hl)⟩
    have hge : s1.heap.objs.size ≤ b := by
      rw [sA, sB, sC, sD] at hb
      simp only [List.mem_cons, List.not_mem_nil, or_false] at hb
      rcases hb with q | q | q | q | q <;> rw [q] <;> first | exact Nat.le_add_right _ _ | exact Nat.le_refl _
    exact I1.fpOk hge (I1.hok.fresh hge)
end
end R

set_option Elab.async false
set_option linter.all false
set_option maxRecDepth 100000
namespace K02
open PySem PySem.Spec PyProof.Rows L2 R
def top (i : Nat) : Stmt := PySem.Challenge.pw_lentgate_k02_deeds_of_any_form.main.body.getD i (.Pass ⟨0, 0, 0, 0⟩)
abbrev s_is_whole : Stmt := top 13
abbrev N_is_whole : List Str := ["thing"]
theorem sc_is_whole : FnScope N_is_whole ["thing"] (defScope s_is_whole) := ⟨rfl, rfl, rfl, by decide +kernel, rfl, by decide +kernel, by decide +kernel⟩
theorem no_is_whole : NameOk N_is_whole (defScope s_is_whole) := ⟨by decide +kernel, by decide +kernel, by decide +kernel⟩
theorem gl_is_whole_bool : (defScope s_is_whole).names.lookup ("bool" : Str) = some .globalImplicit := by decide +kernel
theorem gl_is_whole_int : (defScope s_is_whole).names.lookup ("int" : Str) = some .globalImplicit := by decide +kernel
theorem gl_is_whole_isinstance : (defScope s_is_whole).names.lookup ("isinstance" : Str) = some .globalImplicit := by decide +kernel
abbrev s_is_kind : Stmt := top 20
abbrev N_is_kind : List Str := ["thing"]
theorem sc_is_kind : FnScope N_is_kind ["thing"] (defScope s_is_kind) := ⟨rfl, rfl, rfl, by decide +kernel, rfl, by decide +kernel, by decide +kernel⟩
theorem no_is_kind : NameOk N_is_kind (defScope s_is_kind) := ⟨by decide +kernel, by decide +kernel, by decide +kernel⟩
theorem gl_is_kind_KINDS : (defScope s_is_kind).names.lookup ("KINDS" : Str) = some .globalImplicit := by decide +kernel
abbrev s_is_word : Stmt := top 21
abbrev N_is_word : List Str := ["kind", "thing"]
theorem sc_is_word : FnScope N_is_word ["kind", "thing"] (defScope s_is_word) := ⟨rfl, rfl, rfl, by decide +kernel, rfl, by decide +kernel, by decide +kernel⟩
theorem no_is_word : NameOk N_is_word (defScope s_is_word) := ⟨by decide +kernel, by decide +kernel, by decide +kernel⟩
theorem gl_is_word_LINE_WORDS : (defScope s_is_word).names.lookup ("LINE_WORDS" : Str) = some .globalImplicit := by decide +kernel
theorem gl_is_word_NOTE_WORDS : (defScope s_is_word).names.lookup ("NOTE_WORDS" : Str) = some .globalImplicit := by decide +kernel
abbrev s_is_sign : Stmt := top 22
abbrev N_is_sign : List Str := ["sign", "at"]
theorem sc_is_sign : FnScope N_is_sign ["sign"] (defScope s_is_sign) := ⟨rfl, rfl, rfl, by decide +kernel, rfl, by decide +kernel, by decide +kernel⟩
theorem no_is_sign : NameOk N_is_sign (defScope s_is_sign) := ⟨by decide +kernel, by decide +kernel, by decide +kernel⟩
theorem gl_is_sign_FIRST_SIGN : (defScope s_is_sign).names.lookup ("FIRST_SIGN" : Str) = some .globalImplicit := by decide +kernel
theorem gl_is_sign_LAST_SIGN : (defScope s_is_sign).names.lookup ("LAST_SIGN" : Str) = some .globalImplicit := by decide +kernel
theorem gl_is_sign_PERCENT_SIGN : (defScope s_is_sign).names.lookup ("PERCENT_SIGN" : Str) = some .globalImplicit := by decide +kernel
theorem gl_is_sign_ord : (defScope s_is_sign).names.lookup ("ord" : Str) = some .globalImplicit := by decide +kernel
abbrev s_name_of : Stmt := top 32
abbrev N_name_of : List Str := ["thing"]
theorem sc_name_of : FnScope N_name_of ["thing"] (defScope s_name_of) := ⟨rfl, rfl, rfl, by decide +kernel, rfl, by decide +kernel, by decide +kernel⟩
theorem no_name_of : NameOk N_name_of (defScope s_name_of) := ⟨by decide +kernel, by decide +kernel, by decide +kernel⟩
theorem gl_name_of_isinstance : (defScope s_name_of).names.lookup ("isinstance" : Str) = some .globalImplicit := by decide +kernel
theorem gl_name_of_len : (defScope s_name_of).names.lookup ("len" : Str) = some .globalImplicit := by decide +kernel
theorem gl_name_of_str : (defScope s_name_of).names.lookup ("str" : Str) = some .globalImplicit := by decide +kernel
theorem gl_name_of_tuple : (defScope s_name_of).names.lookup ("tuple" : Str) = some .globalImplicit := by decide +kernel
abbrev s__law_cell : Stmt := top 35
abbrev N__law_cell : List Str := ["script", "k"]
theorem sc__law_cell : FnScope N__law_cell ["script", "k"] (defScope s__law_cell) := ⟨rfl, rfl, rfl, by decide +kernel, rfl, by decide +kernel, by decide +kernel⟩
theorem no__law_cell : NameOk N__law_cell (defScope s__law_cell) := ⟨by decide +kernel, by decide +kernel, by decide +kernel⟩
theorem gl__law_cell_len : (defScope s__law_cell).names.lookup ("len" : Str) = some .globalImplicit := by decide +kernel
abbrev s__law_well : Stmt := top 36
abbrev N__law_well : List Str := ["cell", "turn"]
theorem sc__law_well : FnScope N__law_well ["cell", "turn"] (defScope s__law_well) := ⟨rfl, rfl, rfl, by decide +kernel, rfl, by decide +kernel, by decide +kernel⟩
theorem no__law_well : NameOk N__law_well (defScope s__law_well) := ⟨by decide +kernel, by decide +kernel, by decide +kernel⟩
abbrev s__law_take : Stmt := top 37
abbrev N__law_take : List Str := ["bag", "many", "p", "n", "found"]
theorem sc__law_take : FnScope N__law_take ["bag", "many"] (defScope s__law_take) := ⟨rfl, rfl, rfl, by decide +kernel, rfl, by decide +kernel, by decide +kernel⟩
theorem no__law_take : NameOk N__law_take (defScope s__law_take) := ⟨by decide +kernel, by decide +kernel, by decide +kernel⟩
abbrev s__law_whole : Stmt := top 38
abbrev N__law_whole : List Str := ["found"]
theorem sc__law_whole : FnScope N__law_whole ["found"] (defScope s__law_whole) := ⟨rfl, rfl, rfl, by decide +kernel, rfl, by decide +kernel, by decide +kernel⟩
theorem no__law_whole : NameOk N__law_whole (defScope s__law_whole) := ⟨by decide +kernel, by decide +kernel, by decide +kernel⟩
theorem gl__law_whole_bool : (defScope s__law_whole).names.lookup ("bool" : Str) = some .globalImplicit := by decide +kernel
theorem gl__law_whole_int : (defScope s__law_whole).names.lookup ("int" : Str) = some .globalImplicit := by decide +kernel
theorem gl__law_whole_isinstance : (defScope s__law_whole).names.lookup ("isinstance" : Str) = some .globalImplicit := by decide +kernel
abbrev s__law_bounds : Stmt := top 43
abbrev N__law_bounds : List Str := ["name", "door", "far"]
theorem sc__law_bounds : FnScope N__law_bounds ["name"] (defScope s__law_bounds) := ⟨rfl, rfl, rfl, by decide +kernel, rfl, by decide +kernel, by decide +kernel⟩
theorem no__law_bounds : NameOk N__law_bounds (defScope s__law_bounds) := ⟨by decide +kernel, by decide +kernel, by decide +kernel⟩
abbrev s_is_whole_within : Stmt := top 14
abbrev N_is_whole_within : List Str := ["thing", "least", "greatest"]
theorem sc_is_whole_within : FnScope N_is_whole_within ["thing", "least", "greatest"] (defScope s_is_whole_within) := ⟨rfl, rfl, rfl, by decide +kernel, rfl, by decide +kernel, by decide +kernel⟩
theorem no_is_whole_within : NameOk N_is_whole_within (defScope s_is_whole_within) := ⟨by decide +kernel, by decide +kernel, by decide +kernel⟩
theorem gl_is_whole_within_is_whole : (defScope s_is_whole_within).names.lookup ("is_whole" : Str) = some .globalImplicit := by decide +kernel
abbrev s_is_text : Stmt := top 23
abbrev N_is_text : List Str := ["thing"]
theorem sc_is_text : FnScope N_is_text ["thing"] (defScope s_is_text) := ⟨rfl, rfl, rfl, by decide +kernel, rfl, by decide +kernel, by decide +kernel⟩
theorem no_is_text : NameOk N_is_text (defScope s_is_text) := ⟨by decide +kernel, by decide +kernel, by decide +kernel⟩
theorem gl_is_text_MOST_SIGNS : (defScope s_is_text).names.lookup ("MOST_SIGNS" : Str) = some .globalImplicit := by decide +kernel
theorem gl_is_text_all : (defScope s_is_text).names.lookup ("all" : Str) = some .globalImplicit := by decide +kernel
theorem gl_is_text_isinstance : (defScope s_is_text).names.lookup ("isinstance" : Str) = some .globalImplicit := by decide +kernel
theorem gl_is_text_len : (defScope s_is_text).names.lookup ("len" : Str) = some .globalImplicit := by decide +kernel
theorem gl_is_text_str : (defScope s_is_text).names.lookup ("str" : Str) = some .globalImplicit := by decide +kernel
abbrev s__law_said : Stmt := top 39
abbrev N__law_said : List Str := ["bag", "signs", "many", "one", "step"]
theorem sc__law_said : FnScope N__law_said ["bag"] (defScope s__law_said) := ⟨rfl, rfl, rfl, by decide +kernel, rfl, by decide +kernel, by decide +kernel⟩
theorem no__law_said : NameOk N__law_said (defScope s__law_said) := ⟨by decide +kernel, by decide +kernel, by decide +kernel⟩
theorem gl__law_said__law_take : (defScope s__law_said).names.lookup ("_law_take" : Str) = some .globalImplicit := by decide +kernel
theorem gl__law_said_range : (defScope s__law_said).names.lookup ("range" : Str) = some .globalImplicit := by decide +kernel
abbrev s__law_in_bounds : Stmt := top 41
abbrev N__law_in_bounds : List Str := ["thing", "low", "high"]
theorem sc__law_in_bounds : FnScope N__law_in_bounds ["thing", "low", "high"] (defScope s__law_in_bounds) := ⟨rfl, rfl, rfl, by decide +kernel, rfl, by decide +kernel, by decide +kernel⟩
theorem no__law_in_bounds : NameOk N__law_in_bounds (defScope s__law_in_bounds) := ⟨by decide +kernel, by decide +kernel, by decide +kernel⟩
theorem gl__law_in_bounds__law_whole : (defScope s__law_in_bounds).names.lookup ("_law_whole" : Str) = some .globalImplicit := by decide +kernel
abbrev s_is_house : Stmt := top 15
abbrev N_is_house : List Str := ["thing"]
theorem sc_is_house : FnScope N_is_house ["thing"] (defScope s_is_house) := ⟨rfl, rfl, rfl, by decide +kernel, rfl, by decide +kernel, by decide +kernel⟩
theorem no_is_house : NameOk N_is_house (defScope s_is_house) := ⟨by decide +kernel, by decide +kernel, by decide +kernel⟩
theorem gl_is_house_GREATEST_HOUSE : (defScope s_is_house).names.lookup ("GREATEST_HOUSE" : Str) = some .globalImplicit := by decide +kernel
theorem gl_is_house_is_whole_within : (defScope s_is_house).names.lookup ("is_whole_within" : Str) = some .globalImplicit := by decide +kernel
abbrev s_is_door : Stmt := top 16
abbrev N_is_door : List Str := ["thing"]
theorem sc_is_door : FnScope N_is_door ["thing"] (defScope s_is_door) := ⟨rfl, rfl, rfl, by decide +kernel, rfl, by decide +kernel, by decide +kernel⟩
theorem no_is_door : NameOk N_is_door (defScope s_is_door) := ⟨by decide +kernel, by decide +kernel, by decide +kernel⟩
theorem gl_is_door_GREATEST_DOOR : (defScope s_is_door).names.lookup ("GREATEST_DOOR" : Str) = some .globalImplicit := by decide +kernel
theorem gl_is_door_is_whole_within : (defScope s_is_door).names.lookup ("is_whole_within" : Str) = some .globalImplicit := by decide +kernel
abbrev s_is_place : Stmt := top 17
abbrev N_is_place : List Str := ["thing"]
theorem sc_is_place : FnScope N_is_place ["thing"] (defScope s_is_place) := ⟨rfl, rfl, rfl, by decide +kernel, rfl, by decide +kernel, by decide +kernel⟩
theorem no_is_place : NameOk N_is_place (defScope s_is_place) := ⟨by decide +kernel, by decide +kernel, by decide +kernel⟩
theorem gl_is_place_GREATEST_PLACE : (defScope s_is_place).names.lookup ("GREATEST_PLACE" : Str) = some .globalImplicit := by decide +kernel
theorem gl_is_place_is_whole_within : (defScope s_is_place).names.lookup ("is_whole_within" : Str) = some .globalImplicit := by decide +kernel
abbrev s_is_outer_place : Stmt := top 18
abbrev N_is_outer_place : List Str := ["thing"]
theorem sc_is_outer_place : FnScope N_is_outer_place ["thing"] (defScope s_is_outer_place) := ⟨rfl, rfl, rfl, by decide +kernel, rfl, by decide +kernel, by decide +kernel⟩
theorem no_is_outer_place : NameOk N_is_outer_place (defScope s_is_outer_place) := ⟨by decide +kernel, by decide +kernel, by decide +kernel⟩
theorem gl_is_outer_place_GREATEST_PLACE : (defScope s_is_outer_place).names.lookup ("GREATEST_PLACE" : Str) = some .globalImplicit := by decide +kernel
theorem gl_is_outer_place_is_whole_within : (defScope s_is_outer_place).names.lookup ("is_whole_within" : Str) = some .globalImplicit := by decide +kernel
abbrev s_is_ticks : Stmt := top 19
abbrev N_is_ticks : List Str := ["thing"]
theorem sc_is_ticks : FnScope N_is_ticks ["thing"] (defScope s_is_ticks) := ⟨rfl, rfl, rfl, by decide +kernel, rfl, by decide +kernel, by decide +kernel⟩
theorem no_is_ticks : NameOk N_is_ticks (defScope s_is_ticks) := ⟨by decide +kernel, by decide +kernel, by decide +kernel⟩
theorem gl_is_ticks_GREATEST_TICKS : (defScope s_is_ticks).names.lookup ("GREATEST_TICKS" : Str) = some .globalImplicit := by decide +kernel
theorem gl_is_ticks_is_whole_within : (defScope s_is_ticks).names.lookup ("is_whole_within" : Str) = some .globalImplicit := by decide +kernel
abbrev s_is_letter : Stmt := top 24
abbrev N_is_letter : List Str := ["kind", "word", "text"]
theorem sc_is_letter : FnScope N_is_letter ["kind", "word", "text"] (defScope s_is_letter) := ⟨rfl, rfl, rfl, by decide +kernel, rfl, by decide +kernel, by decide +kernel⟩
theorem no_is_letter : NameOk N_is_letter (defScope s_is_letter) := ⟨by decide +kernel, by decide +kernel, by decide +kernel⟩
theorem gl_is_letter_is_kind : (defScope s_is_letter).names.lookup ("is_kind" : Str) = some .globalImplicit := by decide +kernel
theorem gl_is_letter_is_text : (defScope s_is_letter).names.lookup ("is_text" : Str) = some .globalImplicit := by decide +kernel
theorem gl_is_letter_is_word : (defScope s_is_letter).names.lookup ("is_word" : Str) = some .globalImplicit := by decide +kernel
abbrev s_is_unrule : Stmt := top 30
abbrev N_is_unrule : List Str := ["parts"]
theorem sc_is_unrule : FnScope N_is_unrule ["parts"] (defScope s_is_unrule) := ⟨rfl, rfl, rfl, by decide +kernel, rfl, by decide +kernel, by decide +kernel⟩
theorem no_is_unrule : NameOk N_is_unrule (defScope s_is_unrule) := ⟨by decide +kernel, by decide +kernel, by decide +kernel⟩
theorem gl_is_unrule_GREATEST_RULE : (defScope s_is_unrule).names.lookup ("GREATEST_RULE" : Str) = some .globalImplicit := by decide +kernel
theorem gl_is_unrule_is_whole_within : (defScope s_is_unrule).names.lookup ("is_whole_within" : Str) = some .globalImplicit := by decide +kernel
theorem gl_is_unrule_len : (defScope s_is_unrule).names.lookup ("len" : Str) = some .globalImplicit := by decide +kernel
abbrev s_is_out : Stmt := top 25
abbrev N_is_out : List Str := ["parts", "kind", "house", "door", "place", "far", "word", "text"]
theorem sc_is_out : FnScope N_is_out ["parts"] (defScope s_is_out) := ⟨rfl, rfl, rfl, by decide +kernel, rfl, by decide +kernel, by decide +kernel⟩
theorem no_is_out : NameOk N_is_out (defScope s_is_out) := ⟨by decide +kernel, by decide +kernel, by decide +kernel⟩
theorem gl_is_out_is_door : (defScope s_is_out).names.lookup ("is_door" : Str) = some .globalImplicit := by decide +kernel
theorem gl_is_out_is_house : (defScope s_is_out).names.lookup ("is_house" : Str) = some .globalImplicit := by decide +kernel
theorem gl_is_out_is_letter : (defScope s_is_out).names.lookup ("is_letter" : Str) = some .globalImplicit := by decide +kernel
theorem gl_is_out_is_place : (defScope s_is_out).names.lookup ("is_place" : Str) = some .globalImplicit := by decide +kernel
theorem gl_is_out_len : (defScope s_is_out).names.lookup ("len" : Str) = some .globalImplicit := by decide +kernel
abbrev s_is_come : Stmt := top 26
abbrev N_is_come : List Str := ["parts", "kind", "place", "far", "number", "word", "text"]
theorem sc_is_come : FnScope N_is_come ["parts"] (defScope s_is_come) := ⟨rfl, rfl, rfl, by decide +kernel, rfl, by decide +kernel, by decide +kernel⟩
theorem no_is_come : NameOk N_is_come (defScope s_is_come) := ⟨by decide +kernel, by decide +kernel, by decide +kernel⟩
theorem gl_is_come_is_door : (defScope s_is_come).names.lookup ("is_door" : Str) = some .globalImplicit := by decide +kernel
theorem gl_is_come_is_letter : (defScope s_is_come).names.lookup ("is_letter" : Str) = some .globalImplicit := by decide +kernel
theorem gl_is_come_is_outer_place : (defScope s_is_come).names.lookup ("is_outer_place" : Str) = some .globalImplicit := by decide +kernel
theorem gl_is_come_len : (defScope s_is_come).names.lookup ("len" : Str) = some .globalImplicit := by decide +kernel
abbrev s_is_lost : Stmt := top 27
abbrev N_is_lost : List Str := ["parts", "teller", "kind", "number", "place", "far"]
theorem sc_is_lost : FnScope N_is_lost ["parts"] (defScope s_is_lost) := ⟨rfl, rfl, rfl, by decide +kernel, rfl, by decide +kernel, by decide +kernel⟩
theorem no_is_lost : NameOk N_is_lost (defScope s_is_lost) := ⟨by decide +kernel, by decide +kernel, by decide +kernel⟩
theorem gl_is_lost_is_door : (defScope s_is_lost).names.lookup ("is_door" : Str) = some .globalImplicit := by decide +kernel
theorem gl_is_lost_is_kind : (defScope s_is_lost).names.lookup ("is_kind" : Str) = some .globalImplicit := by decide +kernel
theorem gl_is_lost_is_outer_place : (defScope s_is_lost).names.lookup ("is_outer_place" : Str) = some .globalImplicit := by decide +kernel
theorem gl_is_lost_len : (defScope s_is_lost).names.lookup ("len" : Str) = some .globalImplicit := by decide +kernel
abbrev s_is_wait : Stmt := top 28
abbrev N_is_wait : List Str := ["parts"]
theorem sc_is_wait : FnScope N_is_wait ["parts"] (defScope s_is_wait) := ⟨rfl, rfl, rfl, by decide +kernel, rfl, by decide +kernel, by decide +kernel⟩
theorem no_is_wait : NameOk N_is_wait (defScope s_is_wait) := ⟨by decide +kernel, by decide +kernel, by decide +kernel⟩
theorem gl_is_wait_is_ticks : (defScope s_is_wait).names.lookup ("is_ticks" : Str) = some .globalImplicit := by decide +kernel
theorem gl_is_wait_len : (defScope s_is_wait).names.lookup ("len" : Str) = some .globalImplicit := by decide +kernel
abbrev s_is_rule : Stmt := top 29
abbrev N_is_rule : List Str := ["parts", "kind", "number", "place", "house", "door"]
theorem sc_is_rule : FnScope N_is_rule ["parts"] (defScope s_is_rule) := ⟨rfl, rfl, rfl, by decide +kernel, rfl, by decide +kernel, by decide +kernel⟩
theorem no_is_rule : NameOk N_is_rule (defScope s_is_rule) := ⟨by decide +kernel, by decide +kernel, by decide +kernel⟩
theorem gl_is_rule_is_door : (defScope s_is_rule).names.lookup ("is_door" : Str) = some .globalImplicit := by decide +kernel
theorem gl_is_rule_is_house : (defScope s_is_rule).names.lookup ("is_house" : Str) = some .globalImplicit := by decide +kernel
theorem gl_is_rule_is_kind : (defScope s_is_rule).names.lookup ("is_kind" : Str) = some .globalImplicit := by decide +kernel
theorem gl_is_rule_is_place : (defScope s_is_rule).names.lookup ("is_place" : Str) = some .globalImplicit := by decide +kernel
theorem gl_is_rule_len : (defScope s_is_rule).names.lookup ("len" : Str) = some .globalImplicit := by decide +kernel
abbrev s_is_deed : Stmt := top 33
abbrev N_is_deed : List Str := ["thing", "name", "has_parts"]
theorem sc_is_deed : FnScope N_is_deed ["thing"] (defScope s_is_deed) := ⟨rfl, rfl, rfl, by decide +kernel, rfl, by decide +kernel, by decide +kernel⟩
theorem no_is_deed : NameOk N_is_deed (defScope s_is_deed) := ⟨by decide +kernel, by decide +kernel, by decide +kernel⟩
theorem gl_is_deed_DEEDS : (defScope s_is_deed).names.lookup ("DEEDS" : Str) = some .globalImplicit := by decide +kernel
theorem gl_is_deed_name_of : (defScope s_is_deed).names.lookup ("name_of" : Str) = some .globalImplicit := by decide +kernel
abbrev s__law_is_said : Stmt := top 42
abbrev N__law_is_said : List Str := ["kind", "word", "text", "words"]
theorem sc__law_is_said : FnScope N__law_is_said ["kind", "word", "text"] (defScope s__law_is_said) := ⟨rfl, rfl, rfl, by decide +kernel, rfl, by decide +kernel, by decide +kernel⟩
theorem no__law_is_said : NameOk N__law_is_said (defScope s__law_is_said) := ⟨by decide +kernel, by decide +kernel, by decide +kernel⟩
theorem gl__law_is_said_isinstance : (defScope s__law_is_said).names.lookup ("isinstance" : Str) = some .globalImplicit := by decide +kernel
theorem gl__law_is_said_len : (defScope s__law_is_said).names.lookup ("len" : Str) = some .globalImplicit := by decide +kernel
theorem gl__law_is_said_str : (defScope s__law_is_said).names.lookup ("str" : Str) = some .globalImplicit := by decide +kernel
abbrev s__law_odd : Stmt := top 40
abbrev N__law_odd : List Str := ["bag", "part", "near", "ends", "some"]
theorem sc__law_odd : FnScope N__law_odd ["bag", "part"] (defScope s__law_odd) := ⟨rfl, rfl, rfl, by decide +kernel, rfl, by decide +kernel, by decide +kernel⟩
theorem no__law_odd : NameOk N__law_odd (defScope s__law_odd) := ⟨by decide +kernel, by decide +kernel, by decide +kernel⟩
theorem gl__law_odd__law_take : (defScope s__law_odd).names.lookup ("_law_take" : Str) = some .globalImplicit := by decide +kernel
theorem gl__law_odd__law_whole : (defScope s__law_odd).names.lookup ("_law_whole" : Str) = some .globalImplicit := by decide +kernel
theorem gl__law_odd_len : (defScope s__law_odd).names.lookup ("len" : Str) = some .globalImplicit := by decide +kernel
abbrev s__law_is_right : Stmt := top 44
abbrev N__law_is_right : List Str := ["thing", "bounds", "part", "bound"]
theorem sc__law_is_right : FnScope N__law_is_right ["thing"] (defScope s__law_is_right) := ⟨rfl, rfl, rfl, by decide +kernel, rfl, by decide +kernel, by decide +kernel⟩
theorem no__law_is_right : NameOk N__law_is_right (defScope s__law_is_right) := ⟨by decide +kernel, by decide +kernel, by decide +kernel⟩
theorem gl__law_is_right__law_bounds : (defScope s__law_is_right).names.lookup ("_law_bounds" : Str) = some .globalImplicit := by decide +kernel
theorem gl__law_is_right__law_in_bounds : (defScope s__law_is_right).names.lookup ("_law_in_bounds" : Str) = some .globalImplicit := by decide +kernel
theorem gl__law_is_right__law_is_said : (defScope s__law_is_right).names.lookup ("_law_is_said" : Str) = some .globalImplicit := by decide +kernel
theorem gl__law_is_right_isinstance : (defScope s__law_is_right).names.lookup ("isinstance" : Str) = some .globalImplicit := by decide +kernel
theorem gl__law_is_right_len : (defScope s__law_is_right).names.lookup ("len" : Str) = some .globalImplicit := by decide +kernel
theorem gl__law_is_right_str : (defScope s__law_is_right).names.lookup ("str" : Str) = some .globalImplicit := by decide +kernel
theorem gl__law_is_right_tuple : (defScope s__law_is_right).names.lookup ("tuple" : Str) = some .globalImplicit := by decide +kernel
theorem gl__law_is_right_zip : (defScope s__law_is_right).names.lookup ("zip" : Str) = some .globalImplicit := by decide +kernel
abbrev s__law_a_deed : Stmt := top 45
abbrev N__law_a_deed : List Str := ["bag", "name", "kind", "parts", "bound", "low", "high"]
theorem sc__law_a_deed : FnScope N__law_a_deed ["bag"] (defScope s__law_a_deed) := ⟨rfl, rfl, rfl, by decide +kernel, rfl, by decide +kernel, by decide +kernel⟩
theorem no__law_a_deed : NameOk N__law_a_deed (defScope s__law_a_deed) := ⟨by decide +kernel, by decide +kernel, by decide +kernel⟩
theorem gl__law_a_deed__law_bounds : (defScope s__law_a_deed).names.lookup ("_law_bounds" : Str) = some .globalImplicit := by decide +kernel
theorem gl__law_a_deed__law_said : (defScope s__law_a_deed).names.lookup ("_law_said" : Str) = some .globalImplicit := by decide +kernel
theorem gl__law_a_deed__law_take : (defScope s__law_a_deed).names.lookup ("_law_take" : Str) = some .globalImplicit := by decide +kernel
theorem gl__law_a_deed_tuple : (defScope s__law_a_deed).names.lookup ("tuple" : Str) = some .globalImplicit := by decide +kernel
abbrev s__law_bent : Stmt := top 46
abbrev N__law_bent : List Str := ["bag", "deed", "at", "way"]
theorem sc__law_bent : FnScope N__law_bent ["bag", "deed"] (defScope s__law_bent) := ⟨rfl, rfl, rfl, by decide +kernel, rfl, by decide +kernel, by decide +kernel⟩
theorem no__law_bent : NameOk N__law_bent (defScope s__law_bent) := ⟨by decide +kernel, by decide +kernel, by decide +kernel⟩
theorem gl__law_bent__law_odd : (defScope s__law_bent).names.lookup ("_law_odd" : Str) = some .globalImplicit := by decide +kernel
theorem gl__law_bent__law_take : (defScope s__law_bent).names.lookup ("_law_take" : Str) = some .globalImplicit := by decide +kernel
theorem gl__law_bent_len : (defScope s__law_bent).names.lookup ("len" : Str) = some .globalImplicit := by decide +kernel
theorem gl__law_bent_list : (defScope s__law_bent).names.lookup ("list" : Str) = some .globalImplicit := by decide +kernel
abbrev s_law : Stmt := top 47
abbrev N_law : List Str := ["script", "cell", "bag", "bends", "thing", "turn", "found"]
theorem sc_law : FnScope N_law ["script"] (defScope s_law) := ⟨rfl, rfl, rfl, by decide +kernel, rfl, by decide +kernel, by decide +kernel⟩
theorem no_law : NameOk N_law (defScope s_law) := ⟨by decide +kernel, by decide +kernel, by decide +kernel⟩
theorem gl_law__law_a_deed : (defScope s_law).names.lookup ("_law_a_deed" : Str) = some .globalImplicit := by decide +kernel
theorem gl_law__law_bent : (defScope s_law).names.lookup ("_law_bent" : Str) = some .globalImplicit := by decide +kernel
theorem gl_law__law_cell : (defScope s_law).names.lookup ("_law_cell" : Str) = some .globalImplicit := by decide +kernel
theorem gl_law__law_is_right : (defScope s_law).names.lookup ("_law_is_right" : Str) = some .globalImplicit := by decide +kernel
theorem gl_law__law_take : (defScope s_law).names.lookup ("_law_take" : Str) = some .globalImplicit := by decide +kernel
theorem gl_law__law_well : (defScope s_law).names.lookup ("_law_well" : Str) = some .globalImplicit := by decide +kernel
theorem gl_law_bool : (defScope s_law).names.lookup ("bool" : Str) = some .globalImplicit := by decide +kernel
theorem gl_law_is_deed : (defScope s_law).names.lookup ("is_deed" : Str) = some .globalImplicit := by decide +kernel
theorem gl_law_isinstance : (defScope s_law).names.lookup ("isinstance" : Str) = some .globalImplicit := by decide +kernel
theorem gl_law_range : (defScope s_law).names.lookup ("range" : Str) = some .globalImplicit := by decide +kernel
theorem gl_law_tuple : (defScope s_law).names.lookup ("tuple" : Str) = some .globalImplicit := by decide +kernel
theorem db_DEEDS : (("DEEDS" : Str) == ("__debug__" : Str)) = false := by decide +kernel
theorem nn_DEEDS : ("DEEDS" : Str) ≠ "__name__" := by decide +kernel
theorem db_FIRST_SIGN : (("FIRST_SIGN" : Str) == ("__debug__" : Str)) = false := by decide +kernel
theorem nn_FIRST_SIGN : ("FIRST_SIGN" : Str) ≠ "__name__" := by decide +kernel
theorem db_GREATEST_DOOR : (("GREATEST_DOOR" : Str) == ("__debug__" : Str)) = false := by decide +kernel
theorem nn_GREATEST_DOOR : ("GREATEST_DOOR" : Str) ≠ "__name__" := by decide +kernel
theorem db_GREATEST_HOUSE : (("GREATEST_HOUSE" : Str) == ("__debug__" : Str)) = false := by decide +kernel
theorem nn_GREATEST_HOUSE : ("GREATEST_HOUSE" : Str) ≠ "__name__" := by decide +kernel
theorem db_GREATEST_PLACE : (("GREATEST_PLACE" : Str) == ("__debug__" : Str)) = false := by decide +kernel
theorem nn_GREATEST_PLACE : ("GREATEST_PLACE" : Str) ≠ "__name__" := by decide +kernel
theorem db_GREATEST_RULE : (("GREATEST_RULE" : Str) == ("__debug__" : Str)) = false := by decide +kernel
theorem nn_GREATEST_RULE : ("GREATEST_RULE" : Str) ≠ "__name__" := by decide +kernel
theorem db_GREATEST_TICKS : (("GREATEST_TICKS" : Str) == ("__debug__" : Str)) = false := by decide +kernel
theorem nn_GREATEST_TICKS : ("GREATEST_TICKS" : Str) ≠ "__name__" := by decide +kernel
theorem db_KINDS : (("KINDS" : Str) == ("__debug__" : Str)) = false := by decide +kernel
theorem nn_KINDS : ("KINDS" : Str) ≠ "__name__" := by decide +kernel
theorem db_LAST_SIGN : (("LAST_SIGN" : Str) == ("__debug__" : Str)) = false := by decide +kernel
theorem nn_LAST_SIGN : ("LAST_SIGN" : Str) ≠ "__name__" := by decide +kernel
theorem db_LINE_WORDS : (("LINE_WORDS" : Str) == ("__debug__" : Str)) = false := by decide +kernel
theorem nn_LINE_WORDS : ("LINE_WORDS" : Str) ≠ "__name__" := by decide +kernel
theorem db_MOST_SIGNS : (("MOST_SIGNS" : Str) == ("__debug__" : Str)) = false := by decide +kernel
theorem nn_MOST_SIGNS : ("MOST_SIGNS" : Str) ≠ "__name__" := by decide +kernel
theorem db_NOTE_WORDS : (("NOTE_WORDS" : Str) == ("__debug__" : Str)) = false := by decide +kernel
theorem nn_NOTE_WORDS : ("NOTE_WORDS" : Str) ≠ "__name__" := by decide +kernel
theorem db_PERCENT_SIGN : (("PERCENT_SIGN" : Str) == ("__debug__" : Str)) = false := by decide +kernel
theorem nn_PERCENT_SIGN : ("PERCENT_SIGN" : Str) ≠ "__name__" := by decide +kernel
theorem db__law_a_deed : (("_law_a_deed" : Str) == ("__debug__" : Str)) = false := by decide +kernel
theorem nn__law_a_deed : ("_law_a_deed" : Str) ≠ "__name__" := by decide +kernel
theorem db__law_bent : (("_law_bent" : Str) == ("__debug__" : Str)) = false := by decide +kernel
theorem nn__law_bent : ("_law_bent" : Str) ≠ "__name__" := by decide +kernel
theorem db__law_bounds : (("_law_bounds" : Str) == ("__debug__" : Str)) = false := by decide +kernel
theorem nn__law_bounds : ("_law_bounds" : Str) ≠ "__name__" := by decide +kernel
theorem db__law_cell : (("_law_cell" : Str) == ("__debug__" : Str)) = false := by decide +kernel
theorem nn__law_cell : ("_law_cell" : Str) ≠ "__name__" := by decide +kernel
theorem db__law_in_bounds : (("_law_in_bounds" : Str) == ("__debug__" : Str)) = false := by decide +kernel
theorem nn__law_in_bounds : ("_law_in_bounds" : Str) ≠ "__name__" := by decide +kernel
theorem db__law_is_right : (("_law_is_right" : Str) == ("__debug__" : Str)) = false := by decide +kernel
theorem nn__law_is_right : ("_law_is_right" : Str) ≠ "__name__" := by decide +kernel
theorem db__law_is_said : (("_law_is_said" : Str) == ("__debug__" : Str)) = false := by decide +kernel
theorem nn__law_is_said : ("_law_is_said" : Str) ≠ "__name__" := by decide +kernel
theorem db__law_odd : (("_law_odd" : Str) == ("__debug__" : Str)) = false := by decide +kernel
theorem nn__law_odd : ("_law_odd" : Str) ≠ "__name__" := by decide +kernel
theorem db__law_said : (("_law_said" : Str) == ("__debug__" : Str)) = false := by decide +kernel
theorem nn__law_said : ("_law_said" : Str) ≠ "__name__" := by decide +kernel
theorem db__law_take : (("_law_take" : Str) == ("__debug__" : Str)) = false := by decide +kernel
theorem nn__law_take : ("_law_take" : Str) ≠ "__name__" := by decide +kernel
theorem db__law_well : (("_law_well" : Str) == ("__debug__" : Str)) = false := by decide +kernel
theorem nn__law_well : ("_law_well" : Str) ≠ "__name__" := by decide +kernel
theorem db__law_whole : (("_law_whole" : Str) == ("__debug__" : Str)) = false := by decide +kernel
theorem nn__law_whole : ("_law_whole" : Str) ≠ "__name__" := by decide +kernel
theorem db_all : (("all" : Str) == ("__debug__" : Str)) = false := by decide +kernel
theorem nn_all : ("all" : Str) ≠ "__name__" := by decide +kernel
theorem db_is_deed : (("is_deed" : Str) == ("__debug__" : Str)) = false := by decide +kernel
theorem nn_is_deed : ("is_deed" : Str) ≠ "__name__" := by decide +kernel
theorem db_is_door : (("is_door" : Str) == ("__debug__" : Str)) = false := by decide +kernel
theorem nn_is_door : ("is_door" : Str) ≠ "__name__" := by decide +kernel
theorem db_is_house : (("is_house" : Str) == ("__debug__" : Str)) = false := by decide +kernel
theorem nn_is_house : ("is_house" : Str) ≠ "__name__" := by decide +kernel
theorem db_is_kind : (("is_kind" : Str) == ("__debug__" : Str)) = false := by decide +kernel
theorem nn_is_kind : ("is_kind" : Str) ≠ "__name__" := by decide +kernel
theorem db_is_letter : (("is_letter" : Str) == ("__debug__" : Str)) = false := by decide +kernel
theorem nn_is_letter : ("is_letter" : Str) ≠ "__name__" := by decide +kernel
theorem db_is_outer_place : (("is_outer_place" : Str) == ("__debug__" : Str)) = false := by decide +kernel
theorem nn_is_outer_place : ("is_outer_place" : Str) ≠ "__name__" := by decide +kernel
theorem db_is_place : (("is_place" : Str) == ("__debug__" : Str)) = false := by decide +kernel
theorem nn_is_place : ("is_place" : Str) ≠ "__name__" := by decide +kernel
theorem db_is_sign : (("is_sign" : Str) == ("__debug__" : Str)) = false := by decide +kernel
theorem nn_is_sign : ("is_sign" : Str) ≠ "__name__" := by decide +kernel
theorem db_is_text : (("is_text" : Str) == ("__debug__" : Str)) = false := by decide +kernel
theorem nn_is_text : ("is_text" : Str) ≠ "__name__" := by decide +kernel
theorem db_is_ticks : (("is_ticks" : Str) == ("__debug__" : Str)) = false := by decide +kernel
theorem nn_is_ticks : ("is_ticks" : Str) ≠ "__name__" := by decide +kernel
theorem db_is_whole : (("is_whole" : Str) == ("__debug__" : Str)) = false := by decide +kernel
theorem nn_is_whole : ("is_whole" : Str) ≠ "__name__" := by decide +kernel
theorem db_is_whole_within : (("is_whole_within" : Str) == ("__debug__" : Str)) = false := by decide +kernel
theorem nn_is_whole_within : ("is_whole_within" : Str) ≠ "__name__" := by decide +kernel
theorem db_is_word : (("is_word" : Str) == ("__debug__" : Str)) = false := by decide +kernel
theorem nn_is_word : ("is_word" : Str) ≠ "__name__" := by decide +kernel
theorem db_isinstance : (("isinstance" : Str) == ("__debug__" : Str)) = false := by decide +kernel
theorem nn_isinstance : ("isinstance" : Str) ≠ "__name__" := by decide +kernel
theorem db_len : (("len" : Str) == ("__debug__" : Str)) = false := by decide +kernel
theorem nn_len : ("len" : Str) ≠ "__name__" := by decide +kernel
theorem db_list : (("list" : Str) == ("__debug__" : Str)) = false := by decide +kernel
theorem nn_list : ("list" : Str) ≠ "__name__" := by decide +kernel
theorem db_name_of : (("name_of" : Str) == ("__debug__" : Str)) = false := by decide +kernel
theorem nn_name_of : ("name_of" : Str) ≠ "__name__" := by decide +kernel
theorem db_ord : (("ord" : Str) == ("__debug__" : Str)) = false := by decide +kernel
theorem nn_ord : ("ord" : Str) ≠ "__name__" := by decide +kernel
theorem db_tuple : (("tuple" : Str) == ("__debug__" : Str)) = false := by decide +kernel
theorem nn_tuple : ("tuple" : Str) ≠ "__name__" := by decide +kernel

def kvsD (f0 f1 f2 f3 f4 f5 : Addr) : List (Key × RV) := [((Sum.inr "out" : Key), RV.ref f0), ((Sum.inr "come" : Key), RV.ref f1), ((Sum.inr "lost" : Key), RV.ref f2), ((Sum.inr "wait" : Key), RV.ref f3), ((Sum.inr "rule" : Key), RV.ref f4), ((Sum.inr "unrule" : Key), RV.ref f5)]
def DeedsT (P : Program) (w : World) (K : PySem.W.Frag) (mg : Str → Option Value) : Prop := ∃ f0 f1 f2 f3 f4 f5 : Addr, mg "is_out" = some (.ref f0) ∧ mg "is_come" = some (.ref f1) ∧ mg "is_lost" = some (.ref f2) ∧ mg "is_wait" = some (.ref f3) ∧ mg "is_rule" = some (.ref f4) ∧ mg "is_unrule" = some (.ref f5) ∧ KTab P w K mg "DEEDS" (kvsD f0 f1 f2 f3 f4 f5)

structure Txt (P : Program) (w : World) (K : PySem.W.Frag) (mg : Str → Option Value) : Prop where
  b_all : mg "all" = none
  b_bool : mg "bool" = none
  b_int : mg "int" = none
  b_isinstance : mg "isinstance" = none
  b_len : mg "len" = none
  b_list : mg "list" = none
  b_ord : mg "ord" = none
  b_range : mg "range" = none
  b_str : mg "str" = none
  b_tuple : mg "tuple" = none
  b_zip : mg "zip" = none
  c_GREATEST_HOUSE : IntC mg "GREATEST_HOUSE" 99
  c_GREATEST_DOOR : IntC mg "GREATEST_DOOR" 9999
  c_GREATEST_PLACE : IntC mg "GREATEST_PLACE" 1000000
  c_GREATEST_TICKS : IntC mg "GREATEST_TICKS" 1000000
  c_GREATEST_RULE : IntC mg "GREATEST_RULE" 1000000
  c_MOST_SIGNS : IntC mg "MOST_SIGNS" 40
  c_FIRST_SIGN : IntC mg "FIRST_SIGN" 32
  c_LAST_SIGN : IntC mg "LAST_SIGN" 126
  c_PERCENT_SIGN : IntC mg "PERCENT_SIGN" 37
  c_KINDS : TupC K mg "KINDS" ["note", "line"]
  c_NOTE_WORDS : TupC K mg "NOTE_WORDS" ["say"]
  c_LINE_WORDS : TupC K mg "LINE_WORDS" ["open", "say", "close", "break"]
  c_DEEDS : DeedsT P w K mg
section
variable {P : Program} {w : World} {K : PySem.W.Frag} {mg : Str → Option Value} {base : Heap}
local macro_rules | `(tactic| walk_at "rs1") => `(tactic| first | ((with_reducible refine' do_norm ?_ ?_); rotate_left; simp only [List.set_cons_succ, List.set_cons_zero]; exact rfl) | ((with_reducible refine' do_normU ?_ ?_); rotate_left; simp only [setAll, List.set_cons_succ, List.set_cons_zero]; exact rfl) | ((with_reducible refine' do_var ?_ ?_); rotate_left; exact rfl) | with_reducible refine do_c ?_ | with_reducible refine do_tab ?_ | with_reducible refine do_op ?_ | with_reducible refine do_seq ?_ | with_reducible refine do_set ?_ | with_reducible refine do_cons ?_ | with_reducible refine do_nil ?_ | with_reducible refine do_call ?_ | with_reducible refine do_ifs ?_ | with_reducible refine do_test ?_ | with_reducible refine do_ktest ?_ | with_reducible refine do_kT ?_ | with_reducible refine do_kF ?_ | with_reducible refine do_knT ?_ | with_reducible refine do_knF ?_ | with_reducible refine do_and ?_ | with_reducible refine do_or ?_ | with_reducible refine do_not ?_ | with_reducible refine do_if ?_ | with_reducible refine do_un ?_ | with_reducible refine do_chain ?_ | with_reducible refine do_kchT ?_ | with_reducible refine do_kchF ?_ | with_reducible refine do_tup ?_ | with_reducible refine do_lsf ?_ | with_reducible refine do_lst ?_ | ((with_reducible refine' do_size ?_ ?_); exact rfl) | with_reducible refine do_next ?_ | with_reducible refine do_ret ?_ | with_reducible refine do_retN ?_ | with_reducible refine do_drop ?_ | with_reducible refine do_asg ?_ | with_reducible refine do_gN ?_ | ((with_reducible refine' do_gU ?_ ?_); exact rfl) | with_reducible refine do_gSub ?_ | with_reducible refine do_forI ?_ | with_reducible refine do_itS ?_ | with_reducible refine do_kits_t ?_ | with_reducible refine do_kits_l ?_ | with_reducible refine do_itR ?_ | with_reducible refine do_forNil ?_ | with_reducible refine do_forCons ?_ | with_reducible refine do_comp ?_ | with_reducible refine do_compNil ?_ | with_reducible refine do_compYes ?_ | with_reducible refine do_compT ?_ | with_reducible refine do_sl ?_ | with_reducible refine do_noP ?_ | with_reducible refine do_part ?_ | with_reducible refine do_kpart ?_ | with_reducible refine do_slT ?_ | with_reducible refine do_slL ?_ | with_reducible refine do_int0 ?_ | with_reducible refine do_addI ?_ | ((with_reducible refine' do_addT ?_ ?_); exact rfl) | ((with_reducible refine' do_addL ?_ ?_); exact rfl) | ((with_reducible refine' do_eq ?_ ?_ ?_); exact rfl; exact rfl) | ((with_reducible refine' do_ne ?_ ?_ ?_); exact rfl; exact rfl) | with_reducible refine do_is ?_ | with_reducible refine do_isnot ?_ | with_reducible refine do_ixT ?_ | with_reducible refine do_ixL ?_ | with_reducible refine do_len_t ?_ | with_reducible refine do_len_l ?_ | with_reducible refine do_tuple_l ?_ | with_reducible refine do_tuple_t ?_ | ((with_reducible refine' do_isi ?_ ?_); rotate_left; exact rfl) | with_reducible refine do_break ?_ | with_reducible refine do_cont ?_ | with_reducible refine do_andv ?_ | with_reducible refine do_orv ?_ | with_reducible refine do_notv ?_ | with_reducible refine do_knotv ?_ | with_reducible refine do_kandT ?_ | with_reducible refine do_kandF ?_ | with_reducible refine do_korT ?_ | with_reducible refine do_korF ?_ | with_reducible refine do_ord ?_ | with_reducible refine do_itX ?_ | with_reducible refine do_kitx ?_ | with_reducible refine do_list_t ?_ | with_reducible refine do_ltS ?_ | with_reducible refine do_gtS ?_ | with_reducible refine do_callV ?_ | with_reducible refine do_tabin ?_ | with_reducible refine do_tabnotN ?_ | with_reducible refine do_ktabnot ?_ | with_reducible refine do_neg ?_ | with_reducible refine do_join ?_ | with_reducible refine do_kjoin ?_ | with_reducible refine do_append ?_)
local macro_rules | `(tactic| walk_at "rs") => `(tactic| (repeat walk_at "rs1"))
local macro_rules | `(tactic| walk_at "rd1") => `(tactic| first | ((with_reducible refine' do_norm ?_ ?_); rotate_left; simp only [List.set_cons_succ, List.set_cons_zero]; exact rfl) | ((with_reducible refine' do_normU ?_ ?_); rotate_left; simp only [setAll, List.set_cons_succ, List.set_cons_zero]; exact rfl) | ((with_reducible refine' do_var ?_ ?_); rotate_left; exact rfl) | with_reducible refine do_c ?_ | with_reducible refine do_tab ?_ | with_reducible refine do_op ?_ | with_reducible refine do_seq ?_ | with_reducible refine do_set ?_ | with_reducible refine do_cons ?_ | with_reducible refine do_nil ?_ | with_reducible refine do_call ?_ | with_reducible refine do_ifs ?_ | with_reducible refine do_test ?_ | with_reducible refine do_ktest ?_ | with_reducible refine do_kT ?_ | with_reducible refine do_kF ?_ | with_reducible refine do_knT ?_ | with_reducible refine do_knF ?_ | ((with_reducible refine' do_kT' ?_ ?_); exact rfl) | ((with_reducible refine' do_kF' ?_ ?_); exact rfl) | with_reducible refine do_and ?_ | with_reducible refine do_or ?_ | with_reducible refine do_not ?_ | with_reducible refine do_if ?_ | with_reducible refine do_un ?_ | with_reducible refine do_chain ?_ | with_reducible refine do_kchT ?_ | with_reducible refine do_kchF ?_ | with_reducible refine do_tup ?_ | with_reducible refine do_lsf ?_ | with_reducible refine do_lst ?_ | ((with_reducible refine' do_size ?_ ?_); exact rfl) | with_reducible refine do_next ?_ | with_reducible refine do_ret ?_ | with_reducible refine do_retN ?_ | with_reducible refine do_drop ?_ | with_reducible refine do_asg ?_ | with_reducible refine do_gN ?_ | ((with_reducible refine' do_gU ?_ ?_); exact rfl) | with_reducible refine do_gSub ?_ | with_reducible refine do_forI ?_ | with_reducible refine do_itS ?_ | with_reducible refine do_kits_t ?_ | with_reducible refine do_kits_l ?_ | with_reducible refine do_itR ?_ | with_reducible refine do_forNil ?_ | with_reducible refine do_forCons ?_ | with_reducible refine do_comp ?_ | with_reducible refine do_compNil ?_ | with_reducible refine do_compYes ?_ | with_reducible refine do_compT ?_ | with_reducible refine do_sl ?_ | with_reducible refine do_noP ?_ | with_reducible refine do_part ?_ | with_reducible refine do_kpart ?_ | with_reducible refine do_slT ?_ | with_reducible refine do_slL ?_ | with_reducible refine do_int0 ?_ | with_reducible refine do_addI ?_ | ((with_reducible refine' do_addT ?_ ?_); exact rfl) | ((with_reducible refine' do_addL ?_ ?_); exact rfl) | ((with_reducible refine' do_eq ?_ ?_ ?_); exact rfl; exact rfl) | ((with_reducible refine' do_ne ?_ ?_ ?_); exact rfl; exact rfl) | with_reducible refine do_is ?_ | with_reducible refine do_isnot ?_ | with_reducible refine do_ixT ?_ | with_reducible refine do_ixL ?_ | with_reducible refine do_len_t ?_ | with_reducible refine do_len_l ?_ | with_reducible refine do_tuple_l ?_ | with_reducible refine do_tuple_t ?_ | ((with_reducible refine' do_isi ?_ ?_); rotate_left; exact rfl) | with_reducible refine do_break ?_ | with_reducible refine do_cont ?_ | with_reducible refine do_andv ?_ | with_reducible refine do_orv ?_ | with_reducible refine do_notv ?_ | with_reducible refine do_knotv ?_ | with_reducible refine do_kandT ?_ | with_reducible refine do_kandF ?_ | with_reducible refine do_korT ?_ | with_reducible refine do_korF ?_ | with_reducible refine do_ord ?_ | with_reducible refine do_itX ?_ | with_reducible refine do_kitx ?_ | with_reducible refine do_list_t ?_ | with_reducible refine do_ltS ?_ | with_reducible refine do_gtS ?_ | with_reducible refine do_callV ?_ | with_reducible refine do_tabin ?_ | with_reducible refine do_tabnotN ?_ | with_reducible refine do_ktabnot ?_ | with_reducible refine do_neg ?_ | with_reducible refine do_join ?_ | with_reducible refine do_kjoin ?_ | with_reducible refine do_append ?_)
local macro_rules | `(tactic| walk_at "rd") => `(tactic| (repeat walk_at "rd1"))
/-- the bag: a list of three ints, drawn on at most n times -/
def BagO (o : RO) (n : Int) : Prop := ∃ x y t : Int, o = .lst [.int x, .int y, .int t] ∧ 0 ≤ x ∧ 0 ≤ y ∧ y < 2305843009213693951 ∧ 0 ≤ t ∧ t ≤ n
def Bag (M : RM) (b : Addr) (n : Int) : Prop := ∃ o, M b = some o ∧ BagO o n
theorem Bag.put {M : RM} {b : Addr} {o : RO} {n : Int} (h : BagO o n) : Bag (put M b o) b n := ⟨o, put_same, h⟩
theorem BagO.mono {o : RO} {m n : Int} (h : BagO o m) (l : m ≤ n) : BagO o n := by
  obtain ⟨x, y, t, e, h1, h2, h3, h4, h5⟩ := h
  exact ⟨x, y, t, e, h1, h2, h3, h4, Int.le_trans h5 l⟩
theorem small64 {i : Int} (h0 : 0 ≤ i) (h1 : i < 18446744073709551616) : i.natAbs < 2 ^ 64 := by
  have : (2 : Nat) ^ 64 = 18446744073709551616 := by decide
  omega
theorem cmul_left {i j : Int} (h0 : -18446744073709551616 < i) (h1 : i < 18446744073709551616) : CMul i j := .inl ⟨h0, h1⟩
theorem szl {n : Nat} (h : n ≤ 1000 := by first | decide | (simp only [List.length_cons, List.length_nil, List.length_append]; decide)) : n ≤ sizeLine := Nat.le_trans h (by decide)
theorem at0 {a : RV} {r : List RV} : atI (a :: r) 0 = some a := atI_nat (j := 0) rfl
theorem at1 {a b : RV} {r : List RV} : atI (a :: b :: r) 1 = some b := atI_nat (j := 1) rfl
theorem at2 {a b c : RV} {r : List RV} : atI (a :: b :: c :: r) 2 = some c := atI_nat (j := 2) rfl
theorem ix0 {n : Nat} : ixN (n + 1) 0 = some 0 := by unfold ixN; rw [if_pos (by omega), if_pos (by omega)]; rfl
theorem ix2 {n : Nat} : ixN (n + 3) 2 = some 2 := by unfold ixN; rw [if_pos (by omega), if_pos (by omega)]; rfl
/-- an item of a written list at a drawn place -/
theorem at_some {xs : List RV} {i : Int} (h0 : 0 ≤ i) (h1 : i < xs.length) : ∃ v, atI xs i = some v ∧ v ∈ xs := by
  obtain ⟨j, rfl⟩ := Int.eq_ofNat_of_zero_le h0
  have hj : j < xs.length := by omega
  exact ⟨xs[j], atI_nat (by simp [hj]), List.getElem_mem hj⟩
theorem at_eq {xs : List RV} {i : Int} {v : RV} {P : RV → Prop} (e : atI xs i = some v) (h : P v) : (match atI xs i with | some v => P v | none => False) := by rw [e]; exact h
theorem lk_here {α : Type} {k : Key} {v : α} {r : List (Key × α)} : lookK ((k, v) :: r) k = some v := by unfold lookK; rw [List.find?_cons, decide_eq_true rfl]; rfl
theorem lk_next {α : Type} {j k : Key} {v : α} {r : List (Key × α)} (h : ¬ j = k) : lookK ((j, v) :: r) k = lookK r k := by unfold lookK; rw [List.find?_cons, decide_eq_false h]
theorem lk_eq {kvs : List (Key × RV)} {k : Key} {v : RV} {P : RV → Prop} (e : lookK kvs k = some v) (h : P v) : (match lookK kvs k with | some v => P v | none => False) := by rw [e]; exact h
theorem ne_inr {a b : Str} (h : ¬ a = b) : ¬ (Sum.inr a : Key) = Sum.inr b := fun e => h (Sum.inr.inj e)
theorem rif_any {t : RTT} {ta tb : RTE} {σ : RSt} {M : RM} {Q : RVK} (p : RV → Prop) (h : ∀ v, p v → Q v M) (ht : ∀ Q' : Bool → RM → Prop, (∀ c, Q' c M) → t σ M Q') (ha : ∀ Q' : RVK, (∀ v, p v → Q' v M) → ta σ M Q') (hb : ∀ Q' : RVK, (∀ v, p v → Q' v M) → tb σ M Q') : rIf t ta tb σ M Q :=
  ht _ fun c => ⟨fun _ => ha Q h, fun _ => hb Q h⟩
theorem forL_inv {g : RTG} {tb : RTS} {D : RD} (J : RSt → RM → Prop) (p : RV → Prop) : ∀ (xs : List RV), (∀ x ∈ xs, p x) → (∀ x σ M (N : RSt → RM → Prop), p x → J σ M → (∀ σ' M', J σ' M' → N σ' M') → g x σ M fun σ2 M2 => tb { D with nx := N, ct := N, bk := D.nx } σ2 M2) →
    (∀ σ M, J σ M → D.nx σ M) → ∀ σ M, J σ M → rForL g tb D xs σ M
  | [], _, _, hd, σ, M, j => hd σ M j
  | x :: r, hp, hs, hd, σ, M, j => hs x σ M _ (hp x List.mem_cons_self) j fun σ' M' j' => forL_inv J p r (fun y hy => hp y (List.mem_cons_of_mem _ hy)) hs hd σ' M' j'
/-- what a reading wants of an item at a drawn place -/
theorem at_do {xs : List RV} {i : Int} {P : RV → Prop} (h0 : 0 ≤ i) (h1 : i < xs.length) (h : ∀ v ∈ xs, P v) : (match atI xs i with | some v => P v | none => False) := by
  obtain ⟨v, e, m⟩ := at_some h0 h1
  rw [e]
  exact h v m
def wholeR : RV → Option Bool
  | .int _ => some true
  | .bl _ => some false
  | .non => some false
  | .str _ => some false
  | .tup _ => some false
  | .ls _ => some false
  | _ => none
def AllI (lo hi : Int) : List RV → Prop
  | [] => True
  | .int k :: r => (lo ≤ k ∧ k ≤ hi) ∧ AllI lo hi r
  | _ :: _ => False
def AllS (p : Str → Prop) : List RV → Prop
  | [] => True
  | .str k :: r => p k ∧ AllS p r
  | _ :: _ => False
theorem allI_mem {lo hi : Int} : ∀ {xs : List RV}, AllI lo hi xs → ∀ v ∈ xs, ∃ k : Int, v = .int k ∧ lo ≤ k ∧ k ≤ hi
  | x :: r, h, v, m => by
    cases x with
    | int k =>
      rcases List.mem_cons.mp m with rfl | m
      · exact ⟨k, rfl, h.1.1, h.1.2⟩
      · exact allI_mem h.2 v m
    | _ => exact (show False from h).elim
theorem allS_mem {p : Str → Prop} : ∀ {xs : List RV}, AllS p xs → ∀ v ∈ xs, ∃ k : Str, v = .str k ∧ p k
  | x :: r, h, v, m => by
    cases x with
    | str k =>
      rcases List.mem_cons.mp m with rfl | m
      · exact ⟨k, rfl, h.1⟩
      · exact allS_mem h.2 v m
    | _ => exact (show False from h).elim
theorem at_ints (lo hi : Int) {xs : List RV} {i : Int} {P : RV → Prop} (h0 : 0 ≤ i) (h : ∀ k : Int, lo ≤ k → k ≤ hi → P (.int k)) (h1 : i < xs.length := by (simp only [List.length_cons, List.length_nil]; omega)) (ha : AllI lo hi xs := by (simp only [AllI, and_true]; omega)) : (match atI xs i with | some v => P v | none => False) :=
  at_do h0 h1 fun v hv => by obtain ⟨k, rfl, a, b⟩ := allI_mem ha v hv; exact h k a b
theorem at_strs (p : Str → Prop) {xs : List RV} {i : Int} {P : RV → Prop} (h0 : 0 ≤ i) (ha : AllS p xs) (h : ∀ k : Str, p k → P (.str k)) (h1 : i < xs.length := by (simp only [List.length_cons, List.length_nil]; omega)) : (match atI xs i with | some v => P v | none => False) :=
  at_do h0 h1 fun v hv => by obtain ⟨k, rfl, a⟩ := allS_mem ha v hv; exact h k a
theorem nums3 : R.nums (Int.toNat 3) = [.int 0, .int 1, .int 2] := rfl
theorem nums5 : R.nums (Int.toNat 5) = [.int 0, .int 1, .int 2, .int 3, .int 4] := rfl

theorem ok_mono : ∀ {n : Nat} {x : RV}, okR n x = true → okR (n + 1) x = true
  | 0, x, h => by cases x <;> first | rfl | (simp [okR] at h)
  | n + 1, x, h => by
    cases x with
    | tup xs =>
      have h' : xs.all (okR n) = true := h
      show xs.all (okR (n + 1)) = true
      rw [List.all_eq_true] at h' ⊢
      exact fun y hy => ok_mono (h' y hy)
    | ls xs =>
      have h' : xs.all (okR n) = true := h
      show xs.all (okR (n + 1)) = true
      rw [List.all_eq_true] at h' ⊢
      exact fun y hy => ok_mono (h' y hy)
    | ref a => simp [okR] at h
    | ty a => simp [okR] at h
    | _ => rfl
def okP (x : RV) : Prop := okR 14 x = true ∧ ∀ s, x = .str s → s.length ≤ 1000
theorem okP.ok15 {x : RV} (h : okP x) : okR 15 x = true := ok_mono h.1
theorem okP.ok16 {x : RV} (h : okP x) : okR 16 x = true := ok_mono (ok_mono h.1)
theorem okP_ref {a : Addr} (h : okP (.ref a)) : False := by have := h.1; simp [okR] at this
theorem okP_ty {a : String} (h : okP (.ty a)) : False := by have := h.1; simp [okR] at this
def isWh : RV → Bool
  | .int _ => true
  | _ => false
def inB : RV → Int → Int → Bool
  | .int i, lo, hi => decide (lo ≤ i) && decide (i ≤ hi)
  | _, _, _ => false
abbrev txs (l : List Str) : List RV := l.map RV.str
def kindF (x : RV) : Bool := inR x (txs ["note", "line"])
def wordF (k x : RV) : Bool := if eqR k (.str "note") = true then inR x (txs ["say"]) else inR x (txs ["open", "say", "close", "break"])
def signF (c : Nat) : Bool := decide ((32 : Int) ≤ (c : Int)) && (decide ((c : Int) ≤ 126) && !eqR (.int (c : Int)) (.int 37))
def textF : RV → Bool
  | .str s => decide ((s.length : Int) ≤ 40) && (s.cps.toList.map signF).all id
  | _ => false
def letterF (k w t : RV) : Bool := kindF k && (wordF k w && textF t)
def outF : List RV → Bool
  | [k, h, d, p, f, w, t] => inB h 0 99 && (inB d 1 9999 && (inB p 0 1000000 && (inB f 1 9999 && letterF k w t)))
  | _ => false
def comeF : List RV → Bool
  | [k, p, f, n, w, t] => inB p 1 1000000 && (inB f 1 9999 && (inB n 1 9999 && letterF k w t))
  | _ => false
def lostF : List RV → Bool
  | [t, k, n, p, f] => inB t 1 1000000 && (kindF k && (inB n 1 9999 && (inB p 1 1000000 && inB f 1 9999)))
  | _ => false
def tickF : List RV → Bool
  | [t] => inB t 0 1000000
  | _ => false
def ruleF : List RV → Bool
  | [k, n, p, h, d] => (isN p || inB p 0 1000000) && (kindF k && (inB n 1 9999 && (inB h 0 99 && inB d 1 9999)))
  | _ => false
theorem andF {a b : Bool} {Q : RVK} {M : RM} (h : Q (.bl (a && b)) M) (e : a = false) : Q (.bl false) M := by subst e; exact h
theorem andT {a b : Bool} {Q : RVK} {M : RM} (h : Q (.bl (a && b)) M) (e : a = true) : Q (.bl b) M := by subst e; exact h
def AllP : List RV → Prop
  | [] => True
  | x :: r => okP x ∧ AllP r
theorem neLen {n : Nat} {k : Nat} (e : (!eqR (.int (n : Int)) (.int (k : Int))) = false) : n = k := by
  simp [eqR] at e; omega
theorem neLen' {n : Nat} {k : Nat} (e : (!eqR (.int (n : Int)) (.int (k : Int))) = true) : n ≠ k := by
  simp [eqR] at e; omega
theorem eqLen {n : Nat} {k : Nat} (e : eqR (.int (n : Int)) (.int (k : Int)) = true) : n = k := by
  simp [eqR] at e; omega
theorem eqLen' {n : Nat} {k : Nat} (e : eqR (.int (n : Int)) (.int (k : Int)) = false) : n ≠ k := by
  simp [eqR] at e; omega
theorem len1 {ps : List RV} (h : ps.length = 1) : ∃ a0, ps = [a0] := by
  match ps, h with
  | [a0], _ => exact ⟨a0, rfl⟩
theorem len5 {ps : List RV} (h : ps.length = 5) : ∃ a0 a1 a2 a3 a4, ps = [a0, a1, a2, a3, a4] := by
  match ps, h with
  | [a0, a1, a2, a3, a4], _ => exact ⟨a0, a1, a2, a3, a4, rfl⟩
theorem len6 {ps : List RV} (h : ps.length = 6) : ∃ a0 a1 a2 a3 a4 a5, ps = [a0, a1, a2, a3, a4, a5] := by
  match ps, h with
  | [a0, a1, a2, a3, a4, a5], _ => exact ⟨a0, a1, a2, a3, a4, a5, rfl⟩
theorem len7 {ps : List RV} (h : ps.length = 7) : ∃ a0 a1 a2 a3 a4 a5 a6, ps = [a0, a1, a2, a3, a4, a5, a6] := by
  match ps, h with
  | [a0, a1, a2, a3, a4, a5, a6], _ => exact ⟨a0, a1, a2, a3, a4, a5, a6, rfl⟩
theorem outF_no {ps : List RV} (h : ps.length ≠ 7) : outF ps = false := by
  unfold outF
  split
  · exact absurd rfl h
  · rfl
theorem comeF_no {ps : List RV} (h : ps.length ≠ 6) : comeF ps = false := by
  unfold comeF
  split
  · exact absurd rfl h
  · rfl
theorem lostF_no {ps : List RV} (h : ps.length ≠ 5) : lostF ps = false := by
  unfold lostF
  split
  · exact absurd rfl h
  · rfl
theorem ruleF_no {ps : List RV} (h : ps.length ≠ 5) : ruleF ps = false := by
  unfold ruleF
  split
  · exact absurd rfl h
  · rfl
theorem tickF_no {ps : List RV} (h : ps.length ≠ 1) : tickF ps = false := by
  unfold tickF
  split
  · exact absurd rfl h
  · rfl
theorem ne_out_come : ¬ (("out" : Str) = "come") := by decide +kernel
theorem ne_out_lost : ¬ (("out" : Str) = "lost") := by decide +kernel
theorem ne_out_wait : ¬ (("out" : Str) = "wait") := by decide +kernel
theorem ne_out_rule : ¬ (("out" : Str) = "rule") := by decide +kernel
theorem ne_out_unrule : ¬ (("out" : Str) = "unrule") := by decide +kernel
theorem ne_come_lost : ¬ (("come" : Str) = "lost") := by decide +kernel
theorem ne_come_wait : ¬ (("come" : Str) = "wait") := by decide +kernel
theorem ne_come_rule : ¬ (("come" : Str) = "rule") := by decide +kernel
theorem ne_come_unrule : ¬ (("come" : Str) = "unrule") := by decide +kernel
theorem ne_lost_wait : ¬ (("lost" : Str) = "wait") := by decide +kernel
theorem ne_lost_rule : ¬ (("lost" : Str) = "rule") := by decide +kernel
theorem ne_lost_unrule : ¬ (("lost" : Str) = "unrule") := by decide +kernel
theorem ne_wait_rule : ¬ (("wait" : Str) = "rule") := by decide +kernel
theorem ne_wait_unrule : ¬ (("wait" : Str) = "unrule") := by decide +kernel
theorem ne_rule_unrule : ¬ (("rule" : Str) = "unrule") := by decide +kernel

def okD (n : Nat) (x : RV) : Prop := okR n x = true ∧ ∀ s, x = .str s → s.length ≤ 1000
theorem okD.up {n : Nat} {x : RV} (h : okD n x) : okD (n + 1) x := ⟨ok_mono h.1, h.2⟩
theorem okR_le {m n : Nat} {x : RV} (l : m ≤ n) (h : okR m x = true) : okR n x = true := by
  induction l with
  | refl => exact h
  | step _ ih => exact ok_mono ih
theorem okD.toP {n : Nat} {x : RV} (h : okD n x) (l : n ≤ 14) : okP x := ⟨okR_le l h.1, h.2⟩
theorem okD_int {n : Nat} {i : Int} : okD n (.int i) := ⟨by cases n <;> rfl, fun s e => (by cases e)⟩
theorem okD_non {n : Nat} : okD n .non := ⟨by cases n <;> rfl, fun s e => (by cases e)⟩
theorem okD_bl {n : Nat} {b : Bool} : okD n (.bl b) := ⟨by cases n <;> rfl, fun s e => (by cases e)⟩
theorem okD_str {n : Nat} {z : Str} (h : z.length ≤ 1000) : okD n (.str z) := ⟨by cases n <;> rfl, fun s e => (by cases e; exact h)⟩
theorem okD_tup0 {n : Nat} : okD (n + 1) (.tup []) := ⟨rfl, fun s e => (by cases e)⟩
theorem okD_ls0 {n : Nat} : okD (n + 1) (.ls []) := ⟨rfl, fun s e => (by cases e)⟩
theorem okD_tup1 {n : Nat} {x : RV} (h : okD n x) : okD (n + 1) (.tup [x]) := ⟨by simp [okR, h.1], fun s e => (by cases e)⟩
theorem okD_ls1 {n : Nat} {x : RV} (h : okD n x) : okD (n + 1) (.ls [x]) := ⟨by simp [okR, h.1], fun s e => (by cases e)⟩
def AllD (n : Nat) : List RV → Prop
  | [] => True
  | x :: r => okD n x ∧ AllD n r
theorem AllD.mem {n : Nat} : ∀ {xs : List RV}, AllD n xs → ∀ v ∈ xs, okD n v
  | x :: r, h, v, m => by
    rcases List.mem_cons.mp m with rfl | m
    · exact h.1
    · exact AllD.mem h.2 v m
theorem AllD.of {n : Nat} : ∀ {xs : List RV}, (∀ v ∈ xs, okD n v) → AllD n xs
  | [], _ => trivial
  | x :: r, h => ⟨h x List.mem_cons_self, AllD.of fun v m => h v (List.mem_cons_of_mem _ m)⟩
theorem AllD.up {n : Nat} {xs : List RV} (h : AllD n xs) : AllD (n + 1) xs := AllD.of fun v m => (h.mem v m).up
theorem AllD.app {n : Nat} {xs ys : List RV} (h : AllD n xs) (h' : AllD n ys) : AllD n (xs ++ ys) := AllD.of fun v m => (List.mem_append.mp m).elim (h.mem v) (h'.mem v)
theorem cut_sub {xs : List RV} {lo hi : Option Int} {v : RV} (h : v ∈ cutR xs lo hi) : v ∈ xs := by
  unfold cutR at h
  exact List.mem_of_mem_drop (List.mem_of_mem_take h)
theorem AllD.cut {n : Nat} {xs : List RV} {lo hi : Option Int} (h : AllD n xs) : AllD n (cutR xs lo hi) := AllD.of fun v m => h.mem v (cut_sub m)
theorem cut_le (xs : List RV) (lo hi : Option Int) : (cutR xs lo hi).length ≤ xs.length := by
  unfold cutR
  rw [List.length_take, List.length_drop]
  omega
theorem AllD.toP {n : Nat} (l : n ≤ 14) : ∀ {xs : List RV}, AllD n xs → AllP xs
  | [], _ => trivial
  | x :: r, h => ⟨h.1.toP l, AllD.toP l h.2⟩
theorem wh_of {x : RV} (h : okP x) : wholeR x = some (isWh x) := by
  cases x <;> first | rfl | exact (okP_ref h).elim | exact (okP_ty h).elim
theorem strs1 : ∀ {ys : List RV}, (∀ y ∈ ys, ∃ c : Nat, y = .str ⟨#[c]⟩) → ∃ zs : List Str, ys = zs.map RV.str ∧ ∀ z ∈ zs, z.length = 1
  | [], _ => ⟨[], rfl, by simp⟩
  | y :: ys, h => by
    obtain ⟨c, rfl⟩ := h y List.mem_cons_self
    obtain ⟨zs, rfl, hz⟩ := strs1 (ys := ys) fun z m => h z (List.mem_cons_of_mem _ m)
    exact ⟨⟨#[c]⟩ :: zs, rfl, by
      intro z m
      rcases List.mem_cons.mp m with rfl | m
      · rfl
      · exact hz z m⟩
theorem sum_ones : ∀ {zs : List Str}, (∀ z ∈ zs, z.length = 1) → (zs.map (·.length)).sum = zs.length
  | [], _ => rfl
  | z :: zs, h => by
    rw [List.map_cons, List.sum_cons, h z List.mem_cons_self, sum_ones fun y m => h y (List.mem_cons_of_mem _ m), List.length_cons]
    omega
theorem Bag.other {M : RM} {b p : Addr} {n : Int} {x : RO} (h : Bag M b n) (hp : p ≠ b) : Bag (R.put M p x) b n := by
  obtain ⟨o, e, k⟩ := h
  exact ⟨o, by rw [put_ne (fun z => hp z.symm)]; exact e, k⟩
theorem put_at {M : RM} {b p : Addr} {x y : RO} (h : M p = some y) (hp : p ≠ b) : put M b x p = some y := by rw [put_ne hp]; exact h
def bndF (n : Str) : List RV := if n = "out" then [.int (-1), .tup [.int 0, .int 99], .tup [.int 1, .int 9999], .tup [.int 0, .int 1000000], .tup [.int 1, .int 9999], .int (-2), .int (-3)] else if n = "come" then [.int (-1), .tup [.int 1, .int 1000000], .tup [.int 1, .int 9999], .tup [.int 1, .int 9999], .int (-2), .int (-3)] else if n = "lost" then [.tup [.int 1, .int 1000000], .int (-1), .tup [.int 1, .int 9999], .tup [.int 1, .int 1000000], .tup [.int 1, .int 9999]] else if n = "rule" then [.int (-1), .tup [.int 1, .int 9999], .int (-4), .tup [.int 0, .int 99], .tup [.int 1, .int 9999]] else [.tup [.int 0, .int 1000000]]
theorem eqS {a b : Str} (e : eqR (.str a) (.str b) = true) : a = b := by simpa [eqR] using e
theorem eqS' {a b : Str} (e : eqR (.str a) (.str b) = false) : ¬ a = b := by simpa [eqR] using e
theorem repS_len {z : Str} {k : Nat} (h : z.length = 1) : (repS z k).length = k := by
  show Array.size (List.foldl _ _ _) = k
  rw [size_rep]
  have : z.cps.size = 1 := h
  rw [this]
  simp
theorem rep41 : (repS (Str.ofString "a") (Int.toNat 41)).length ≤ 1000 := by rw [repS_len (by decide)]; decide
theorem rep40 : (repS (Str.ofString "a") (Int.toNat 40)).length ≤ 1000 := by rw [repS_len (by decide)]; decide
theorem at_D {n : Nat} {xs : List RV} {i : Int} {P : RV → Prop} (h0 : 0 ≤ i) (h1 : i < xs.length) (ha : AllD n xs) (h : ∀ v, okD n v → P v) : (match atI xs i with | some v => P v | none => False) := at_do h0 h1 fun v hv => h v (ha.mem v hv)

@[irreducible] def sp_is_whole : RSp := fun rs M Q => ∃ x, rs = [x] ∧ okP x ∧ Q (.bl (isWh x)) M
set_option maxHeartbeats 4000000 in
theorem fn_is_whole {f : Addr} {fd : FuncData} (F : Fun K "is_whole" "is_whole" s_is_whole f fd) (T : Txt P w K mg)  : FnOk P w K mg base CX0 1 f fd ["thing"] (upSp K sp_is_whole) := by
  refine' rfnok F sc_is_whole (fun rs M Q h => ?len) (fun cdv A outer s H E hr => ?term) (fun rs M Q h => ?body)
  case term =>
    refine' sone ?h1770
    case h1770 =>
     refine' sret ?h1769
     case h1769 =>
      refine' randv ?h1767 ?h1768
      case h1767 =>
       refine' rcallB cisi_int T.b_isinstance bt_isinstance ?h1766 (hg := gl_is_whole_isinstance) (hdb := db_isinstance) (hn := nn_isinstance)
       case h1766 =>
        refine' acons ?h1764 ?h1765
        case h1764 =>
         exact rvN 0 no_is_whole
        case h1765 =>
         refine' acons ?h1762 ?h1763
         case h1762 =>
          exact rty_int T.b_int gl_is_whole_int
         case h1763 =>
          exact anil
      case h1768 =>
       refine' rone ?h1761
       case h1761 =>
        refine' rnotv ?h1760
        case h1760 =>
         refine' rcallB cisi_bool T.b_isinstance bt_isinstance ?h1759 (hg := gl_is_whole_isinstance) (hdb := db_isinstance) (hn := nn_isinstance)
         case h1759 =>
          refine' acons ?h1757 ?h1758
          case h1757 =>
           exact rvN 0 no_is_whole
          case h1758 =>
           refine' acons ?h1755 ?h1756
           case h1755 =>
            exact rty_bool T.b_bool gl_is_whole_bool
           case h1756 =>
            exact anil
  case len =>
    unfold sp_is_whole at h; obtain ⟨x, rfl, _⟩ := h; rfl
  case body =>
    unfold sp_is_whole at h
    obtain ⟨x, rfl, hx, h⟩ := h
    cases x <;> first | exact (okP_ref hx).elim | exact (okP_ty hx).elim | (walk_at "rs"; exact h)
theorem is_whole_do {M : RM} {x : RV} {Q : RVK} (hx : okP x) (h : Q (.bl (isWh x)) M) : sp_is_whole [x] M Q := by unfold sp_is_whole; exact ⟨x, rfl, hx, h⟩
@[irreducible] def sp_is_kind : RSp := fun rs M Q => ∃ x, rs = [x] ∧ okP x ∧ Q (.bl (kindF x)) M
set_option maxHeartbeats 4000000 in
theorem fn_is_kind {f : Addr} {fd : FuncData} (F : Fun K "is_kind" "is_kind" s_is_kind f fd) (T : Txt P w K mg)  : FnOk P w K mg base CX0 1 f fd ["thing"] (upSp K sp_is_kind) := by
  refine' rfnok F sc_is_kind (fun rs M Q h => ?len) (fun cdv A outer s H E hr => ?term) (fun rs M Q h => ?body)
  case term =>
    refine' sone ?h1774
    case h1774 =>
     refine' sret ?h1773
     case h1773 =>
      refine' rcmp (oin hr.units) ?h1771 ?h1772
      case h1771 =>
       exact rvN 0 no_is_kind
      case h1772 =>
       exact rgt T.c_KINDS (hg := gl_is_kind_KINDS) (hd := db_KINDS)
  case len =>
    unfold sp_is_kind at h; obtain ⟨x, rfl, _⟩ := h; rfl
  case body =>
    unfold sp_is_kind at h
    obtain ⟨x, rfl, hx, h⟩ := h
    walk_at "rs"
    exact do_inT hx.ok15 rfl h
theorem is_kind_do {M : RM} {x : RV} {Q : RVK} (hx : okP x) (h : Q (.bl (kindF x)) M) : sp_is_kind [x] M Q := by unfold sp_is_kind; exact ⟨x, rfl, hx, h⟩
@[irreducible] def sp_is_word : RSp := fun rs M Q => ∃ k x, rs = [k, x] ∧ okP k ∧ okP x ∧ Q (.bl (wordF k x)) M
set_option maxHeartbeats 4000000 in
theorem fn_is_word {f : Addr} {fd : FuncData} (F : Fun K "is_word" "is_word" s_is_word f fd) (T : Txt P w K mg)  : FnOk P w K mg base CX0 1 f fd ["kind", "thing"] (upSp K sp_is_word) := by
  refine' rfnok F sc_is_word (fun rs M Q h => ?len) (fun cdv A outer s H E hr => ?term) (fun rs M Q h => ?body)
  case term =>
    refine' scons ?h1788 ?h1789
    case h1788 =>
     refine' sif ?h1785 ?h1786 ?h1787
     case h1785 =>
      refine' rtcmp (oeq hr.units) ?h1779 ?h1780
      case h1779 =>
       exact rvN 0 no_is_word
      case h1780 =>
       exact rs
     case h1786 =>
      refine' sone ?h1784
      case h1784 =>
       refine' sret ?h1783
       case h1783 =>
        refine' rcmp (oin hr.units) ?h1781 ?h1782
        case h1781 =>
         exact rvN 1 no_is_word
        case h1782 =>
         exact rgt T.c_NOTE_WORDS (hg := gl_is_word_NOTE_WORDS) (hd := db_NOTE_WORDS)
     case h1787 =>
      exact snil
    case h1789 =>
     refine' sone ?h1778
     case h1778 =>
      refine' sret ?h1777
      case h1777 =>
       refine' rcmp (oin hr.units) ?h1775 ?h1776
       case h1775 =>
        exact rvN 1 no_is_word
       case h1776 =>
        exact rgt T.c_LINE_WORDS (hg := gl_is_word_LINE_WORDS) (hd := db_LINE_WORDS)
  case len =>
    unfold sp_is_word at h; obtain ⟨k, x, rfl, _⟩ := h; rfl
  case body =>
    unfold sp_is_word at h
    obtain ⟨k, x, rfl, hk, hx, h⟩ := h
    walk_at "rs"
    refine do_eq hk.ok16 rfl ?_
    walk_at "rs"
    refine do_kB (fun e => ?_) fun e => ?_
    · walk_at "rs"
      rw [show wordF k x = inR x (txs ["say"]) from if_pos e] at h
      exact do_inT hx.ok15 rfl h
    · walk_at "rs"
      rw [show wordF k x = inR x (txs ["open", "say", "close", "break"]) from if_neg (by rw [e]; exact Bool.false_ne_true)] at h
      exact do_inT hx.ok15 rfl h
theorem is_word_do {M : RM} {k x : RV} {Q : RVK} (hk : okP k) (hx : okP x) (h : Q (.bl (wordF k x)) M) : sp_is_word [k, x] M Q := by unfold sp_is_word; exact ⟨k, x, rfl, hk, hx, h⟩
@[irreducible] def sp_is_sign : RSp := fun rs M Q => ∃ c : Nat, rs = [.str ⟨#[c]⟩] ∧ Q (.bl (signF c)) M
set_option maxHeartbeats 4000000 in
theorem fn_is_sign {f : Addr} {fd : FuncData} (F : Fun K "is_sign" "is_sign" s_is_sign f fd) (T : Txt P w K mg)  : FnOk P w K mg base CX0 1 f fd ["sign"] (upSp K sp_is_sign) := by
  refine' rfnok F sc_is_sign (fun rs M Q h => ?len) (fun cdv A outer s H E hr => ?term) (fun rs M Q h => ?body)
  case term =>
    refine' scons ?h1804 ?h1805
    case h1804 =>
     refine' ssetN 1 no_is_sign ?h1803
     case h1803 =>
      refine' rcallB cord T.b_ord bt_ord ?h1802 (hg := gl_is_sign_ord) (hdb := db_ord) (hn := nn_ord)
      case h1802 =>
       refine' acons ?h1800 ?h1801
       case h1800 =>
        exact rvN 0 no_is_sign
       case h1801 =>
        exact anil
    case h1805 =>
     refine' sone ?h1799
     case h1799 =>
      refine' sret ?h1798
      case h1798 =>
       refine' randv ?h1796 ?h1797
       case h1796 =>
        refine' rchain ole ole ?h1793 ?h1794 ?h1795
        case h1793 =>
         exact rgi T.c_FIRST_SIGN (hg := gl_is_sign_FIRST_SIGN) (hd := db_FIRST_SIGN)
        case h1794 =>
         exact rvN 1 no_is_sign
        case h1795 =>
         exact rgi T.c_LAST_SIGN (hg := gl_is_sign_LAST_SIGN) (hd := db_LAST_SIGN)
       case h1797 =>
        refine' rone ?h1792
        case h1792 =>
         refine' rcmp (one hr.units) ?h1790 ?h1791
         case h1790 =>
          exact rvN 1 no_is_sign
         case h1791 =>
          exact rgi T.c_PERCENT_SIGN (hg := gl_is_sign_PERCENT_SIGN) (hd := db_PERCENT_SIGN)
  case len =>
    unfold sp_is_sign at h; obtain ⟨c, rfl, _⟩ := h; rfl
  case body =>
    unfold sp_is_sign at h
    obtain ⟨c, rfl, h⟩ := h
    walk_at "rs"
    refine do_kch (fun e => ?_) fun e => ?_
    · walk_at "rs"
      have h2 := andT h e
      refine do_kand (fun e2 => ?_) fun e2 => andF h2 e2
      walk_at "rs"
      exact andT h2 e2
    · exact do_kandF (andF h e)
theorem is_sign_do {M : RM} {c : Nat} {Q : RVK} (h : Q (.bl (signF c)) M) : sp_is_sign [.str ⟨#[c]⟩] M Q := by unfold sp_is_sign; exact ⟨c, rfl, h⟩

def byName (n : Str) (ps : List RV) : Bool := if n = "out" then outF ps else if n = "come" then comeF ps else if n = "lost" then lostF ps else if n = "wait" then tickF ps else if n = "rule" then ruleF ps else if n = "unrule" then tickF ps else false
def deedF : RV → Bool
  | .tup (.str n :: ps) => byName n ps
  | _ => false
def nameR : RV → RV
  | .tup (.str n :: _) => .str n
  | _ => .non
def okT (x : RV) : Prop := okR 14 x = true ∧ ∀ xs, x = .tup xs → AllP xs
theorem lkD_out {f0 f1 f2 f3 f4 f5 : Addr} : lookK (kvsD f0 f1 f2 f3 f4 f5) (Sum.inr "out") = some (.ref f0) := lk_here
theorem by_out {ps : List RV} : byName "out" ps = outF ps := if_pos rfl
theorem lkD_come {f0 f1 f2 f3 f4 f5 : Addr} : lookK (kvsD f0 f1 f2 f3 f4 f5) (Sum.inr "come") = some (.ref f1) := (lk_next (ne_inr ne_out_come)).trans (lk_here)
theorem by_come {ps : List RV} : byName "come" ps = comeF ps := (if_neg fun e => ne_out_come e.symm).trans (if_pos rfl)
theorem lkD_lost {f0 f1 f2 f3 f4 f5 : Addr} : lookK (kvsD f0 f1 f2 f3 f4 f5) (Sum.inr "lost") = some (.ref f2) := (lk_next (ne_inr ne_out_lost)).trans ((lk_next (ne_inr ne_come_lost)).trans (lk_here))
theorem by_lost {ps : List RV} : byName "lost" ps = lostF ps := (if_neg fun e => ne_out_lost e.symm).trans ((if_neg fun e => ne_come_lost e.symm).trans (if_pos rfl))
theorem lkD_wait {f0 f1 f2 f3 f4 f5 : Addr} : lookK (kvsD f0 f1 f2 f3 f4 f5) (Sum.inr "wait") = some (.ref f3) := (lk_next (ne_inr ne_out_wait)).trans ((lk_next (ne_inr ne_come_wait)).trans ((lk_next (ne_inr ne_lost_wait)).trans (lk_here)))
theorem by_wait {ps : List RV} : byName "wait" ps = tickF ps := (if_neg fun e => ne_out_wait e.symm).trans ((if_neg fun e => ne_come_wait e.symm).trans ((if_neg fun e => ne_lost_wait e.symm).trans (if_pos rfl)))
theorem lkD_rule {f0 f1 f2 f3 f4 f5 : Addr} : lookK (kvsD f0 f1 f2 f3 f4 f5) (Sum.inr "rule") = some (.ref f4) := (lk_next (ne_inr ne_out_rule)).trans ((lk_next (ne_inr ne_come_rule)).trans ((lk_next (ne_inr ne_lost_rule)).trans ((lk_next (ne_inr ne_wait_rule)).trans (lk_here))))
theorem by_rule {ps : List RV} : byName "rule" ps = ruleF ps := (if_neg fun e => ne_out_rule e.symm).trans ((if_neg fun e => ne_come_rule e.symm).trans ((if_neg fun e => ne_lost_rule e.symm).trans ((if_neg fun e => ne_wait_rule e.symm).trans (if_pos rfl))))
theorem lkD_unrule {f0 f1 f2 f3 f4 f5 : Addr} : lookK (kvsD f0 f1 f2 f3 f4 f5) (Sum.inr "unrule") = some (.ref f5) := (lk_next (ne_inr ne_out_unrule)).trans ((lk_next (ne_inr ne_come_unrule)).trans ((lk_next (ne_inr ne_lost_unrule)).trans ((lk_next (ne_inr ne_wait_unrule)).trans ((lk_next (ne_inr ne_rule_unrule)).trans (lk_here)))))
theorem by_unrule {ps : List RV} : byName "unrule" ps = tickF ps := (if_neg fun e => ne_out_unrule e.symm).trans ((if_neg fun e => ne_come_unrule e.symm).trans ((if_neg fun e => ne_lost_unrule e.symm).trans ((if_neg fun e => ne_wait_unrule e.symm).trans ((if_neg fun e => ne_rule_unrule e.symm).trans (if_pos rfl)))))
theorem lkD_no {f0 f1 f2 f3 f4 f5 : Addr} {n : Str} (n_out : ¬ n = "out") (n_come : ¬ n = "come") (n_lost : ¬ n = "lost") (n_wait : ¬ n = "wait") (n_rule : ¬ n = "rule") (n_unrule : ¬ n = "unrule") : lookK (kvsD f0 f1 f2 f3 f4 f5) (Sum.inr n) = none := (lk_next (ne_inr fun e => n_out e.symm)).trans ((lk_next (ne_inr fun e => n_come e.symm)).trans ((lk_next (ne_inr fun e => n_lost e.symm)).trans ((lk_next (ne_inr fun e => n_wait e.symm)).trans ((lk_next (ne_inr fun e => n_rule e.symm)).trans ((lk_next (ne_inr fun e => n_unrule e.symm)).trans (rfl))))))
theorem by_no {n : Str} {ps : List RV} (n_out : ¬ n = "out") (n_come : ¬ n = "come") (n_lost : ¬ n = "lost") (n_wait : ¬ n = "wait") (n_rule : ¬ n = "rule") (n_unrule : ¬ n = "unrule") : byName n ps = false := (if_neg n_out).trans ((if_neg n_come).trans ((if_neg n_lost).trans ((if_neg n_wait).trans ((if_neg n_rule).trans ((if_neg n_unrule).trans (rfl))))))
theorem cut1 {y : RV} {ps : List RV} : cutR (y :: ps) (some 1) none = ps := by
  unfold cutR
  have e1 : HT.sIx (y :: ps).length 0 (some 1) = 1 := by simp [HT.sIx]
  have e2 : HT.sIx (y :: ps).length (y :: ps).length none = (y :: ps).length := rfl
  rw [e1, e2]
  simp

@[irreducible] def sp_name_of : RSp := fun rs M Q => ∃ x, rs = [x] ∧ okT x ∧ Q (nameR x) M
set_option maxHeartbeats 4000000 in
theorem fn_name_of {f : Addr} {fd : FuncData} (F : Fun K "name_of" "name_of" s_name_of f fd) (T : Txt P w K mg)  : FnOk P w K mg base CX0 1 f fd ["thing"] (upSp K sp_name_of) := by
  refine' rfnok F sc_name_of (fun rs M Q h => ?len) (fun cdv A outer s H E hr => ?term) (fun rs M Q h => ?body)
  case term =>
    refine' scons ?h1842 ?h1843
    case h1842 =>
     refine' sif ?h1839 ?h1840 ?h1841
     case h1839 =>
      refine' rtw ?h1836
      case h1836 =>
       refine' ror ?h1834 ?h1835
       case h1834 =>
        refine' rtnot ?h1833
        case h1833 =>
         refine' rtval ?h1832
         case h1832 =>
          refine' rcallB cisi_tuple T.b_isinstance bt_isinstance ?h1831 (hg := gl_name_of_isinstance) (hdb := db_isinstance) (hn := nn_isinstance)
          case h1831 =>
           refine' acons ?h1829 ?h1830
           case h1829 =>
            exact rvN 0 no_name_of
           case h1830 =>
            refine' acons ?h1827 ?h1828
            case h1827 =>
             exact rty_tuple T.b_tuple gl_name_of_tuple
            case h1828 =>
             exact anil
       case h1835 =>
        refine' ror ?h1825 ?h1826
        case h1825 =>
         refine' rtcmp (oeq hr.units) ?h1823 ?h1824
         case h1823 =>
          refine' rcallB clen T.b_len bt_len ?h1822 (hg := gl_name_of_len) (hdb := db_len) (hn := nn_len)
          case h1822 =>
           refine' acons ?h1820 ?h1821
           case h1820 =>
            exact rvN 0 no_name_of
           case h1821 =>
            exact anil
         case h1824 =>
          exact ri
        case h1826 =>
         refine' ror1 ?h1819
         case h1819 =>
          refine' rtnot ?h1818
          case h1818 =>
           refine' rtval ?h1817
           case h1817 =>
            refine' rcallB cisi_str T.b_isinstance bt_isinstance ?h1816 (hg := gl_name_of_isinstance) (hdb := db_isinstance) (hn := nn_isinstance)
            case h1816 =>
             refine' acons ?h1814 ?h1815
             case h1814 =>
              refine' rix ?h1812 ?h1813
              case h1812 =>
               exact rvN 0 no_name_of
              case h1813 =>
               exact ri
             case h1815 =>
              refine' acons ?h1810 ?h1811
              case h1810 =>
               exact rty_str T.b_str gl_name_of_str
              case h1811 =>
               exact anil
     case h1840 =>
      refine' sone ?h1838
      case h1838 =>
       refine' sret ?h1837
       case h1837 =>
        exact rn
     case h1841 =>
      exact snil
    case h1843 =>
     refine' sone ?h1809
     case h1809 =>
      refine' sret ?h1808
      case h1808 =>
       refine' rix ?h1806 ?h1807
       case h1806 =>
        exact rvN 0 no_name_of
       case h1807 =>
        exact ri
  case len =>
    unfold sp_name_of at h; obtain ⟨x, rfl, _⟩ := h; rfl
  case body =>
    unfold sp_name_of at h
    obtain ⟨x, rfl, hx, h⟩ := h
    cases x with
    | ref a => exact (by have := hx.1; simp [okR] at this)
    | ty a => exact (by have := hx.1; simp [okR] at this)
    | tup xs =>
      have hxs := hx.2 xs rfl
      walk_at "rs"
      refine do_kB (fun e => ?_) fun e => ?_
      · have e0 : xs.length = 0 := eqLen (k := 0) e
        have e1 : xs = [] := List.eq_nil_of_length_eq_zero e0
        subst e1
        walk_at "rs"
        exact h
      · have e0 : xs.length ≠ 0 := eqLen' (k := 0) e
        obtain ⟨y, ps, rfl⟩ := List.exists_cons_of_ne_nil (l := xs) (fun z => e0 (by rw [z]; rfl))
        walk_at "rs"
        refine do_kat at0 ?_
        cases y with
        | ref a => exact (okP_ref hxs.1).elim
        | ty a => exact (okP_ty hxs.1).elim
        | str n =>
          walk_at "rs"
          refine do_kat at0 ?_
          walk_at "rs"
          exact h
        | _ => (walk_at "rs"; exact h)
    | _ => (walk_at "rs"; exact h)
theorem name_of_do {M : RM} {x : RV} {Q : RVK} (hx : okT x) (h : Q (nameR x) M) : sp_name_of [x] M Q := by unfold sp_name_of; exact ⟨x, rfl, hx, h⟩
@[irreducible] def sp__law_cell : RSp := fun rs M Q => ∃ (ns : List Int) (k : Int), rs = [.ls (ns.map RV.int), .int k] ∧ 0 ≤ k ∧ ∀ i : Int, Q (.int i) M
set_option maxHeartbeats 4000000 in
theorem fn__law_cell {f : Addr} {fd : FuncData} (F : Fun K "_law_cell" "_law_cell" s__law_cell f fd) (T : Txt P w K mg)  : FnOk P w K mg base CX0 1 f fd ["script", "k"] (upSp K sp__law_cell) := by
  refine' rfnok F sc__law_cell (fun rs M Q h => ?len) (fun cdv A outer s H E hr => ?term) (fun rs M Q h => ?body)
  case term =>
    refine' scons ?h1858 ?h1859
    case h1858 =>
     refine' sif ?h1855 ?h1856 ?h1857
     case h1855 =>
      refine' rtcmp olt ?h1849 ?h1850
      case h1849 =>
       exact rvN 1 no__law_cell
      case h1850 =>
       refine' rcallB clen T.b_len bt_len ?h1848 (hg := gl__law_cell_len) (hdb := db_len) (hn := nn_len)
       case h1848 =>
        refine' acons ?h1846 ?h1847
        case h1846 =>
         exact rvN 0 no__law_cell
        case h1847 =>
         exact anil
     case h1856 =>
      refine' sone ?h1854
      case h1854 =>
       refine' sret ?h1853
       case h1853 =>
        refine' rix ?h1851 ?h1852
        case h1851 =>
         exact rvN 0 no__law_cell
        case h1852 =>
         exact rvN 1 no__law_cell
     case h1857 =>
      exact snil
    case h1859 =>
     refine' sone ?h1845
     case h1845 =>
      refine' sret ?h1844
      case h1844 =>
       exact ri
  case len =>
    unfold sp__law_cell at h; obtain ⟨ns, k, rfl, _⟩ := h; rfl
  case body =>
    unfold sp__law_cell at h
    obtain ⟨ns, k, rfl, h0, h⟩ := h
    simp only [R.rSeq, R.rIfS, R.rSet, R.rRet, R.rRetN, R.rTest, R.rOp, R.rVar, R.rC, R.rCons, R.rNil, R.rCall, R.rTup, R.rLsF, R.rLst, R.rIx, R.rAsg, R.rgSub, R.rgN, R.rgU, R.setAll, R.rInt0, R.rInt2, R.rAdd, R.rNext, R.rDrop, R.rIf, R.rAnd, R.rOr, R.rNot, R.rAndV, R.rOrV, R.rNotV, R.rChain, R.rUn, R.rgNeg, R.rSl, R.rPart, R.rNoP, R.rSlc, R.rForI, R.rItS, R.rItR, R.rRngI, R.rComp, R.rYes, R.rTuple, R.rLen, R.rIsi, R.rEqq, R.rNeq, R.rIs, R.rIsNot, R.rTab, R.rDispGet, R.rSetL, R.rMul, R.isN, R.keyR, R.rstart, R.is_int, R.is_bool, R.is_str, R.is_tuple, R.is_list, R.rGt, R.rMod, R.rDiv, R.rPow, R.rShr, R.rBand, R.rLt, R.rLe, R.rGe, R.rSub, List.map_cons, List.map_nil, List.set_cons_zero, List.set_cons_succ, List.length_cons, List.length_nil, List.replicate_succ, List.replicate_zero, List.cons_append, List.nil_append, List.getElem?_cons_zero, List.getElem?_cons_succ, Nat.reduceSub, Nat.reduceAdd, true_implies, Bool.false_eq_true, Bool.true_eq_false, reduceCtorEq, false_implies, and_true, true_and, Option.join_some, Nat.zero_add, decide_eq_true_eq, decide_eq_false_iff_not, List.append_nil]
    refine ⟨fun hk => ?_, fun _ => h 0⟩
    refine at_do h0 (by simpa using hk) fun v hv => ?_
    obtain ⟨i, _, rfl⟩ := List.mem_map.mp hv
    exact h i
theorem cell_do {M : RM} {ns : List Int} {k : Int} {Q : RVK} (h0 : 0 ≤ k) (h : ∀ i : Int, Q (.int i) M) : sp__law_cell [.ls (ns.map RV.int), .int k] M Q := by
  unfold sp__law_cell; exact ⟨ns, k, rfl, h0, h⟩
@[irreducible] def sp__law_well : RSp := fun rs M Q => ∃ (c : Int), rs = [.int c, .int 0] ∧ ∀ (p : Addr) (o : RO), M p = none → BagO o 0 → Q (.ref p) (put M p o)
set_option maxHeartbeats 4000000 in
theorem fn__law_well {f : Addr} {fd : FuncData} (F : Fun K "_law_well" "_law_well" s__law_well f fd) (T : Txt P w K mg)  : FnOk P w K mg base CX0 1 f fd ["cell", "turn"] (upSp K sp__law_well) := by
  refine' rfnok F sc__law_well (fun rs M Q h => ?len) (fun cdv A outer s H E hr => ?term) (fun rs M Q h => ?body)
  case term =>
    refine' scons ?h1893 ?h1894
    case h1893 =>
     refine' sif ?h1890 ?h1891 ?h1892
     case h1890 =>
      refine' rtcmp oge ?h1873 ?h1874
      case h1873 =>
       exact rvN 0 no__law_well
      case h1874 =>
       refine' rop opow ?h1871 ?h1872
       case h1871 =>
        exact ri
       case h1872 =>
        exact ri
     case h1891 =>
      refine' sone ?h1889
      case h1889 =>
       refine' sret ?h1888
       case h1888 =>
        refine' rlst ?h1887
        case h1887 =>
         refine' acons ?h1885 ?h1886
         case h1885 =>
          refine' rop osub ?h1883 ?h1884
          case h1883 =>
           exact rvN 0 no__law_well
          case h1884 =>
           refine' rop opow ?h1881 ?h1882
           case h1881 =>
            exact ri
           case h1882 =>
            exact ri
         case h1886 =>
          refine' acons ?h1879 ?h1880
          case h1879 =>
           refine' rop omod ?h1877 ?h1878
           case h1877 =>
            exact rvN 0 no__law_well
           case h1878 =>
            exact ri
          case h1880 =>
           refine' acons ?h1875 ?h1876
           case h1875 =>
            exact rvN 1 no__law_well
           case h1876 =>
            exact anil
     case h1892 =>
      exact snil
    case h1894 =>
     refine' sone ?h1870
     case h1870 =>
      refine' sret ?h1869
      case h1869 =>
       refine' rlst ?h1868
       case h1868 =>
        refine' acons ?h1866 ?h1867
        case h1866 =>
         exact ri
        case h1867 =>
         refine' acons ?h1864 ?h1865
         case h1864 =>
          refine' rop omod ?h1862 ?h1863
          case h1862 =>
           exact rvN 0 no__law_well
          case h1863 =>
           exact ri
         case h1865 =>
          refine' acons ?h1860 ?h1861
          case h1860 =>
           exact rvN 1 no__law_well
          case h1861 =>
           exact anil
  case len =>
    unfold sp__law_well at h; obtain ⟨c, rfl, _⟩ := h; rfl
  case body =>
    unfold sp__law_well at h
    obtain ⟨c, rfl, h⟩ := h
    simp only [R.rSeq, R.rIfS, R.rSet, R.rRet, R.rRetN, R.rTest, R.rOp, R.rVar, R.rC, R.rCons, R.rNil, R.rCall, R.rTup, R.rLsF, R.rLst, R.rIx, R.rAsg, R.rgSub, R.rgN, R.rgU, R.setAll, R.rInt0, R.rInt2, R.rAdd, R.rNext, R.rDrop, R.rIf, R.rAnd, R.rOr, R.rNot, R.rAndV, R.rOrV, R.rNotV, R.rChain, R.rUn, R.rgNeg, R.rSl, R.rPart, R.rNoP, R.rSlc, R.rForI, R.rItS, R.rItR, R.rRngI, R.rComp, R.rYes, R.rTuple, R.rLen, R.rIsi, R.rEqq, R.rNeq, R.rIs, R.rIsNot, R.rTab, R.rDispGet, R.rSetL, R.rMul, R.isN, R.keyR, R.rstart, R.is_int, R.is_bool, R.is_str, R.is_tuple, R.is_list, R.rGt, R.rMod, R.rDiv, R.rPow, R.rShr, R.rBand, R.rLt, R.rLe, R.rGe, R.rSub, List.map_cons, List.map_nil, List.set_cons_zero, List.set_cons_succ, List.length_cons, List.length_nil, List.replicate_succ, List.replicate_zero, List.cons_append, List.nil_append, List.getElem?_cons_zero, List.getElem?_cons_succ, Nat.reduceSub, Nat.reduceAdd, true_implies, Bool.false_eq_true, Bool.true_eq_false, reduceCtorEq, false_implies, and_true, true_and, Option.join_some, Nat.zero_add, decide_eq_true_eq, decide_eq_false_iff_not, List.append_nil]
    have e18 : (10 : Int) ^ Int.toNat 18 = 1000000000000000000 := by decide
    rw [e18]
    refine ⟨⟨by decide, by decide, by decide⟩, fun hc => ⟨⟨by decide, by decide, by decide⟩, by decide, szl, fun p hp => ?_⟩, fun _ => ⟨by decide, szl, fun p hp => ?_⟩⟩
    · exact h p _ hp ⟨_, _, 0, rfl, by omega, Int.emod_nonneg _ (by decide), Int.emod_lt_of_pos _ (by decide), by decide, by decide⟩
    · exact h p _ hp ⟨_, _, 0, rfl, by decide, Int.emod_nonneg _ (by decide), Int.emod_lt_of_pos _ (by decide), by decide, by decide⟩
theorem well_do {M : RM} {c : Int} {Q : RVK} (h : ∀ (p : Addr) (o : RO), M p = none → BagO o 0 → Q (.ref p) (put M p o)) : sp__law_well [.int c, .int 0] M Q := by
  unfold sp__law_well; exact ⟨c, rfl, h⟩
@[irreducible] def sp__law_take : RSp := fun rs M Q => ∃ (b : Addr) (m n : Int), rs = [.ref b, .int m] ∧ 0 < m ∧ m < 1073741824 ∧ Bag M b n ∧ n ≤ 100000 ∧ ∀ (r : Int) (o : RO), 0 ≤ r → r < m → BagO o (n + 1) → Q (.int r) (put M b o)
set_option maxHeartbeats 4000000 in
theorem fn__law_take {f : Addr} {fd : FuncData} (F : Fun K "_law_take" "_law_take" s__law_take f fd) (T : Txt P w K mg)  : FnOk P w K mg base CX0 1 f fd ["bag", "many"] (upSp K sp__law_take) := by
  refine' rfnok F sc__law_take (fun rs M Q h => ?len) (fun cdv A outer s H E hr => ?term) (fun rs M Q h => ?body)
  case term =>
    refine' scons ?h1972 ?h1973
    case h1972 =>
     refine' sif ?h1969 ?h1970 ?h1971
     case h1969 =>
      refine' rtcmp ogt ?h1949 ?h1950
      case h1949 =>
       refine' rix ?h1947 ?h1948
       case h1947 =>
        exact rvN 0 no__law_take
       case h1948 =>
        exact ri
      case h1950 =>
       exact ri
     case h1970 =>
      refine' scons ?h1967 ?h1968
      case h1967 =>
       refine' ssetN 4 no__law_take ?h1966
       case h1966 =>
        refine' rop omod ?h1964 ?h1965
        case h1964 =>
         refine' rix ?h1962 ?h1963
         case h1962 =>
          exact rvN 0 no__law_take
         case h1963 =>
          exact ri
        case h1965 =>
         exact rvN 1 no__law_take
      case h1968 =>
       refine' scons ?h1960 ?h1961
       case h1960 =>
        refine' sasg ?h1957 (gsub ?h1958 ?h1959 osetl)
        case h1957 =>
         refine' rop odiv ?h1955 ?h1956
         case h1955 =>
          refine' rix ?h1953 ?h1954
          case h1953 =>
           exact rvN 0 no__law_take
          case h1954 =>
           exact ri
         case h1956 =>
          exact rvN 1 no__law_take
        case h1958 =>
         exact rvN 0 no__law_take
        case h1959 =>
         exact ri
       case h1961 =>
        refine' sone ?h1952
        case h1952 =>
         refine' sret ?h1951
         case h1951 =>
          exact rvN 4 no__law_take
     case h1971 =>
      exact snil
    case h1973 =>
     refine' scons ?h1945 ?h1946
     case h1945 =>
      refine' sasg ?h1942 (gsub ?h1943 ?h1944 osetl)
      case h1942 =>
       refine' rop oadd ?h1940 ?h1941
       case h1940 =>
        refine' rix ?h1938 ?h1939
        case h1938 =>
         exact rvN 0 no__law_take
        case h1939 =>
         exact ri
       case h1941 =>
        exact ri
      case h1943 =>
       exact rvN 0 no__law_take
      case h1944 =>
       exact ri
     case h1946 =>
      refine' scons ?h1936 ?h1937
      case h1936 =>
       refine' ssetN 2 no__law_take ?h1935
       case h1935 =>
        exact ri
      case h1937 =>
       refine' scons ?h1933 ?h1934
       case h1933 =>
        refine' ssetN 3 no__law_take ?h1932
        case h1932 =>
         refine' rop omod ?h1930 ?h1931
         case h1930 =>
          refine' rop oadd ?h1928 ?h1929
          case h1928 =>
           refine' rix ?h1922 ?h1923
           case h1922 =>
            exact rvN 0 no__law_take
           case h1923 =>
            exact ri
          case h1929 =>
           refine' rop omul ?h1926 ?h1927
           case h1926 =>
            exact ri
           case h1927 =>
            refine' rix ?h1924 ?h1925
            case h1924 =>
             exact rvN 0 no__law_take
            case h1925 =>
             exact ri
         case h1931 =>
          exact rvN 2 no__law_take
       case h1934 =>
        refine' scons ?h1920 ?h1921
        case h1920 =>
         refine' ssetN 3 no__law_take ?h1919
         case h1919 =>
          refine' rop omod ?h1917 ?h1918
          case h1917 =>
           refine' rop oadd ?h1915 ?h1916
           case h1915 =>
            refine' rop oadd ?h1913 ?h1914
            case h1913 =>
             refine' rop omul ?h1905 ?h1906
             case h1905 =>
              exact rvN 3 no__law_take
             case h1906 =>
              exact rvN 3 no__law_take
            case h1914 =>
             refine' rop omul ?h1911 ?h1912
             case h1911 =>
              exact ri
             case h1912 =>
              refine' rop opow ?h1909 ?h1910
              case h1909 =>
               refine' rix ?h1907 ?h1908
               case h1907 =>
                exact rvN 0 no__law_take
               case h1908 =>
                exact ri
              case h1910 =>
               exact ri
           case h1916 =>
            exact ri
          case h1918 =>
           exact rvN 2 no__law_take
        case h1921 =>
         refine' sone ?h1904
         case h1904 =>
          refine' sret ?h1903
          case h1903 =>
           refine' rop omod ?h1901 ?h1902
           case h1901 =>
            refine' rop odiv ?h1899 ?h1900
            case h1899 =>
             refine' rop omod ?h1897 ?h1898
             case h1897 =>
              refine' rop opow ?h1895 ?h1896
              case h1895 =>
               exact rvN 3 no__law_take
              case h1896 =>
               exact ri
             case h1898 =>
              exact rvN 2 no__law_take
            case h1900 =>
             exact ri
           case h1902 =>
            exact rvN 1 no__law_take
  case len =>
    unfold sp__law_take at h; obtain ⟨b, m, n, rfl, _⟩ := h; rfl
  case body =>
    unfold sp__law_take at h
    obtain ⟨b, m, n, rfl, m0, m1, ⟨o, hb, x, y, t, rfl, x0, y0, y1, t0, t1⟩, hn, h⟩ := h
    simp only [R.rSeq, R.rIfS, R.rSet, R.rRet, R.rRetN, R.rTest, R.rOp, R.rVar, R.rC, R.rCons, R.rNil, R.rCall, R.rTup, R.rLsF, R.rLst, R.rIx, R.rAsg, R.rgSub, R.rgN, R.rgU, R.setAll, R.rInt0, R.rInt2, R.rAdd, R.rNext, R.rDrop, R.rIf, R.rAnd, R.rOr, R.rNot, R.rAndV, R.rOrV, R.rNotV, R.rChain, R.rUn, R.rgNeg, R.rSl, R.rPart, R.rNoP, R.rSlc, R.rForI, R.rItS, R.rItR, R.rRngI, R.rComp, R.rYes, R.rTuple, R.rLen, R.rIsi, R.rEqq, R.rNeq, R.rIs, R.rIsNot, R.rTab, R.rDispGet, R.rSetL, R.rMul, R.isN, R.keyR, R.rstart, R.is_int, R.is_bool, R.is_str, R.is_tuple, R.is_list, R.rGt, R.rMod, R.rDiv, R.rPow, R.rShr, R.rBand, R.rLt, R.rLe, R.rGe, R.rSub, List.map_cons, List.map_nil, List.set_cons_zero, List.set_cons_succ, List.length_cons, List.length_nil, List.replicate_succ, List.replicate_zero, List.cons_append, List.nil_append, List.getElem?_cons_zero, List.getElem?_cons_succ, Nat.reduceSub, Nat.reduceAdd, true_implies, Bool.false_eq_true, Bool.true_eq_false, reduceCtorEq, false_implies, and_true, true_and, Option.join_some, Nat.zero_add, decide_eq_true_eq, decide_eq_false_iff_not, List.append_nil, hb, at0, at1, at2, ix0, ix2, R.put_same, R.put_put]
    generalize e1 : (y + 1000003 * (t + 1)) % 2305843009213693951 = a
    have a0 : 0 ≤ a ∧ a < 2305843009213693951 := by subst e1; exact ⟨Int.emod_nonneg _ (by decide), Int.emod_lt_of_pos _ (by decide)⟩
    generalize e2 : (a * a + 7919 * (t + 1) ^ Int.toNat 2 + 5) % 2305843009213693951 = c
    have c0 : 0 ≤ c ∧ c < 2305843009213693951 := by subst e2; exact ⟨Int.emod_nonneg _ (by decide), Int.emod_lt_of_pos _ (by decide)⟩
    refine ⟨fun hx => ⟨m0, ⟨m0, m1⟩, h _ _ (Int.emod_nonneg _ (by omega)) (Int.emod_lt_of_pos _ m0) ⟨x / m, y, t, rfl, Int.ediv_nonneg x0 (by omega), y0, y1, t0, by omega⟩⟩, fun hx => ⟨cmul_left (by decide) (by decide), by decide, cmul_left (by omega) (by omega), ⟨by decide, by decide, small64 (by omega) (by omega)⟩, cmul_left (by decide) (by decide), by decide, ⟨by decide, by decide, small64 (by omega) (by omega)⟩, by decide, ⟨by decide, by decide⟩, m0, h _ _ (Int.emod_nonneg _ (by omega)) (Int.emod_lt_of_pos _ m0) ⟨x, y, t + 1, rfl, x0, y0, y1, by omega, by omega⟩⟩⟩
theorem take_do {M : RM} {b : Addr} {m n : Int} {Q : RVK} (hB : Bag M b n) (m0 : 0 < m) (m1 : m < 1073741824) (hn : n ≤ 100000) (h : ∀ (r : Int) (o : RO), 0 ≤ r → r < m → BagO o (n + 1) → Q (.int r) (put M b o)) : sp__law_take [.ref b, .int m] M Q :=
  by unfold sp__law_take; exact ⟨b, m, n, rfl, m0, m1, hB, hn, h⟩
@[irreducible] def sp__law_whole : RSp := fun rs M Q => ∃ (x : RV) (b : Bool), rs = [x] ∧ wholeR x = some b ∧ Q (.bl b) M
set_option maxHeartbeats 4000000 in
theorem fn__law_whole {f : Addr} {fd : FuncData} (F : Fun K "_law_whole" "_law_whole" s__law_whole f fd) (T : Txt P w K mg)  : FnOk P w K mg base CX0 1 f fd ["found"] (upSp K sp__law_whole) := by
  refine' rfnok F sc__law_whole (fun rs M Q h => ?len) (fun cdv A outer s H E hr => ?term) (fun rs M Q h => ?body)
  case term =>
    refine' sone ?h1989
    case h1989 =>
     refine' sret ?h1988
     case h1988 =>
      refine' randv ?h1986 ?h1987
      case h1986 =>
       refine' rcallB cisi_int T.b_isinstance bt_isinstance ?h1985 (hg := gl__law_whole_isinstance) (hdb := db_isinstance) (hn := nn_isinstance)
       case h1985 =>
        refine' acons ?h1983 ?h1984
        case h1983 =>
         exact rvN 0 no__law_whole
        case h1984 =>
         refine' acons ?h1981 ?h1982
         case h1981 =>
          exact rty_int T.b_int gl__law_whole_int
         case h1982 =>
          exact anil
      case h1987 =>
       refine' rone ?h1980
       case h1980 =>
        refine' rnotv ?h1979
        case h1979 =>
         refine' rcallB cisi_bool T.b_isinstance bt_isinstance ?h1978 (hg := gl__law_whole_isinstance) (hdb := db_isinstance) (hn := nn_isinstance)
         case h1978 =>
          refine' acons ?h1976 ?h1977
          case h1976 =>
           exact rvN 0 no__law_whole
          case h1977 =>
           refine' acons ?h1974 ?h1975
           case h1974 =>
            exact rty_bool T.b_bool gl__law_whole_bool
           case h1975 =>
            exact anil
  case len =>
    unfold sp__law_whole at h; obtain ⟨x, b, rfl, _⟩ := h; rfl
  case body =>
    unfold sp__law_whole at h
    obtain ⟨x, b, rfl, e, h⟩ := h
    cases x <;> first | (cases e; done) | (cases e; simp only [R.rSeq, R.rIfS, R.rSet, R.rRet, R.rRetN, R.rTest, R.rOp, R.rVar, R.rC, R.rCons, R.rNil, R.rCall, R.rTup, R.rLsF, R.rLst, R.rIx, R.rAsg, R.rgSub, R.rgN, R.rgU, R.setAll, R.rInt0, R.rInt2, R.rAdd, R.rNext, R.rDrop, R.rIf, R.rAnd, R.rOr, R.rNot, R.rAndV, R.rOrV, R.rNotV, R.rChain, R.rUn, R.rgNeg, R.rSl, R.rPart, R.rNoP, R.rSlc, R.rForI, R.rItS, R.rItR, R.rRngI, R.rComp, R.rYes, R.rTuple, R.rLen, R.rIsi, R.rEqq, R.rNeq, R.rIs, R.rIsNot, R.rTab, R.rDispGet, R.rSetL, R.rMul, R.isN, R.keyR, R.rstart, R.is_int, R.is_bool, R.is_str, R.is_tuple, R.is_list, R.rGt, R.rMod, R.rDiv, R.rPow, R.rShr, R.rBand, R.rLt, R.rLe, R.rGe, R.rSub, List.map_cons, List.map_nil, List.set_cons_zero, List.set_cons_succ, List.length_cons, List.length_nil, List.replicate_succ, List.replicate_zero, List.cons_append, List.nil_append, List.getElem?_cons_zero, List.getElem?_cons_succ, Nat.reduceSub, Nat.reduceAdd, true_implies, Bool.false_eq_true, Bool.true_eq_false, reduceCtorEq, false_implies, and_true, true_and, Option.join_some, Nat.zero_add, decide_eq_true_eq, decide_eq_false_iff_not, List.append_nil, Bool.not_true, Bool.not_false]; exact h)
theorem whole_do {M : RM} {x : RV} {b : Bool} {Q : RVK} (e : wholeR x = some b) (h : Q (.bl b) M) : sp__law_whole [x] M Q := by
  unfold sp__law_whole; exact ⟨x, b, rfl, e, h⟩
@[irreducible] def sp__law_bounds : RSp := fun rs M Q => ∃ n : Str, rs = [.str n] ∧ Q (.ls (bndF n)) M
set_option maxHeartbeats 4000000 in
theorem fn__law_bounds {f : Addr} {fd : FuncData} (F : Fun K "_law_bounds" "_law_bounds" s__law_bounds f fd) (T : Txt P w K mg)  : FnOk P w K mg base CX0 1 f fd ["name"] (upSp K sp__law_bounds) := by
  refine' rfnok F sc__law_bounds (fun rs M Q h => ?len) (fun cdv A outer s H E hr => ?term) (fun rs M Q h => ?body)
  case term =>
    refine' scons ?h2124 ?h2125
    case h2124 =>
     refine' ssetN 1 no__law_bounds ?h2123
     case h2123 =>
      refine' rtup ?h2122
      case h2122 =>
       refine' acons ?h2120 ?h2121
       case h2120 =>
        exact ri
       case h2121 =>
        refine' acons ?h2118 ?h2119
        case h2118 =>
         exact ri
        case h2119 =>
         exact anil
    case h2125 =>
     refine' scons ?h2116 ?h2117
     case h2116 =>
      refine' ssetN 2 no__law_bounds ?h2115
      case h2115 =>
       refine' rtup ?h2114
       case h2114 =>
        refine' acons ?h2112 ?h2113
        case h2112 =>
         exact ri
        case h2113 =>
         refine' acons ?h2110 ?h2111
         case h2110 =>
          exact ri
         case h2111 =>
          exact anil
     case h2117 =>
      refine' scons ?h2108 ?h2109
      case h2108 =>
       refine' sif ?h2105 ?h2106 ?h2107
       case h2105 =>
        refine' rtcmp (oeq hr.units) ?h2073 ?h2074
        case h2073 =>
         exact rvN 0 no__law_bounds
        case h2074 =>
         exact rs
       case h2106 =>
        refine' sone ?h2104
        case h2104 =>
         refine' sret ?h2103
         case h2103 =>
          refine' rlsf ?h2102
          case h2102 =>
           refine' acons ?h2100 ?h2101
           case h2100 =>
            refine' run oneg ?h2099
            case h2099 =>
             exact ri
           case h2101 =>
            refine' acons ?h2097 ?h2098
            case h2097 =>
             refine' rtup ?h2096
             case h2096 =>
              refine' acons ?h2094 ?h2095
              case h2094 =>
               exact ri
              case h2095 =>
               refine' acons ?h2092 ?h2093
               case h2092 =>
                exact ri
               case h2093 =>
                exact anil
            case h2098 =>
             refine' acons ?h2090 ?h2091
             case h2090 =>
              exact rvN 1 no__law_bounds
             case h2091 =>
              refine' acons ?h2088 ?h2089
              case h2088 =>
               refine' rtup ?h2087
               case h2087 =>
                refine' acons ?h2085 ?h2086
                case h2085 =>
                 exact ri
                case h2086 =>
                 refine' acons ?h2083 ?h2084
                 case h2083 =>
                  exact ri
                 case h2084 =>
                  exact anil
              case h2089 =>
               refine' acons ?h2081 ?h2082
               case h2081 =>
                exact rvN 1 no__law_bounds
               case h2082 =>
                refine' acons ?h2079 ?h2080
                case h2079 =>
                 refine' run oneg ?h2078
                 case h2078 =>
                  exact ri
                case h2080 =>
                 refine' acons ?h2076 ?h2077
                 case h2076 =>
                  refine' run oneg ?h2075
                  case h2075 =>
                   exact ri
                 case h2077 =>
                  exact anil
       case h2107 =>
        exact snil
      case h2109 =>
       refine' scons ?h2071 ?h2072
       case h2071 =>
        refine' sif ?h2068 ?h2069 ?h2070
        case h2068 =>
         refine' rtcmp (oeq hr.units) ?h2048 ?h2049
         case h2048 =>
          exact rvN 0 no__law_bounds
         case h2049 =>
          exact rs
        case h2069 =>
         refine' sone ?h2067
         case h2067 =>
          refine' sret ?h2066
          case h2066 =>
           refine' rlsf ?h2065
           case h2065 =>
            refine' acons ?h2063 ?h2064
            case h2063 =>
             refine' run oneg ?h2062
             case h2062 =>
              exact ri
            case h2064 =>
             refine' acons ?h2060 ?h2061
             case h2060 =>
              exact rvN 2 no__law_bounds
             case h2061 =>
              refine' acons ?h2058 ?h2059
              case h2058 =>
               exact rvN 1 no__law_bounds
              case h2059 =>
               refine' acons ?h2056 ?h2057
               case h2056 =>
                exact rvN 1 no__law_bounds
               case h2057 =>
                refine' acons ?h2054 ?h2055
                case h2054 =>
                 refine' run oneg ?h2053
                 case h2053 =>
                  exact ri
                case h2055 =>
                 refine' acons ?h2051 ?h2052
                 case h2051 =>
                  refine' run oneg ?h2050
                  case h2050 =>
                   exact ri
                 case h2052 =>
                  exact anil
        case h2070 =>
         exact snil
       case h2072 =>
        refine' scons ?h2046 ?h2047
        case h2046 =>
         refine' sif ?h2043 ?h2044 ?h2045
         case h2043 =>
          refine' rtcmp (oeq hr.units) ?h2027 ?h2028
          case h2027 =>
           exact rvN 0 no__law_bounds
          case h2028 =>
           exact rs
         case h2044 =>
          refine' sone ?h2042
          case h2042 =>
           refine' sret ?h2041
           case h2041 =>
            refine' rlsf ?h2040
            case h2040 =>
             refine' acons ?h2038 ?h2039
             case h2038 =>
              exact rvN 2 no__law_bounds
             case h2039 =>
              refine' acons ?h2036 ?h2037
              case h2036 =>
               refine' run oneg ?h2035
               case h2035 =>
                exact ri
              case h2037 =>
               refine' acons ?h2033 ?h2034
               case h2033 =>
                exact rvN 1 no__law_bounds
               case h2034 =>
                refine' acons ?h2031 ?h2032
                case h2031 =>
                 exact rvN 2 no__law_bounds
                case h2032 =>
                 refine' acons ?h2029 ?h2030
                 case h2029 =>
                  exact rvN 1 no__law_bounds
                 case h2030 =>
                  exact anil
         case h2045 =>
          exact snil
        case h2047 =>
         refine' scons ?h2025 ?h2026
         case h2025 =>
          refine' sif ?h2022 ?h2023 ?h2024
          case h2022 =>
           refine' rtcmp (oeq hr.units) ?h2000 ?h2001
           case h2000 =>
            exact rvN 0 no__law_bounds
           case h2001 =>
            exact rs
          case h2023 =>
           refine' sone ?h2021
           case h2021 =>
            refine' sret ?h2020
            case h2020 =>
             refine' rlsf ?h2019
             case h2019 =>
              refine' acons ?h2017 ?h2018
              case h2017 =>
               refine' run oneg ?h2016
               case h2016 =>
                exact ri
              case h2018 =>
               refine' acons ?h2014 ?h2015
               case h2014 =>
                exact rvN 1 no__law_bounds
               case h2015 =>
                refine' acons ?h2012 ?h2013
                case h2012 =>
                 refine' run oneg ?h2011
                 case h2011 =>
                  exact ri
                case h2013 =>
                 refine' acons ?h2009 ?h2010
                 case h2009 =>
                  refine' rtup ?h2008
                  case h2008 =>
                   refine' acons ?h2006 ?h2007
                   case h2006 =>
                    exact ri
                   case h2007 =>
                    refine' acons ?h2004 ?h2005
                    case h2004 =>
                     exact ri
                    case h2005 =>
                     exact anil
                 case h2010 =>
                  refine' acons ?h2002 ?h2003
                  case h2002 =>
                   exact rvN 1 no__law_bounds
                  case h2003 =>
                   exact anil
          case h2024 =>
           exact snil
         case h2026 =>
          refine' sone ?h1999
          case h1999 =>
           refine' sret ?h1998
           case h1998 =>
            refine' rlsf ?h1997
            case h1997 =>
             refine' acons ?h1995 ?h1996
             case h1995 =>
              refine' rtup ?h1994
              case h1994 =>
               refine' acons ?h1992 ?h1993
               case h1992 =>
                exact ri
               case h1993 =>
                refine' acons ?h1990 ?h1991
                case h1990 =>
                 exact ri
                case h1991 =>
                 exact anil
             case h1996 =>
              exact anil
  case len =>
    unfold sp__law_bounds at h; obtain ⟨n, rfl, _⟩ := h; rfl
  case body =>
    unfold sp__law_bounds at h
    obtain ⟨n, rfl, h⟩ := h
    walk_at "rs"
    refine do_kB (fun e_out => ?_) fun e_out => ?_
    · walk_at "rs"
      rw [show bndF n = _ from if_pos (eqS e_out)] at h
      exact h
    walk_at "rs"
    refine do_kB (fun e_come => ?_) fun e_come => ?_
    · walk_at "rs"
      rw [show bndF n = _ from (if_neg (eqS' e_out)).trans (if_pos (eqS e_come))] at h
      exact h
    walk_at "rs"
    refine do_kB (fun e_lost => ?_) fun e_lost => ?_
    · walk_at "rs"
      rw [show bndF n = _ from (if_neg (eqS' e_out)).trans ((if_neg (eqS' e_come)).trans (if_pos (eqS e_lost)))] at h
      exact h
    walk_at "rs"
    refine do_kB (fun e_rule => ?_) fun e_rule => ?_
    · walk_at "rs"
      rw [show bndF n = _ from (if_neg (eqS' e_out)).trans ((if_neg (eqS' e_come)).trans ((if_neg (eqS' e_lost)).trans (if_pos (eqS e_rule))))] at h
      exact h
    walk_at "rs"
    rw [show bndF n = _ from (if_neg (eqS' e_out)).trans ((if_neg (eqS' e_come)).trans ((if_neg (eqS' e_lost)).trans ((if_neg (eqS' e_rule)).trans (rfl))))] at h
    exact h
theorem bnd_do {M : RM} {n : Str} {Q : RVK} (h : Q (.ls (bndF n)) M) : sp__law_bounds [.str n] M Q := by unfold sp__law_bounds; exact ⟨n, rfl, h⟩
@[irreducible] def sp_is_whole_within : RSp := fun rs M Q => ∃ x lo hi, rs = [x, .int lo, .int hi] ∧ okP x ∧ Q (.bl (inB x lo hi)) M
set_option maxHeartbeats 4000000 in
theorem fn_is_whole_within {f : Addr} {fd : FuncData} (F : Fun K "is_whole_within" "is_whole_within" s_is_whole_within f fd) (T : Txt P w K mg) (F_is_whole : RFn P w K mg base 1 "is_whole" ["thing"] sp_is_whole) : FnOk P w K mg base CX0 2 f fd ["thing", "least", "greatest"] (upSp K sp_is_whole_within) := by
  refine' rfnok F sc_is_whole_within (fun rs M Q h => ?len) (fun cdv A outer s H E hr => ?term) (fun rs M Q h => ?body)
  case term =>
    refine' sone ?h2136
    case h2136 =>
     refine' sret ?h2135
     case h2135 =>
      refine' randv ?h2133 ?h2134
      case h2133 =>
       refine' rcallF F_is_whole (hr.mono (by decide)) ?h2132 (hg := gl_is_whole_within_is_whole) (hdb := db_is_whole)
       case h2132 =>
        refine' acons ?h2130 ?h2131
        case h2130 =>
         exact rvN 0 no_is_whole_within
        case h2131 =>
         exact anil
      case h2134 =>
       refine' rone ?h2129
       case h2129 =>
        refine' rchain ole ole ?h2126 ?h2127 ?h2128
        case h2126 =>
         exact rvN 1 no_is_whole_within
        case h2127 =>
         exact rvN 0 no_is_whole_within
        case h2128 =>
         exact rvN 2 no_is_whole_within
  case len =>
    unfold sp_is_whole_within at h; obtain ⟨x, lo, hi, rfl, _⟩ := h; rfl
  case body =>
    unfold sp_is_whole_within at h
    obtain ⟨x, lo, hi, rfl, hx, h⟩ := h
    walk_at "rs"
    refine is_whole_do hx ?_
    cases x with
    | int i =>
      refine do_kand (fun _ => ?_) (fun e => (by cases e))
      walk_at "rs"
      refine do_kch (fun e => ?_) fun e => andF h e
      walk_at "rs"
      exact andT h e
    | _ => exact do_kand (fun e => (by cases e)) (fun _ => h)
theorem within_do {M : RM} {x : RV} {lo hi : Int} {Q : RVK} (hx : okP x) (h : Q (.bl (inB x lo hi)) M) : sp_is_whole_within [x, .int lo, .int hi] M Q := by unfold sp_is_whole_within; exact ⟨x, lo, hi, rfl, hx, h⟩
@[irreducible] def sp_is_text : RSp := fun rs M Q => ∃ x, rs = [x] ∧ okP x ∧ Q (.bl (textF x)) M
set_option maxHeartbeats 4000000 in
theorem fn_is_text {f : Addr} {fd : FuncData} (F : Fun K "is_text" "is_text" s_is_text f fd) (T : Txt P w K mg) (F_is_sign : RFn P w K mg base 1 "is_sign" ["sign"] sp_is_sign) : FnOk P w K mg base CX0 2 f fd ["thing"] (upSp K sp_is_text) := by
  refine' rfnok F sc_is_text (fun rs M Q h => ?len) (fun cdv A outer s H E hr => ?term) (fun rs M Q h => ?body)
  case term =>
    refine' scons ?h2170 ?h2171
    case h2170 =>
     refine' sif ?h2167 ?h2168 ?h2169
     case h2167 =>
      refine' rtw ?h2164
      case h2164 =>
       refine' ror ?h2162 ?h2163
       case h2162 =>
        refine' rtnot ?h2161
        case h2161 =>
         refine' rtval ?h2160
         case h2160 =>
          refine' rcallB cisi_str T.b_isinstance bt_isinstance ?h2159 (hg := gl_is_text_isinstance) (hdb := db_isinstance) (hn := nn_isinstance)
          case h2159 =>
           refine' acons ?h2157 ?h2158
           case h2157 =>
            exact rvN 0 no_is_text
           case h2158 =>
            refine' acons ?h2155 ?h2156
            case h2155 =>
             exact rty_str T.b_str gl_is_text_str
            case h2156 =>
             exact anil
       case h2163 =>
        refine' ror1 ?h2154
        case h2154 =>
         refine' rtcmp ogt ?h2152 ?h2153
         case h2152 =>
          refine' rcallB clen T.b_len bt_len ?h2151 (hg := gl_is_text_len) (hdb := db_len) (hn := nn_len)
          case h2151 =>
           refine' acons ?h2149 ?h2150
           case h2149 =>
            exact rvN 0 no_is_text
           case h2150 =>
            exact anil
         case h2153 =>
          exact rgi T.c_MOST_SIGNS (hg := gl_is_text_MOST_SIGNS) (hd := db_MOST_SIGNS)
     case h2168 =>
      refine' sone ?h2166
      case h2166 =>
       refine' sret ?h2165
       case h2165 =>
        exact rb
     case h2169 =>
      exact snil
    case h2171 =>
     refine' sone ?h2148
     case h2148 =>
      refine' sret ?h2147
      case h2147 =>
       refine' rcallB (call_all rfl) T.b_all bt_all ?h2146 (hg := gl_is_text_all) (hdb := db_all) (hn := nn_all)
       case h2146 =>
        refine' acons ?h2144 ?h2145
        case h2144 =>
         refine' rcompN [] (osc := defScope s_is_text) (oN := N_is_text) rfl ?h2141 (fun cl C s H fp vb => ?h2142) (fun cl C s H fp vb => ?h2143) rfl rfl (by decide +kernel) (by decide +kernel) (by decide +kernel) rfl (by decide +kernel) (by decide +kernel) (by decide +kernel) (by decide +kernel)
         case h2141 =>
          refine' istr ?h2137
          case h2137 =>
           exact rvN 0 no_is_text
         case h2142 =>
          exact tnil
         case h2143 =>
          refine' rcallF F_is_sign (hr.mono (by decide)) ?h2140 (hg := (glB (by decide +kernel))) (hdb := db_is_sign)
          case h2140 =>
           refine' acons ?h2138 ?h2139
           case h2138 =>
            exact rvB 0 vb
           case h2139 =>
            exact anil
        case h2145 =>
         exact anil
  case len =>
    unfold sp_is_text at h; obtain ⟨x, rfl, _⟩ := h; rfl
  case body =>
    unfold sp_is_text at h
    obtain ⟨x, rfl, hx, h⟩ := h
    cases x with
    | ref a => exact (okP_ref hx).elim
    | ty a => exact (okP_ty hx).elim
    | str s =>
      walk_at "rs"
      refine do_len_s (szl (hx.2 s rfl)) ?_
      walk_at "rs"
      refine do_kB (fun e => ?_) fun e => ?_
      · walk_at "rs"
        exact andF h (decide_eq_false (by have := of_decide_eq_true e; omega))
      · walk_at "rs"
        refine ⟨?_, ?_⟩
        · have := hx.2 s rfl
          have e2 : (signsR s).length = s.length := by simp [signsR, Str.length]
          rw [e2]; exact Nat.lt_of_le_of_lt this (by decide)
        · refine comp_map (f := fun v => match v with | .str z => .bl (signF (z.cps.getD 0 0)) | _ => .non) _ _ (fun y hy Q' hq => ?_) ?_
          · obtain ⟨c, _, rfl⟩ := List.mem_map.mp hy
            walk_at "rs"
            exact is_sign_do hq
          · walk_at "rs"
            have e3 : ([] ++ (signsR s).map fun v => (match v with | .str z => .bl (signF (z.cps.getD 0 0)) | _ => .non : RV)) = (s.cps.toList.map signF).map RV.bl := by
              simp [signsR, List.map_map, Function.comp_def]
            rw [e3]
            exact do_all _ (andT h (decide_eq_true (by have := of_decide_eq_false e; omega)))
    | _ => (walk_at "rs"; exact h)
theorem is_text_do {M : RM} {x : RV} {Q : RVK} (hx : okP x) (h : Q (.bl (textF x)) M) : sp_is_text [x] M Q := by unfold sp_is_text; exact ⟨x, rfl, hx, h⟩
@[irreducible] def sp__law_said : RSp := fun rs M Q => ∃ (b : Addr) (n : Int), rs = [.ref b] ∧ Bag M b n ∧ 0 ≤ n ∧ n ≤ 1000 ∧ ∀ (z : Str) (o : RO), z.length ≤ 1000 → BagO o (n + 4) → Q (.str z) (put M b o)
set_option maxHeartbeats 4000000 in
theorem fn__law_said {f : Addr} {fd : FuncData} (F : Fun K "_law_said" "_law_said" s__law_said f fd) (T : Txt P w K mg) (F__law_take : RFn P w K mg base 1 "_law_take" ["bag", "many"] sp__law_take) : FnOk P w K mg base CX0 2 f fd ["bag"] (upSp K sp__law_said) := by
  refine' rfnok F sc__law_said (fun rs M Q h => ?len) (fun cdv A outer s H E hr => ?term) (fun rs M Q h => ?body)
  case term =>
    refine' scons ?h2231 ?h2232
    case h2231 =>
     refine' ssetN 1 no__law_said ?h2230
     case h2230 =>
      exact rs
    case h2232 =>
     refine' scons ?h2228 ?h2229
     case h2228 =>
      refine' ssetN 2 no__law_said ?h2227
      case h2227 =>
       refine' rix ?h2225 ?h2226
       case h2225 =>
        refine' rlsf ?h2219
        case h2219 =>
         refine' acons ?h2217 ?h2218
         case h2217 =>
          exact ri
         case h2218 =>
          refine' acons ?h2215 ?h2216
          case h2215 =>
           exact ri
          case h2216 =>
           refine' acons ?h2213 ?h2214
           case h2213 =>
            refine' rcallF F__law_take (hr.mono (by decide)) ?h2212 (hg := gl__law_said__law_take) (hdb := db__law_take)
            case h2212 =>
             refine' acons ?h2210 ?h2211
             case h2210 =>
              exact rvN 0 no__law_said
             case h2211 =>
              refine' acons ?h2208 ?h2209
              case h2208 =>
               exact ri
              case h2209 =>
               exact anil
           case h2214 =>
            refine' acons ?h2206 ?h2207
            case h2206 =>
             exact ri
            case h2207 =>
             exact anil
       case h2226 =>
        refine' rcallF F__law_take (hr.mono (by decide)) ?h2224 (hg := gl__law_said__law_take) (hdb := db__law_take)
        case h2224 =>
         refine' acons ?h2222 ?h2223
         case h2222 =>
          exact rvN 0 no__law_said
         case h2223 =>
          refine' acons ?h2220 ?h2221
          case h2220 =>
           exact ri
          case h2221 =>
           exact anil
     case h2229 =>
      refine' scons ?h2204 ?h2205
      case h2204 =>
       refine' ssetN 3 no__law_said ?h2203
       case h2203 =>
        refine' rcallF F__law_take (hr.mono (by decide)) ?h2202 (hg := gl__law_said__law_take) (hdb := db__law_take)
        case h2202 =>
         refine' acons ?h2200 ?h2201
         case h2200 =>
          exact rvN 0 no__law_said
         case h2201 =>
          refine' acons ?h2198 ?h2199
          case h2198 =>
           exact ri
          case h2199 =>
           exact anil
      case h2205 =>
       refine' scons ?h2196 ?h2197
       case h2196 =>
        refine' ssetN 4 no__law_said ?h2195
        case h2195 =>
         refine' rcallF F__law_take (hr.mono (by decide)) ?h2194 (hg := gl__law_said__law_take) (hdb := db__law_take)
         case h2194 =>
          refine' acons ?h2192 ?h2193
          case h2192 =>
           exact rvN 0 no__law_said
          case h2193 =>
           refine' acons ?h2190 ?h2191
           case h2190 =>
            exact ri
           case h2191 =>
            exact anil
       case h2197 =>
        refine' sone ?h2189
        case h2189 =>
         refine' sret ?h2188
         case h2188 =>
          refine' rjoin ?h2186 ?h2187
          case h2186 =>
           exact rs
          case h2187 =>
           refine' acons ?h2184 ?h2185
           case h2184 =>
            refine' rcompN [(1, "signs"), (3, "one"), (4, "step")] (osc := defScope s__law_said) (oN := N__law_said) rfl ?h2181 (fun cl C s H fp vb => ?h2182) (fun cl C s H fp vb => ?h2183) rfl rfl (by decide +kernel) (by decide +kernel) (by decide +kernel) rfl (by decide +kernel) (by decide +kernel) (by decide +kernel) (by decide +kernel)
            case h2181 =>
             refine' irange T.b_range ?h2172 (hgl := gl__law_said_range)
             case h2172 =>
              exact rvN 2 no__law_said
            case h2182 =>
             exact tnil
            case h2183 =>
             refine' rix ?h2179 ?h2180
             case h2179 =>
              exact rvB 1 vb
             case h2180 =>
              refine' rop omod ?h2177 ?h2178
              case h2177 =>
               refine' rop oadd ?h2175 ?h2176
               case h2175 =>
                exact rvB 2 vb
               case h2176 =>
                refine' rop omul ?h2173 ?h2174
                case h2173 =>
                 exact rvB 0 vb
                case h2174 =>
                 exact rvB 3 vb
              case h2178 =>
               exact ri
           case h2185 =>
            exact anil
  case len =>
    unfold sp__law_said at h; obtain ⟨b, n, rfl, _⟩ := h; rfl
  case body =>
    unfold sp__law_said at h
    obtain ⟨b, n, rfl, hB, n0, n1, h⟩ := h
    walk_at "rs"
    refine take_do hB (by decide) (by decide) (by omega) fun r1 o1 ra1 rb1 ho1 => ?_
    walk_at "rs"
    refine take_do (Bag.put ho1) (by decide) (by decide) (by omega) fun r2 o2 ra2 rb2 ho2 => ?_
    walk_at "rs"
    refine at_ints 0 40 ra2 fun many mm0 mm1 => ?_
    walk_at "rs"
    refine take_do (Bag.put ho2) (by decide) (by decide) (by omega) fun r3 o3 ra3 rb3 ho3 => ?_
    walk_at "rs"
    refine take_do (Bag.put ho3) (by decide) (by decide) (by omega) fun r4 o4 ra4 rb4 ho4 => ?_
    walk_at "rs"
    refine do_rng (by omega) (by omega) ?_
    have hnum : (R.nums many.toNat).length = many.toNat := R.nums_len _
    refine ⟨Nat.lt_of_le_of_lt (show _ ≤ 40 by omega) (by decide), comp_all (fun v => ∃ c : Nat, v = .str ⟨#[c]⟩) _ _ (fun y hy Q' hq => ?_) fun ys hl hy => ?_⟩
    · obtain ⟨k, hk, rfl⟩ := List.mem_map.mp hy
      have hk' : k < many.toNat := List.mem_range.mp hk
      walk_at "rs"
      refine do_mulI (cmul_left (by omega) (by omega)) ?_
      walk_at "rs"
      refine do_int2 (by decide) ?_
      refine do_ixS (by decide +kernel) (Int.emod_nonneg _ (by decide)) ?_ fun c => hq _ ⟨c, rfl⟩
      exact Int.lt_of_lt_of_le (Int.emod_lt_of_pos _ (by decide)) (by decide +kernel)
    · obtain ⟨zs, rfl, hz⟩ := strs1 hy
      walk_at "rs"
      have hlen : zs.length ≤ 40 := by rw [List.length_map] at hl; omega
      refine ⟨zs, rfl, ?_, ?_⟩
      · rw [sum_ones hz]
        show zs.length + zs.length * 0 ≤ _
        omega
      · have := h (Txt.join (Str.ofString "") zs) o4 (by rw [PySem.W.KT.join_ones zs hz]; omega) (ho4.mono (by omega))
        simpa only [R.put_put] using this
theorem said_do {M : RM} {b : Addr} {n : Int} {Q : RVK} (hB : Bag M b n) (n0 : 0 ≤ n) (n1 : n ≤ 1000) (h : ∀ (z : Str) (o : RO), z.length ≤ 1000 → BagO o (n + 4) → Q (.str z) (put M b o)) : sp__law_said [.ref b] M Q := by unfold sp__law_said; exact ⟨b, n, rfl, hB, n0, n1, h⟩
@[irreducible] def sp__law_in_bounds : RSp := fun rs M Q => ∃ x lo hi, rs = [x, .int lo, .int hi] ∧ okP x ∧ Q (.bl (inB x lo hi)) M
set_option maxHeartbeats 4000000 in
theorem fn__law_in_bounds {f : Addr} {fd : FuncData} (F : Fun K "_law_in_bounds" "_law_in_bounds" s__law_in_bounds f fd) (T : Txt P w K mg) (F__law_whole : RFn P w K mg base 1 "_law_whole" ["found"] sp__law_whole) : FnOk P w K mg base CX0 2 f fd ["thing", "low", "high"] (upSp K sp__law_in_bounds) := by
  refine' rfnok F sc__law_in_bounds (fun rs M Q h => ?len) (fun cdv A outer s H E hr => ?term) (fun rs M Q h => ?body)
  case term =>
    refine' sone ?h2246
    case h2246 =>
     refine' sret ?h2245
     case h2245 =>
      refine' randv ?h2243 ?h2244
      case h2243 =>
       refine' rcallF F__law_whole (hr.mono (by decide)) ?h2242 (hg := gl__law_in_bounds__law_whole) (hdb := db__law_whole)
       case h2242 =>
        refine' acons ?h2240 ?h2241
        case h2240 =>
         exact rvN 0 no__law_in_bounds
        case h2241 =>
         exact anil
      case h2244 =>
       refine' randv ?h2238 ?h2239
       case h2238 =>
        refine' rcmp oge ?h2236 ?h2237
        case h2236 =>
         exact rvN 0 no__law_in_bounds
        case h2237 =>
         exact rvN 1 no__law_in_bounds
       case h2239 =>
        refine' rone ?h2235
        case h2235 =>
         refine' rcmp ole ?h2233 ?h2234
         case h2233 =>
          exact rvN 0 no__law_in_bounds
         case h2234 =>
          exact rvN 2 no__law_in_bounds
  case len =>
    unfold sp__law_in_bounds at h; obtain ⟨x, lo, hi, rfl, _⟩ := h; rfl
  case body =>
    unfold sp__law_in_bounds at h
    obtain ⟨x, lo, hi, rfl, hx, h⟩ := h
    walk_at "rs"
    refine whole_do (wh_of hx) ?_
    cases x with
    | int i =>
      refine do_kand (fun _ => ?_) (fun e => (by cases e))
      walk_at "rs"
      refine do_kand (fun e => ?_) fun e => andF h e
      walk_at "rs"
      exact andT h e
    | _ => exact do_kand (fun e => (by cases e)) (fun _ => h)
theorem bounds_do {M : RM} {x : RV} {lo hi : Int} {Q : RVK} (hx : okP x) (h : Q (.bl (inB x lo hi)) M) : sp__law_in_bounds [x, .int lo, .int hi] M Q := by unfold sp__law_in_bounds; exact ⟨x, lo, hi, rfl, hx, h⟩
@[irreducible] def sp_is_house : RSp := fun rs M Q => ∃ x, rs = [x] ∧ okP x ∧ Q (.bl (inB x 0 99)) M
set_option maxHeartbeats 4000000 in
theorem fn_is_house {f : Addr} {fd : FuncData} (F : Fun K "is_house" "is_house" s_is_house f fd) (T : Txt P w K mg) (F_is_whole_within : RFn P w K mg base 2 "is_whole_within" ["thing", "least", "greatest"] sp_is_whole_within) : FnOk P w K mg base CX0 3 f fd ["thing"] (upSp K sp_is_house) := by
  refine' rfnok F sc_is_house (fun rs M Q h => ?len) (fun cdv A outer s H E hr => ?term) (fun rs M Q h => ?body)
  case term =>
    refine' sone ?h2255
    case h2255 =>
     refine' sret ?h2254
     case h2254 =>
      refine' rcallF F_is_whole_within (hr.mono (by decide)) ?h2253 (hg := gl_is_house_is_whole_within) (hdb := db_is_whole_within)
      case h2253 =>
       refine' acons ?h2251 ?h2252
       case h2251 =>
        exact rvN 0 no_is_house
       case h2252 =>
        refine' acons ?h2249 ?h2250
        case h2249 =>
         exact ri
        case h2250 =>
         refine' acons ?h2247 ?h2248
         case h2247 =>
          exact rgi T.c_GREATEST_HOUSE (hg := gl_is_house_GREATEST_HOUSE) (hd := db_GREATEST_HOUSE)
         case h2248 =>
          exact anil
  case len =>
    unfold sp_is_house at h; obtain ⟨x, rfl, _⟩ := h; rfl
  case body =>
    unfold sp_is_house at h
    obtain ⟨x, rfl, hx, h⟩ := h
    walk_at "rs"
    exact within_do hx h
theorem is_house_do {M : RM} {x : RV} {Q : RVK} (hx : okP x) (h : Q (.bl (inB x 0 99)) M) : sp_is_house [x] M Q := by unfold sp_is_house; exact ⟨x, rfl, hx, h⟩
@[irreducible] def sp_is_door : RSp := fun rs M Q => ∃ x, rs = [x] ∧ okP x ∧ Q (.bl (inB x 1 9999)) M
set_option maxHeartbeats 4000000 in
theorem fn_is_door {f : Addr} {fd : FuncData} (F : Fun K "is_door" "is_door" s_is_door f fd) (T : Txt P w K mg) (F_is_whole_within : RFn P w K mg base 2 "is_whole_within" ["thing", "least", "greatest"] sp_is_whole_within) : FnOk P w K mg base CX0 3 f fd ["thing"] (upSp K sp_is_door) := by
  refine' rfnok F sc_is_door (fun rs M Q h => ?len) (fun cdv A outer s H E hr => ?term) (fun rs M Q h => ?body)
  case term =>
    refine' sone ?h2264
    case h2264 =>
     refine' sret ?h2263
     case h2263 =>
      refine' rcallF F_is_whole_within (hr.mono (by decide)) ?h2262 (hg := gl_is_door_is_whole_within) (hdb := db_is_whole_within)
      case h2262 =>
       refine' acons ?h2260 ?h2261
       case h2260 =>
        exact rvN 0 no_is_door
       case h2261 =>
        refine' acons ?h2258 ?h2259
        case h2258 =>
         exact ri
        case h2259 =>
         refine' acons ?h2256 ?h2257
         case h2256 =>
          exact rgi T.c_GREATEST_DOOR (hg := gl_is_door_GREATEST_DOOR) (hd := db_GREATEST_DOOR)
         case h2257 =>
          exact anil
  case len =>
    unfold sp_is_door at h; obtain ⟨x, rfl, _⟩ := h; rfl
  case body =>
    unfold sp_is_door at h
    obtain ⟨x, rfl, hx, h⟩ := h
    walk_at "rs"
    exact within_do hx h
theorem is_door_do {M : RM} {x : RV} {Q : RVK} (hx : okP x) (h : Q (.bl (inB x 1 9999)) M) : sp_is_door [x] M Q := by unfold sp_is_door; exact ⟨x, rfl, hx, h⟩
@[irreducible] def sp_is_place : RSp := fun rs M Q => ∃ x, rs = [x] ∧ okP x ∧ Q (.bl (inB x 0 1000000)) M
set_option maxHeartbeats 4000000 in
theorem fn_is_place {f : Addr} {fd : FuncData} (F : Fun K "is_place" "is_place" s_is_place f fd) (T : Txt P w K mg) (F_is_whole_within : RFn P w K mg base 2 "is_whole_within" ["thing", "least", "greatest"] sp_is_whole_within) : FnOk P w K mg base CX0 3 f fd ["thing"] (upSp K sp_is_place) := by
  refine' rfnok F sc_is_place (fun rs M Q h => ?len) (fun cdv A outer s H E hr => ?term) (fun rs M Q h => ?body)
  case term =>
    refine' sone ?h2273
    case h2273 =>
     refine' sret ?h2272
     case h2272 =>
      refine' rcallF F_is_whole_within (hr.mono (by decide)) ?h2271 (hg := gl_is_place_is_whole_within) (hdb := db_is_whole_within)
      case h2271 =>
       refine' acons ?h2269 ?h2270
       case h2269 =>
        exact rvN 0 no_is_place
       case h2270 =>
        refine' acons ?h2267 ?h2268
        case h2267 =>
         exact ri
        case h2268 =>
         refine' acons ?h2265 ?h2266
         case h2265 =>
          exact rgi T.c_GREATEST_PLACE (hg := gl_is_place_GREATEST_PLACE) (hd := db_GREATEST_PLACE)
         case h2266 =>
          exact anil
  case len =>
    unfold sp_is_place at h; obtain ⟨x, rfl, _⟩ := h; rfl
  case body =>
    unfold sp_is_place at h
    obtain ⟨x, rfl, hx, h⟩ := h
    walk_at "rs"
    exact within_do hx h
theorem is_place_do {M : RM} {x : RV} {Q : RVK} (hx : okP x) (h : Q (.bl (inB x 0 1000000)) M) : sp_is_place [x] M Q := by unfold sp_is_place; exact ⟨x, rfl, hx, h⟩
@[irreducible] def sp_is_outer_place : RSp := fun rs M Q => ∃ x, rs = [x] ∧ okP x ∧ Q (.bl (inB x 1 1000000)) M
set_option maxHeartbeats 4000000 in
theorem fn_is_outer_place {f : Addr} {fd : FuncData} (F : Fun K "is_outer_place" "is_outer_place" s_is_outer_place f fd) (T : Txt P w K mg) (F_is_whole_within : RFn P w K mg base 2 "is_whole_within" ["thing", "least", "greatest"] sp_is_whole_within) : FnOk P w K mg base CX0 3 f fd ["thing"] (upSp K sp_is_outer_place) := by
  refine' rfnok F sc_is_outer_place (fun rs M Q h => ?len) (fun cdv A outer s H E hr => ?term) (fun rs M Q h => ?body)
  case term =>
    refine' sone ?h2282
    case h2282 =>
     refine' sret ?h2281
     case h2281 =>
      refine' rcallF F_is_whole_within (hr.mono (by decide)) ?h2280 (hg := gl_is_outer_place_is_whole_within) (hdb := db_is_whole_within)
      case h2280 =>
       refine' acons ?h2278 ?h2279
       case h2278 =>
        exact rvN 0 no_is_outer_place
       case h2279 =>
        refine' acons ?h2276 ?h2277
        case h2276 =>
         exact ri
        case h2277 =>
         refine' acons ?h2274 ?h2275
         case h2274 =>
          exact rgi T.c_GREATEST_PLACE (hg := gl_is_outer_place_GREATEST_PLACE) (hd := db_GREATEST_PLACE)
         case h2275 =>
          exact anil
  case len =>
    unfold sp_is_outer_place at h; obtain ⟨x, rfl, _⟩ := h; rfl
  case body =>
    unfold sp_is_outer_place at h
    obtain ⟨x, rfl, hx, h⟩ := h
    walk_at "rs"
    exact within_do hx h
theorem is_outer_place_do {M : RM} {x : RV} {Q : RVK} (hx : okP x) (h : Q (.bl (inB x 1 1000000)) M) : sp_is_outer_place [x] M Q := by unfold sp_is_outer_place; exact ⟨x, rfl, hx, h⟩
@[irreducible] def sp_is_ticks : RSp := fun rs M Q => ∃ x, rs = [x] ∧ okP x ∧ Q (.bl (inB x 0 1000000)) M
set_option maxHeartbeats 4000000 in
theorem fn_is_ticks {f : Addr} {fd : FuncData} (F : Fun K "is_ticks" "is_ticks" s_is_ticks f fd) (T : Txt P w K mg) (F_is_whole_within : RFn P w K mg base 2 "is_whole_within" ["thing", "least", "greatest"] sp_is_whole_within) : FnOk P w K mg base CX0 3 f fd ["thing"] (upSp K sp_is_ticks) := by
  refine' rfnok F sc_is_ticks (fun rs M Q h => ?len) (fun cdv A outer s H E hr => ?term) (fun rs M Q h => ?body)
  case term =>
    refine' sone ?h2291
    case h2291 =>
     refine' sret ?h2290
     case h2290 =>
      refine' rcallF F_is_whole_within (hr.mono (by decide)) ?h2289 (hg := gl_is_ticks_is_whole_within) (hdb := db_is_whole_within)
      case h2289 =>
       refine' acons ?h2287 ?h2288
       case h2287 =>
        exact rvN 0 no_is_ticks
       case h2288 =>
        refine' acons ?h2285 ?h2286
        case h2285 =>
         exact ri
        case h2286 =>
         refine' acons ?h2283 ?h2284
         case h2283 =>
          exact rgi T.c_GREATEST_TICKS (hg := gl_is_ticks_GREATEST_TICKS) (hd := db_GREATEST_TICKS)
         case h2284 =>
          exact anil
  case len =>
    unfold sp_is_ticks at h; obtain ⟨x, rfl, _⟩ := h; rfl
  case body =>
    unfold sp_is_ticks at h
    obtain ⟨x, rfl, hx, h⟩ := h
    walk_at "rs"
    exact within_do hx h
theorem is_ticks_do {M : RM} {x : RV} {Q : RVK} (hx : okP x) (h : Q (.bl (inB x 0 1000000)) M) : sp_is_ticks [x] M Q := by unfold sp_is_ticks; exact ⟨x, rfl, hx, h⟩
@[irreducible] def sp_is_letter : RSp := fun rs M Q => ∃ k w t, rs = [k, w, t] ∧ okP k ∧ okP w ∧ okP t ∧ Q (.bl (letterF k w t)) M
set_option maxHeartbeats 4000000 in
theorem fn_is_letter {f : Addr} {fd : FuncData} (F : Fun K "is_letter" "is_letter" s_is_letter f fd) (T : Txt P w K mg) (F_is_kind : RFn P w K mg base 1 "is_kind" ["thing"] sp_is_kind) (F_is_word : RFn P w K mg base 1 "is_word" ["kind", "thing"] sp_is_word) (F_is_text : RFn P w K mg base 2 "is_text" ["thing"] sp_is_text) : FnOk P w K mg base CX0 3 f fd ["kind", "word", "text"] (upSp K sp_is_letter) := by
  refine' rfnok F sc_is_letter (fun rs M Q h => ?len) (fun cdv A outer s H E hr => ?term) (fun rs M Q h => ?body)
  case term =>
    refine' sone ?h2309
    case h2309 =>
     refine' sret ?h2308
     case h2308 =>
      refine' randv ?h2306 ?h2307
      case h2306 =>
       refine' rcallF F_is_kind (hr.mono (by decide)) ?h2305 (hg := gl_is_letter_is_kind) (hdb := db_is_kind)
       case h2305 =>
        refine' acons ?h2303 ?h2304
        case h2303 =>
         exact rvN 0 no_is_letter
        case h2304 =>
         exact anil
      case h2307 =>
       refine' randv ?h2301 ?h2302
       case h2301 =>
        refine' rcallF F_is_word (hr.mono (by decide)) ?h2300 (hg := gl_is_letter_is_word) (hdb := db_is_word)
        case h2300 =>
         refine' acons ?h2298 ?h2299
         case h2298 =>
          exact rvN 0 no_is_letter
         case h2299 =>
          refine' acons ?h2296 ?h2297
          case h2296 =>
           exact rvN 1 no_is_letter
          case h2297 =>
           exact anil
       case h2302 =>
        refine' rone ?h2295
        case h2295 =>
         refine' rcallF F_is_text (hr.mono (by decide)) ?h2294 (hg := gl_is_letter_is_text) (hdb := db_is_text)
         case h2294 =>
          refine' acons ?h2292 ?h2293
          case h2292 =>
           exact rvN 2 no_is_letter
          case h2293 =>
           exact anil
  case len =>
    unfold sp_is_letter at h; obtain ⟨k, w, t, rfl, _⟩ := h; rfl
  case body =>
    unfold sp_is_letter at h
    obtain ⟨k, w, t, rfl, hk, hw, ht, h⟩ := h
    walk_at "rs"
    refine is_kind_do hk (do_kand (fun e => ?_) fun e => andF h e)
    walk_at "rs"
    refine is_word_do hk hw (do_kand (fun e2 => ?_) fun e2 => andF (andT h e) e2)
    walk_at "rs"
    exact is_text_do ht (andT (andT h e) e2)
theorem is_letter_do {M : RM} {k w t : RV} {Q : RVK} (hk : okP k) (hw : okP w) (ht : okP t) (h : Q (.bl (letterF k w t)) M) : sp_is_letter [k, w, t] M Q := by unfold sp_is_letter; exact ⟨k, w, t, rfl, hk, hw, ht, h⟩
@[irreducible] def sp_is_unrule : RSp := fun rs M Q => ∃ ps, rs = [.tup ps] ∧ AllP ps ∧ Q (.bl (tickF ps)) M
set_option maxHeartbeats 4000000 in
theorem fn_is_unrule {f : Addr} {fd : FuncData} (F : Fun K "is_unrule" "is_unrule" s_is_unrule f fd) (T : Txt P w K mg) (F_is_whole_within : RFn P w K mg base 2 "is_whole_within" ["thing", "least", "greatest"] sp_is_whole_within) : FnOk P w K mg base CX0 3 f fd ["parts"] (upSp K sp_is_unrule) := by
  refine' rfnok F sc_is_unrule (fun rs M Q h => ?len) (fun cdv A outer s H E hr => ?term) (fun rs M Q h => ?body)
  case term =>
    refine' sone ?h2328
    case h2328 =>
     refine' sret ?h2327
     case h2327 =>
      refine' randv ?h2325 ?h2326
      case h2325 =>
       refine' rcmp (oeq hr.units) ?h2323 ?h2324
       case h2323 =>
        refine' rcallB clen T.b_len bt_len ?h2322 (hg := gl_is_unrule_len) (hdb := db_len) (hn := nn_len)
        case h2322 =>
         refine' acons ?h2320 ?h2321
         case h2320 =>
          exact rvN 0 no_is_unrule
         case h2321 =>
          exact anil
       case h2324 =>
        exact ri
      case h2326 =>
       refine' rone ?h2319
       case h2319 =>
        refine' rcallF F_is_whole_within (hr.mono (by decide)) ?h2318 (hg := gl_is_unrule_is_whole_within) (hdb := db_is_whole_within)
        case h2318 =>
         refine' acons ?h2316 ?h2317
         case h2316 =>
          refine' rix ?h2314 ?h2315
          case h2314 =>
           exact rvN 0 no_is_unrule
          case h2315 =>
           exact ri
         case h2317 =>
          refine' acons ?h2312 ?h2313
          case h2312 =>
           exact ri
          case h2313 =>
           refine' acons ?h2310 ?h2311
           case h2310 =>
            exact rgi T.c_GREATEST_RULE (hg := gl_is_unrule_GREATEST_RULE) (hd := db_GREATEST_RULE)
           case h2311 =>
            exact anil
  case len =>
    unfold sp_is_unrule at h; obtain ⟨ps, rfl, _⟩ := h; rfl
  case body =>
    unfold sp_is_unrule at h
    obtain ⟨ps, rfl, hx, h⟩ := h
    walk_at "rs"
    refine do_kand (fun e => ?_) fun e => ?_
    · obtain ⟨a, rfl⟩ := len1 (eqLen e)
      obtain ⟨ha, _⟩ := hx
      walk_at "rs"
      refine do_kat at0 ?_
      walk_at "rs"
      exact within_do ha h
    · rw [tickF_no (eqLen' e)] at h
      exact h
theorem is_unrule_do {M : RM} {ps : List RV} {Q : RVK} (hx : AllP ps) (h : Q (.bl (tickF ps)) M) : sp_is_unrule [.tup ps] M Q := by unfold sp_is_unrule; exact ⟨ps, rfl, hx, h⟩
@[irreducible] def sp_is_out : RSp := fun rs M Q => ∃ ps, rs = [.tup ps] ∧ AllP ps ∧ Q (.bl (outF ps)) M
set_option maxHeartbeats 4000000 in
theorem fn_is_out {f : Addr} {fd : FuncData} (F : Fun K "is_out" "is_out" s_is_out f fd) (T : Txt P w K mg) (F_is_house : RFn P w K mg base 3 "is_house" ["thing"] sp_is_house) (F_is_door : RFn P w K mg base 3 "is_door" ["thing"] sp_is_door) (F_is_place : RFn P w K mg base 3 "is_place" ["thing"] sp_is_place) (F_is_letter : RFn P w K mg base 3 "is_letter" ["kind", "word", "text"] sp_is_letter) : FnOk P w K mg base CX0 4 f fd ["parts"] (upSp K sp_is_out) := by
  refine' rfnok F sc_is_out (fun rs M Q h => ?len) (fun cdv A outer s H E hr => ?term) (fun rs M Q h => ?body)
  case term =>
    refine' scons ?h2381 ?h2382
    case h2381 =>
     refine' sif ?h2378 ?h2379 ?h2380
     case h2378 =>
      refine' rtcmp (one hr.units) ?h2374 ?h2375
      case h2374 =>
       refine' rcallB clen T.b_len bt_len ?h2373 (hg := gl_is_out_len) (hdb := db_len) (hn := nn_len)
       case h2373 =>
        refine' acons ?h2371 ?h2372
        case h2371 =>
         exact rvN 0 no_is_out
        case h2372 =>
         exact anil
      case h2375 =>
       exact ri
     case h2379 =>
      refine' sone ?h2377
      case h2377 =>
       refine' sret ?h2376
       case h2376 =>
        exact rb
     case h2380 =>
      exact snil
    case h2382 =>
     refine' scons ?h2369 ?h2370
     case h2369 =>
      refine' sasg ?h2367 ?h2368
      case h2367 =>
       exact rvN 0 no_is_out
      case h2368 =>
       refine' gtup (is := [1, 2, 3, 4, 5, 6, 7]) rfl ?h2366
       case h2366 =>
        refine' pgs_cons (pgN 1 no_is_out) ?h2365
        case h2365 =>
         refine' pgs_cons (pgN 2 no_is_out) ?h2364
         case h2364 =>
          refine' pgs_cons (pgN 3 no_is_out) ?h2363
          case h2363 =>
           refine' pgs_cons (pgN 4 no_is_out) ?h2362
           case h2362 =>
            refine' pgs_cons (pgN 5 no_is_out) ?h2361
            case h2361 =>
             refine' pgs_cons (pgN 6 no_is_out) ?h2360
             case h2360 =>
              refine' pgs_cons (pgN 7 no_is_out) ?h2359
              case h2359 =>
               exact pgs_nil
     case h2370 =>
      refine' sone ?h2358
      case h2358 =>
       refine' sret ?h2357
       case h2357 =>
        refine' randv ?h2355 ?h2356
        case h2355 =>
         refine' rcallF F_is_house (hr.mono (by decide)) ?h2354 (hg := gl_is_out_is_house) (hdb := db_is_house)
         case h2354 =>
          refine' acons ?h2352 ?h2353
          case h2352 =>
           exact rvN 2 no_is_out
          case h2353 =>
           exact anil
        case h2356 =>
         refine' randv ?h2350 ?h2351
         case h2350 =>
          refine' rcallF F_is_door (hr.mono (by decide)) ?h2349 (hg := gl_is_out_is_door) (hdb := db_is_door)
          case h2349 =>
           refine' acons ?h2347 ?h2348
           case h2347 =>
            exact rvN 3 no_is_out
           case h2348 =>
            exact anil
         case h2351 =>
          refine' randv ?h2345 ?h2346
          case h2345 =>
           refine' rcallF F_is_place (hr.mono (by decide)) ?h2344 (hg := gl_is_out_is_place) (hdb := db_is_place)
           case h2344 =>
            refine' acons ?h2342 ?h2343
            case h2342 =>
             exact rvN 4 no_is_out
            case h2343 =>
             exact anil
          case h2346 =>
           refine' randv ?h2340 ?h2341
           case h2340 =>
            refine' rcallF F_is_door (hr.mono (by decide)) ?h2339 (hg := gl_is_out_is_door) (hdb := db_is_door)
            case h2339 =>
             refine' acons ?h2337 ?h2338
             case h2337 =>
              exact rvN 5 no_is_out
             case h2338 =>
              exact anil
           case h2341 =>
            refine' rone ?h2336
            case h2336 =>
             refine' rcallF F_is_letter (hr.mono (by decide)) ?h2335 (hg := gl_is_out_is_letter) (hdb := db_is_letter)
             case h2335 =>
              refine' acons ?h2333 ?h2334
              case h2333 =>
               exact rvN 1 no_is_out
              case h2334 =>
               refine' acons ?h2331 ?h2332
               case h2331 =>
                exact rvN 6 no_is_out
               case h2332 =>
                refine' acons ?h2329 ?h2330
                case h2329 =>
                 exact rvN 7 no_is_out
                case h2330 =>
                 exact anil
  case len =>
    unfold sp_is_out at h; obtain ⟨ps, rfl, _⟩ := h; rfl
  case body =>
    unfold sp_is_out at h
    obtain ⟨ps, rfl, hx, h⟩ := h
    walk_at "rs"
    refine do_kB (fun e => ?_) fun e => ?_
    · walk_at "rs"
      rw [outF_no (neLen' e)] at h
      exact h
    · obtain ⟨k, h0, d, p, f, w, t, rfl⟩ := len7 (neLen e)
      obtain ⟨hk, hh0, hd, hp, hf, hw, ht, _⟩ := hx
      walk_at "rs"
      refine is_house_do hh0 (do_kand (fun e0 => ?_) fun e0 => andF (h) e0)
      walk_at "rs"
      refine is_door_do hd (do_kand (fun e1 => ?_) fun e1 => andF (andT (h) e0) e1)
      walk_at "rs"
      refine is_place_do hp (do_kand (fun e2 => ?_) fun e2 => andF (andT (andT (h) e0) e1) e2)
      walk_at "rs"
      refine is_door_do hf (do_kand (fun e3 => ?_) fun e3 => andF (andT (andT (andT (h) e0) e1) e2) e3)
      walk_at "rs"
      exact is_letter_do hk hw ht (andT (andT (andT (andT (h) e0) e1) e2) e3)
theorem is_out_do {M : RM} {ps : List RV} {Q : RVK} (hx : AllP ps) (h : Q (.bl (outF ps)) M) : sp_is_out [.tup ps] M Q := by unfold sp_is_out; exact ⟨ps, rfl, hx, h⟩
@[irreducible] def sp_is_come : RSp := fun rs M Q => ∃ ps, rs = [.tup ps] ∧ AllP ps ∧ Q (.bl (comeF ps)) M
set_option maxHeartbeats 4000000 in
theorem fn_is_come {f : Addr} {fd : FuncData} (F : Fun K "is_come" "is_come" s_is_come f fd) (T : Txt P w K mg) (F_is_door : RFn P w K mg base 3 "is_door" ["thing"] sp_is_door) (F_is_outer_place : RFn P w K mg base 3 "is_outer_place" ["thing"] sp_is_outer_place) (F_is_letter : RFn P w K mg base 3 "is_letter" ["kind", "word", "text"] sp_is_letter) : FnOk P w K mg base CX0 4 f fd ["parts"] (upSp K sp_is_come) := by
  refine' rfnok F sc_is_come (fun rs M Q h => ?len) (fun cdv A outer s H E hr => ?term) (fun rs M Q h => ?body)
  case term =>
    refine' scons ?h2429 ?h2430
    case h2429 =>
     refine' sif ?h2426 ?h2427 ?h2428
     case h2426 =>
      refine' rtcmp (one hr.units) ?h2422 ?h2423
      case h2422 =>
       refine' rcallB clen T.b_len bt_len ?h2421 (hg := gl_is_come_len) (hdb := db_len) (hn := nn_len)
       case h2421 =>
        refine' acons ?h2419 ?h2420
        case h2419 =>
         exact rvN 0 no_is_come
        case h2420 =>
         exact anil
      case h2423 =>
       exact ri
     case h2427 =>
      refine' sone ?h2425
      case h2425 =>
       refine' sret ?h2424
       case h2424 =>
        exact rb
     case h2428 =>
      exact snil
    case h2430 =>
     refine' scons ?h2417 ?h2418
     case h2417 =>
      refine' sasg ?h2415 ?h2416
      case h2415 =>
       exact rvN 0 no_is_come
      case h2416 =>
       refine' gtup (is := [1, 2, 3, 4, 5, 6]) rfl ?h2414
       case h2414 =>
        refine' pgs_cons (pgN 1 no_is_come) ?h2413
        case h2413 =>
         refine' pgs_cons (pgN 2 no_is_come) ?h2412
         case h2412 =>
          refine' pgs_cons (pgN 3 no_is_come) ?h2411
          case h2411 =>
           refine' pgs_cons (pgN 4 no_is_come) ?h2410
           case h2410 =>
            refine' pgs_cons (pgN 5 no_is_come) ?h2409
            case h2409 =>
             refine' pgs_cons (pgN 6 no_is_come) ?h2408
             case h2408 =>
              exact pgs_nil
     case h2418 =>
      refine' sone ?h2407
      case h2407 =>
       refine' sret ?h2406
       case h2406 =>
        refine' randv ?h2404 ?h2405
        case h2404 =>
         refine' rcallF F_is_outer_place (hr.mono (by decide)) ?h2403 (hg := gl_is_come_is_outer_place) (hdb := db_is_outer_place)
         case h2403 =>
          refine' acons ?h2401 ?h2402
          case h2401 =>
           exact rvN 2 no_is_come
          case h2402 =>
           exact anil
        case h2405 =>
         refine' randv ?h2399 ?h2400
         case h2399 =>
          refine' rcallF F_is_door (hr.mono (by decide)) ?h2398 (hg := gl_is_come_is_door) (hdb := db_is_door)
          case h2398 =>
           refine' acons ?h2396 ?h2397
           case h2396 =>
            exact rvN 3 no_is_come
           case h2397 =>
            exact anil
         case h2400 =>
          refine' randv ?h2394 ?h2395
          case h2394 =>
           refine' rcallF F_is_door (hr.mono (by decide)) ?h2393 (hg := gl_is_come_is_door) (hdb := db_is_door)
           case h2393 =>
            refine' acons ?h2391 ?h2392
            case h2391 =>
             exact rvN 4 no_is_come
            case h2392 =>
             exact anil
          case h2395 =>
           refine' rone ?h2390
           case h2390 =>
            refine' rcallF F_is_letter (hr.mono (by decide)) ?h2389 (hg := gl_is_come_is_letter) (hdb := db_is_letter)
            case h2389 =>
             refine' acons ?h2387 ?h2388
             case h2387 =>
              exact rvN 1 no_is_come
             case h2388 =>
              refine' acons ?h2385 ?h2386
              case h2385 =>
               exact rvN 5 no_is_come
              case h2386 =>
               refine' acons ?h2383 ?h2384
               case h2383 =>
                exact rvN 6 no_is_come
               case h2384 =>
                exact anil
  case len =>
    unfold sp_is_come at h; obtain ⟨ps, rfl, _⟩ := h; rfl
  case body =>
    unfold sp_is_come at h
    obtain ⟨ps, rfl, hx, h⟩ := h
    walk_at "rs"
    refine do_kB (fun e => ?_) fun e => ?_
    · walk_at "rs"
      rw [comeF_no (neLen' e)] at h
      exact h
    · obtain ⟨k, p, f, n, w, t, rfl⟩ := len6 (neLen e)
      obtain ⟨hk, hp, hf, hn, hw, ht, _⟩ := hx
      walk_at "rs"
      refine is_outer_place_do hp (do_kand (fun e0 => ?_) fun e0 => andF (h) e0)
      walk_at "rs"
      refine is_door_do hf (do_kand (fun e1 => ?_) fun e1 => andF (andT (h) e0) e1)
      walk_at "rs"
      refine is_door_do hn (do_kand (fun e2 => ?_) fun e2 => andF (andT (andT (h) e0) e1) e2)
      walk_at "rs"
      exact is_letter_do hk hw ht (andT (andT (andT (h) e0) e1) e2)
theorem is_come_do {M : RM} {ps : List RV} {Q : RVK} (hx : AllP ps) (h : Q (.bl (comeF ps)) M) : sp_is_come [.tup ps] M Q := by unfold sp_is_come; exact ⟨ps, rfl, hx, h⟩
@[irreducible] def sp_is_lost : RSp := fun rs M Q => ∃ ps, rs = [.tup ps] ∧ AllP ps ∧ Q (.bl (lostF ps)) M
set_option maxHeartbeats 4000000 in
theorem fn_is_lost {f : Addr} {fd : FuncData} (F : Fun K "is_lost" "is_lost" s_is_lost f fd) (T : Txt P w K mg) (F_is_door : RFn P w K mg base 3 "is_door" ["thing"] sp_is_door) (F_is_outer_place : RFn P w K mg base 3 "is_outer_place" ["thing"] sp_is_outer_place) (F_is_kind : RFn P w K mg base 1 "is_kind" ["thing"] sp_is_kind) : FnOk P w K mg base CX0 4 f fd ["parts"] (upSp K sp_is_lost) := by
  refine' rfnok F sc_is_lost (fun rs M Q h => ?len) (fun cdv A outer s H E hr => ?term) (fun rs M Q h => ?body)
  case term =>
    refine' scons ?h2477 ?h2478
    case h2477 =>
     refine' sif ?h2474 ?h2475 ?h2476
     case h2474 =>
      refine' rtcmp (one hr.units) ?h2470 ?h2471
      case h2470 =>
       refine' rcallB clen T.b_len bt_len ?h2469 (hg := gl_is_lost_len) (hdb := db_len) (hn := nn_len)
       case h2469 =>
        refine' acons ?h2467 ?h2468
        case h2467 =>
         exact rvN 0 no_is_lost
        case h2468 =>
         exact anil
      case h2471 =>
       exact ri
     case h2475 =>
      refine' sone ?h2473
      case h2473 =>
       refine' sret ?h2472
       case h2472 =>
        exact rb
     case h2476 =>
      exact snil
    case h2478 =>
     refine' scons ?h2465 ?h2466
     case h2465 =>
      refine' sasg ?h2463 ?h2464
      case h2463 =>
       exact rvN 0 no_is_lost
      case h2464 =>
       refine' gtup (is := [1, 2, 3, 4, 5]) rfl ?h2462
       case h2462 =>
        refine' pgs_cons (pgN 1 no_is_lost) ?h2461
        case h2461 =>
         refine' pgs_cons (pgN 2 no_is_lost) ?h2460
         case h2460 =>
          refine' pgs_cons (pgN 3 no_is_lost) ?h2459
          case h2459 =>
           refine' pgs_cons (pgN 4 no_is_lost) ?h2458
           case h2458 =>
            refine' pgs_cons (pgN 5 no_is_lost) ?h2457
            case h2457 =>
             exact pgs_nil
     case h2466 =>
      refine' sone ?h2456
      case h2456 =>
       refine' sret ?h2455
       case h2455 =>
        refine' randv ?h2453 ?h2454
        case h2453 =>
         refine' rcallF F_is_outer_place (hr.mono (by decide)) ?h2452 (hg := gl_is_lost_is_outer_place) (hdb := db_is_outer_place)
         case h2452 =>
          refine' acons ?h2450 ?h2451
          case h2450 =>
           exact rvN 1 no_is_lost
          case h2451 =>
           exact anil
        case h2454 =>
         refine' randv ?h2448 ?h2449
         case h2448 =>
          refine' rcallF F_is_kind (hr.mono (by decide)) ?h2447 (hg := gl_is_lost_is_kind) (hdb := db_is_kind)
          case h2447 =>
           refine' acons ?h2445 ?h2446
           case h2445 =>
            exact rvN 2 no_is_lost
           case h2446 =>
            exact anil
         case h2449 =>
          refine' randv ?h2443 ?h2444
          case h2443 =>
           refine' rcallF F_is_door (hr.mono (by decide)) ?h2442 (hg := gl_is_lost_is_door) (hdb := db_is_door)
           case h2442 =>
            refine' acons ?h2440 ?h2441
            case h2440 =>
             exact rvN 3 no_is_lost
            case h2441 =>
             exact anil
          case h2444 =>
           refine' randv ?h2438 ?h2439
           case h2438 =>
            refine' rcallF F_is_outer_place (hr.mono (by decide)) ?h2437 (hg := gl_is_lost_is_outer_place) (hdb := db_is_outer_place)
            case h2437 =>
             refine' acons ?h2435 ?h2436
             case h2435 =>
              exact rvN 4 no_is_lost
             case h2436 =>
              exact anil
           case h2439 =>
            refine' rone ?h2434
            case h2434 =>
             refine' rcallF F_is_door (hr.mono (by decide)) ?h2433 (hg := gl_is_lost_is_door) (hdb := db_is_door)
             case h2433 =>
              refine' acons ?h2431 ?h2432
              case h2431 =>
               exact rvN 5 no_is_lost
              case h2432 =>
               exact anil
  case len =>
    unfold sp_is_lost at h; obtain ⟨ps, rfl, _⟩ := h; rfl
  case body =>
    unfold sp_is_lost at h
    obtain ⟨ps, rfl, hx, h⟩ := h
    walk_at "rs"
    refine do_kB (fun e => ?_) fun e => ?_
    · walk_at "rs"
      rw [lostF_no (neLen' e)] at h
      exact h
    · obtain ⟨t, k, n, p, f, rfl⟩ := len5 (neLen e)
      obtain ⟨ht, hk, hn, hp, hf, _⟩ := hx
      walk_at "rs"
      refine is_outer_place_do ht (do_kand (fun e0 => ?_) fun e0 => andF (h) e0)
      walk_at "rs"
      refine is_kind_do hk (do_kand (fun e1 => ?_) fun e1 => andF (andT (h) e0) e1)
      walk_at "rs"
      refine is_door_do hn (do_kand (fun e2 => ?_) fun e2 => andF (andT (andT (h) e0) e1) e2)
      walk_at "rs"
      refine is_outer_place_do hp (do_kand (fun e3 => ?_) fun e3 => andF (andT (andT (andT (h) e0) e1) e2) e3)
      walk_at "rs"
      exact is_door_do hf (andT (andT (andT (andT (h) e0) e1) e2) e3)
theorem is_lost_do {M : RM} {ps : List RV} {Q : RVK} (hx : AllP ps) (h : Q (.bl (lostF ps)) M) : sp_is_lost [.tup ps] M Q := by unfold sp_is_lost; exact ⟨ps, rfl, hx, h⟩
@[irreducible] def sp_is_wait : RSp := fun rs M Q => ∃ ps, rs = [.tup ps] ∧ AllP ps ∧ Q (.bl (tickF ps)) M
set_option maxHeartbeats 4000000 in
theorem fn_is_wait {f : Addr} {fd : FuncData} (F : Fun K "is_wait" "is_wait" s_is_wait f fd) (T : Txt P w K mg) (F_is_ticks : RFn P w K mg base 3 "is_ticks" ["thing"] sp_is_ticks) : FnOk P w K mg base CX0 4 f fd ["parts"] (upSp K sp_is_wait) := by
  refine' rfnok F sc_is_wait (fun rs M Q h => ?len) (fun cdv A outer s H E hr => ?term) (fun rs M Q h => ?body)
  case term =>
    refine' sone ?h2493
    case h2493 =>
     refine' sret ?h2492
     case h2492 =>
      refine' randv ?h2490 ?h2491
      case h2490 =>
       refine' rcmp (oeq hr.units) ?h2488 ?h2489
       case h2488 =>
        refine' rcallB clen T.b_len bt_len ?h2487 (hg := gl_is_wait_len) (hdb := db_len) (hn := nn_len)
        case h2487 =>
         refine' acons ?h2485 ?h2486
         case h2485 =>
          exact rvN 0 no_is_wait
         case h2486 =>
          exact anil
       case h2489 =>
        exact ri
      case h2491 =>
       refine' rone ?h2484
       case h2484 =>
        refine' rcallF F_is_ticks (hr.mono (by decide)) ?h2483 (hg := gl_is_wait_is_ticks) (hdb := db_is_ticks)
        case h2483 =>
         refine' acons ?h2481 ?h2482
         case h2481 =>
          refine' rix ?h2479 ?h2480
          case h2479 =>
           exact rvN 0 no_is_wait
          case h2480 =>
           exact ri
         case h2482 =>
          exact anil
  case len =>
    unfold sp_is_wait at h; obtain ⟨ps, rfl, _⟩ := h; rfl
  case body =>
    unfold sp_is_wait at h
    obtain ⟨ps, rfl, hx, h⟩ := h
    walk_at "rs"
    refine do_kand (fun e => ?_) fun e => ?_
    · obtain ⟨a, rfl⟩ := len1 (eqLen e)
      obtain ⟨ha, _⟩ := hx
      walk_at "rs"
      refine do_kat at0 ?_
      walk_at "rs"
      exact is_ticks_do ha h
    · rw [tickF_no (eqLen' e)] at h
      exact h
theorem is_wait_do {M : RM} {ps : List RV} {Q : RVK} (hx : AllP ps) (h : Q (.bl (tickF ps)) M) : sp_is_wait [.tup ps] M Q := by unfold sp_is_wait; exact ⟨ps, rfl, hx, h⟩
@[irreducible] def sp_is_rule : RSp := fun rs M Q => ∃ ps, rs = [.tup ps] ∧ AllP ps ∧ Q (.bl (ruleF ps)) M
set_option maxHeartbeats 4000000 in
theorem fn_is_rule {f : Addr} {fd : FuncData} (F : Fun K "is_rule" "is_rule" s_is_rule f fd) (T : Txt P w K mg) (F_is_house : RFn P w K mg base 3 "is_house" ["thing"] sp_is_house) (F_is_door : RFn P w K mg base 3 "is_door" ["thing"] sp_is_door) (F_is_place : RFn P w K mg base 3 "is_place" ["thing"] sp_is_place) (F_is_kind : RFn P w K mg base 1 "is_kind" ["thing"] sp_is_kind) : FnOk P w K mg base CX0 4 f fd ["parts"] (upSp K sp_is_rule) := by
  refine' rfnok F sc_is_rule (fun rs M Q h => ?len) (fun cdv A outer s H E hr => ?term) (fun rs M Q h => ?body)
  case term =>
    refine' scons ?h2553 ?h2554
    case h2553 =>
     refine' sif ?h2550 ?h2551 ?h2552
     case h2550 =>
      refine' rtcmp (one hr.units) ?h2546 ?h2547
      case h2546 =>
       refine' rcallB clen T.b_len bt_len ?h2545 (hg := gl_is_rule_len) (hdb := db_len) (hn := nn_len)
       case h2545 =>
        refine' acons ?h2543 ?h2544
        case h2543 =>
         exact rvN 0 no_is_rule
        case h2544 =>
         exact anil
      case h2547 =>
       exact ri
     case h2551 =>
      refine' sone ?h2549
      case h2549 =>
       refine' sret ?h2548
       case h2548 =>
        exact rb
     case h2552 =>
      exact snil
    case h2554 =>
     refine' scons ?h2541 ?h2542
     case h2541 =>
      refine' sasg ?h2539 ?h2540
      case h2539 =>
       exact rvN 0 no_is_rule
      case h2540 =>
       refine' gtup (is := [1, 2, 3, 4, 5]) rfl ?h2538
       case h2538 =>
        refine' pgs_cons (pgN 1 no_is_rule) ?h2537
        case h2537 =>
         refine' pgs_cons (pgN 2 no_is_rule) ?h2536
         case h2536 =>
          refine' pgs_cons (pgN 3 no_is_rule) ?h2535
          case h2535 =>
           refine' pgs_cons (pgN 4 no_is_rule) ?h2534
           case h2534 =>
            refine' pgs_cons (pgN 5 no_is_rule) ?h2533
            case h2533 =>
             exact pgs_nil
     case h2542 =>
      refine' scons ?h2531 ?h2532
      case h2531 =>
       refine' sif ?h2528 ?h2529 ?h2530
       case h2528 =>
        refine' rtw ?h2525
        case h2525 =>
         refine' rand ?h2523 ?h2524
         case h2523 =>
          refine' rtcmp oisnot ?h2521 ?h2522
          case h2521 =>
           exact rvN 3 no_is_rule
          case h2522 =>
           exact rn
         case h2524 =>
          refine' rand1 ?h2520
          case h2520 =>
           refine' rtnot ?h2519
           case h2519 =>
            refine' rtval ?h2518
            case h2518 =>
             refine' rcallF F_is_place (hr.mono (by decide)) ?h2517 (hg := gl_is_rule_is_place) (hdb := db_is_place)
             case h2517 =>
              refine' acons ?h2515 ?h2516
              case h2515 =>
               exact rvN 3 no_is_rule
              case h2516 =>
               exact anil
       case h2529 =>
        refine' sone ?h2527
        case h2527 =>
         refine' sret ?h2526
         case h2526 =>
          exact rb
       case h2530 =>
        exact snil
      case h2532 =>
       refine' sone ?h2514
       case h2514 =>
        refine' sret ?h2513
        case h2513 =>
         refine' randv ?h2511 ?h2512
         case h2511 =>
          refine' rcallF F_is_kind (hr.mono (by decide)) ?h2510 (hg := gl_is_rule_is_kind) (hdb := db_is_kind)
          case h2510 =>
           refine' acons ?h2508 ?h2509
           case h2508 =>
            exact rvN 1 no_is_rule
           case h2509 =>
            exact anil
         case h2512 =>
          refine' randv ?h2506 ?h2507
          case h2506 =>
           refine' rcallF F_is_door (hr.mono (by decide)) ?h2505 (hg := gl_is_rule_is_door) (hdb := db_is_door)
           case h2505 =>
            refine' acons ?h2503 ?h2504
            case h2503 =>
             exact rvN 2 no_is_rule
            case h2504 =>
             exact anil
          case h2507 =>
           refine' randv ?h2501 ?h2502
           case h2501 =>
            refine' rcallF F_is_house (hr.mono (by decide)) ?h2500 (hg := gl_is_rule_is_house) (hdb := db_is_house)
            case h2500 =>
             refine' acons ?h2498 ?h2499
             case h2498 =>
              exact rvN 4 no_is_rule
             case h2499 =>
              exact anil
           case h2502 =>
            refine' rone ?h2497
            case h2497 =>
             refine' rcallF F_is_door (hr.mono (by decide)) ?h2496 (hg := gl_is_rule_is_door) (hdb := db_is_door)
             case h2496 =>
              refine' acons ?h2494 ?h2495
              case h2494 =>
               exact rvN 5 no_is_rule
              case h2495 =>
               exact anil
  case len =>
    unfold sp_is_rule at h; obtain ⟨ps, rfl, _⟩ := h; rfl
  case body =>
    unfold sp_is_rule at h
    obtain ⟨ps, rfl, hx, h⟩ := h
    walk_at "rs"
    refine do_kB (fun e => ?_) fun e => ?_
    · walk_at "rs"
      rw [ruleF_no (neLen' e)] at h
      exact h
    · obtain ⟨k, n, p, h0, d, rfl⟩ := len5 (neLen e)
      obtain ⟨hk, hn, hp, hh0, hd, _⟩ := hx
      walk_at "rs"
      refine do_kB (fun e1 => ?_) fun e1 => ?_
      · walk_at "rs"
        refine is_place_do hp ?_
        walk_at "rs"
        refine do_kB (fun e2 => ?_) fun e2 => ?_
        · walk_at "rs"
          exact andF h (by simp at e1 e2; simp [e1, e2])
        · walk_at "rs"
          replace h := andT h (by simp at e1 e2; simp [e1, e2])
          refine is_kind_do hk (do_kand (fun e0 => ?_) fun e0 => andF (h) e0)
          walk_at "rs"
          refine is_door_do hn (do_kand (fun e1 => ?_) fun e1 => andF (andT (h) e0) e1)
          walk_at "rs"
          refine is_house_do hh0 (do_kand (fun e2 => ?_) fun e2 => andF (andT (andT (h) e0) e1) e2)
          walk_at "rs"
          exact is_door_do hd (andT (andT (andT (h) e0) e1) e2)
      · walk_at "rs"
        replace h := andT h (by simp at e1; simp [e1])
        refine is_kind_do hk (do_kand (fun e0 => ?_) fun e0 => andF (h) e0)
        walk_at "rs"
        refine is_door_do hn (do_kand (fun e1 => ?_) fun e1 => andF (andT (h) e0) e1)
        walk_at "rs"
        refine is_house_do hh0 (do_kand (fun e2 => ?_) fun e2 => andF (andT (andT (h) e0) e1) e2)
        walk_at "rs"
        exact is_door_do hd (andT (andT (andT (h) e0) e1) e2)
theorem is_rule_do {M : RM} {ps : List RV} {Q : RVK} (hx : AllP ps) (h : Q (.bl (ruleF ps)) M) : sp_is_rule [.tup ps] M Q := by unfold sp_is_rule; exact ⟨ps, rfl, hx, h⟩
@[irreducible] def sp_is_deed : RSp := fun rs M Q => ∃ x, rs = [x] ∧ okT x ∧ Q (.bl (deedF x)) M
set_option maxHeartbeats 4000000 in
theorem fn_is_deed {f : Addr} {fd : FuncData} (F : Fun K "is_deed" "is_deed" s_is_deed f fd) (T : Txt P w K mg) (F_is_out : RFn P w K mg base 4 "is_out" ["parts"] sp_is_out) (F_is_come : RFn P w K mg base 4 "is_come" ["parts"] sp_is_come) (F_is_lost : RFn P w K mg base 4 "is_lost" ["parts"] sp_is_lost) (F_is_wait : RFn P w K mg base 4 "is_wait" ["parts"] sp_is_wait) (F_is_rule : RFn P w K mg base 4 "is_rule" ["parts"] sp_is_rule) (F_is_unrule : RFn P w K mg base 3 "is_unrule" ["parts"] sp_is_unrule) (F_name_of : RFn P w K mg base 1 "name_of" ["thing"] sp_name_of) : FnOk P w K mg base CX0 5 f fd ["thing"] (upSp K sp_is_deed) := by
  obtain ⟨f0, f1, f2, f3, f4, f5, m0, m1, m2, m3, m4, m5, tD⟩ := T.c_DEEDS; obtain ⟨fd0, k0, b0, F0⟩ := F_is_out.at m0; obtain ⟨fd1, k1, b1, F1⟩ := F_is_come.at m1; obtain ⟨fd2, k2, b2, F2⟩ := F_is_lost.at m2; obtain ⟨fd3, k3, b3, F3⟩ := F_is_wait.at m3; obtain ⟨fd4, k4, b4, F4⟩ := F_is_rule.at m4; obtain ⟨fd5, k5, b5, F5⟩ := F_is_unrule.at m5
  refine' rfnok F sc_is_deed (fun rs M Q h => ?len) (fun cdv A outer s H E hr => ?term) (fun rs M Q h => ?body)
  case term =>
    refine' scons ?h2581 ?h2582
    case h2581 =>
     refine' ssetN 1 no_is_deed ?h2580
     case h2580 =>
      refine' rcallF F_name_of (hr.mono (by decide)) ?h2579 (hg := gl_is_deed_name_of) (hdb := db_name_of)
      case h2579 =>
       refine' acons ?h2577 ?h2578
       case h2577 =>
        exact rvN 0 no_is_deed
       case h2578 =>
        exact anil
    case h2582 =>
     refine' scons ?h2575 ?h2576
     case h2575 =>
      refine' sif ?h2572 ?h2573 ?h2574
      case h2572 =>
       refine' rttabnotN tD ?h2569 (hg := gl_is_deed_DEEDS) (hd := db_DEEDS)
       case h2569 =>
        exact rvN 1 no_is_deed
      case h2573 =>
       refine' sone ?h2571
       case h2571 =>
        refine' sret ?h2570
        case h2570 =>
         exact rb
      case h2574 =>
       exact snil
     case h2576 =>
      refine' scons ?h2567 ?h2568
      case h2567 =>
       refine' ssetN 2 no_is_deed ?h2566
       case h2566 =>
        refine' rtab tD ?h2565 (hg := gl_is_deed_DEEDS) (hd := db_DEEDS)
        case h2565 =>
         exact rvN 1 no_is_deed
      case h2568 =>
       refine' sone ?h2564
       case h2564 =>
        refine' sret ?h2563
        case h2563 =>
         refine' rcallV [(f0, sp_is_out), (f1, sp_is_come), (f2, sp_is_lost), (f3, sp_is_wait), (f4, sp_is_rule), (f5, sp_is_unrule)] (by intro q hq; simp only [List.mem_cons, List.not_mem_nil, or_false] at hq; rcases hq with rfl | rfl | rfl | rfl | rfl | rfl <;> first | exact ⟨_, _, _, hr.mono (by decide), k0, b0, F0⟩ | exact ⟨_, _, _, hr.mono (by decide), k1, b1, F1⟩ | exact ⟨_, _, _, hr.mono (by decide), k2, b2, F2⟩ | exact ⟨_, _, _, hr.mono (by decide), k3, b3, F3⟩ | exact ⟨_, _, _, hr.mono (by decide), k4, b4, F4⟩ | exact ⟨_, _, _, hr.mono (by decide), k5, b5, F5⟩) ?h2561 ?h2562
         case h2561 =>
          exact rvN 2 no_is_deed
         case h2562 =>
          refine' acons ?h2559 ?h2560
          case h2559 =>
           refine' rsl ?h2556 ?h2557 ?h2558
           case h2556 =>
            exact rvN 0 no_is_deed
           case h2557 =>
            refine' psome ?h2555
            case h2555 =>
             exact ri
           case h2558 =>
            exact pnone
          case h2560 =>
           exact anil
  case len =>
    unfold sp_is_deed at h; obtain ⟨x, rfl, _⟩ := h; rfl
  case body =>
    unfold sp_is_deed at h
    obtain ⟨x, rfl, hx, h⟩ := h
    walk_at "rs"
    cases x with
    | tup xs =>
      cases xs with
      | nil => (refine name_of_do hx ?_; walk_at "rs"; refine do_ktabnotN0 ?_; walk_at "rs"; exact h)
      | cons y ps =>
        cases y with
        | str n =>
          have hxs := hx.2 _ rfl
          refine name_of_do hx ?_
          walk_at "rs"
          refine do_ktabnotN ?_
          walk_at "rs"
          by_cases n_out : n = "out"
          · subst n_out
            rw [show deedF (.tup (.str "out" :: ps)) = outF ps from by_out] at h
            refine do_kF' (by rw [lkD_out]; rfl) ?_
            walk_at "rs"
            refine do_ktab rfl lkD_out ?_
            walk_at "rs"
            refine do_kcallV (sp := sp_is_out) (by simp) ?_
            walk_at "rs"
            rw [cut1]
            exact is_out_do hxs.2 h
          by_cases n_come : n = "come"
          · subst n_come
            rw [show deedF (.tup (.str "come" :: ps)) = comeF ps from by_come] at h
            refine do_kF' (by rw [lkD_come]; rfl) ?_
            walk_at "rs"
            refine do_ktab rfl lkD_come ?_
            walk_at "rs"
            refine do_kcallV (sp := sp_is_come) (by simp) ?_
            walk_at "rs"
            rw [cut1]
            exact is_come_do hxs.2 h
          by_cases n_lost : n = "lost"
          · subst n_lost
            rw [show deedF (.tup (.str "lost" :: ps)) = lostF ps from by_lost] at h
            refine do_kF' (by rw [lkD_lost]; rfl) ?_
            walk_at "rs"
            refine do_ktab rfl lkD_lost ?_
            walk_at "rs"
            refine do_kcallV (sp := sp_is_lost) (by simp) ?_
            walk_at "rs"
            rw [cut1]
            exact is_lost_do hxs.2 h
          by_cases n_wait : n = "wait"
          · subst n_wait
            rw [show deedF (.tup (.str "wait" :: ps)) = tickF ps from by_wait] at h
            refine do_kF' (by rw [lkD_wait]; rfl) ?_
            walk_at "rs"
            refine do_ktab rfl lkD_wait ?_
            walk_at "rs"
            refine do_kcallV (sp := sp_is_wait) (by simp) ?_
            walk_at "rs"
            rw [cut1]
            exact is_wait_do hxs.2 h
          by_cases n_rule : n = "rule"
          · subst n_rule
            rw [show deedF (.tup (.str "rule" :: ps)) = ruleF ps from by_rule] at h
            refine do_kF' (by rw [lkD_rule]; rfl) ?_
            walk_at "rs"
            refine do_ktab rfl lkD_rule ?_
            walk_at "rs"
            refine do_kcallV (sp := sp_is_rule) (by simp) ?_
            walk_at "rs"
            rw [cut1]
            exact is_rule_do hxs.2 h
          by_cases n_unrule : n = "unrule"
          · subst n_unrule
            rw [show deedF (.tup (.str "unrule" :: ps)) = tickF ps from by_unrule] at h
            refine do_kF' (by rw [lkD_unrule]; rfl) ?_
            walk_at "rs"
            refine do_ktab rfl lkD_unrule ?_
            walk_at "rs"
            refine do_kcallV (sp := sp_is_unrule) (by simp) ?_
            walk_at "rs"
            rw [cut1]
            exact is_unrule_do hxs.2 h
      
          rw [show deedF (.tup (.str n :: ps)) = false from by_no n_out n_come n_lost n_wait n_rule n_unrule] at h
          refine do_kT' (by rw [lkD_no n_out n_come n_lost n_wait n_rule n_unrule]; rfl) ?_
          walk_at "rs"
          exact h
        | _ => (refine name_of_do hx ?_; walk_at "rs"; refine do_ktabnotN0 ?_; walk_at "rs"; exact h)
    | _ => (refine name_of_do hx ?_; walk_at "rs"; refine do_ktabnotN0 ?_; walk_at "rs"; exact h)
theorem is_deed_do {M : RM} {x : RV} {Q : RVK} (hx : okT x) (h : Q (.bl (deedF x)) M) : sp_is_deed [x] M Q := by unfold sp_is_deed; exact ⟨x, rfl, hx, h⟩
end
end K02

set_option Elab.async false
set_option linter.all false
set_option maxRecDepth 100000
namespace K02
open PySem PySem.Spec PyProof.Rows L2 R
section
variable {P : Program} {w : World} {K : PySem.W.Frag} {mg : Str → Option Value} {base : Heap}
local macro_rules | `(tactic| walk_at "rs1") => `(tactic| first | ((with_reducible refine' do_norm ?_ ?_); rotate_left; simp only [List.set_cons_succ, List.set_cons_zero]; exact rfl) | ((with_reducible refine' do_normU ?_ ?_); rotate_left; simp only [setAll, List.set_cons_succ, List.set_cons_zero]; exact rfl) | ((with_reducible refine' do_var ?_ ?_); rotate_left; exact rfl) | with_reducible refine do_c ?_ | with_reducible refine do_tab ?_ | with_reducible refine do_op ?_ | with_reducible refine do_seq ?_ | with_reducible refine do_set ?_ | with_reducible refine do_cons ?_ | with_reducible refine do_nil ?_ | with_reducible refine do_call ?_ | with_reducible refine do_ifs ?_ | with_reducible refine do_test ?_ | with_reducible refine do_ktest ?_ | with_reducible refine do_kT ?_ | with_reducible refine do_kF ?_ | with_reducible refine do_knT ?_ | with_reducible refine do_knF ?_ | with_reducible refine do_and ?_ | with_reducible refine do_or ?_ | with_reducible refine do_not ?_ | with_reducible refine do_if ?_ | with_reducible refine do_un ?_ | with_reducible refine do_chain ?_ | with_reducible refine do_kchT ?_ | with_reducible refine do_kchF ?_ | with_reducible refine do_tup ?_ | with_reducible refine do_lsf ?_ | with_reducible refine do_lst ?_ | ((with_reducible refine' do_size ?_ ?_); exact rfl) | with_reducible refine do_next ?_ | with_reducible refine do_ret ?_ | with_reducible refine do_retN ?_ | with_reducible refine do_drop ?_ | with_reducible refine do_asg ?_ | with_reducible refine do_gN ?_ | ((with_reducible refine' do_gU ?_ ?_); exact rfl) | with_reducible refine do_gSub ?_ | with_reducible refine do_forI ?_ | with_reducible refine do_itS ?_ | with_reducible refine do_kits_t ?_ | with_reducible refine do_kits_l ?_ | with_reducible refine do_itR ?_ | with_reducible refine do_forNil ?_ | with_reducible refine do_forCons ?_ | with_reducible refine do_comp ?_ | with_reducible refine do_compNil ?_ | with_reducible refine do_compYes ?_ | with_reducible refine do_compT ?_ | with_reducible refine do_sl ?_ | with_reducible refine do_noP ?_ | with_reducible refine do_part ?_ | with_reducible refine do_kpart ?_ | with_reducible refine do_slT ?_ | with_reducible refine do_slL ?_ | with_reducible refine do_int0 ?_ | with_reducible refine do_addI ?_ | ((with_reducible refine' do_addT ?_ ?_); exact rfl) | ((with_reducible refine' do_addL ?_ ?_); exact rfl) | ((with_reducible refine' do_eq ?_ ?_ ?_); exact rfl; exact rfl) | ((with_reducible refine' do_ne ?_ ?_ ?_); exact rfl; exact rfl) | with_reducible refine do_is ?_ | with_reducible refine do_isnot ?_ | with_reducible refine do_ixT ?_ | with_reducible refine do_ixL ?_ | with_reducible refine do_len_t ?_ | with_reducible refine do_len_l ?_ | with_reducible refine do_tuple_l ?_ | with_reducible refine do_tuple_t ?_ | ((with_reducible refine' do_isi ?_ ?_); rotate_left; exact rfl) | with_reducible refine do_break ?_ | with_reducible refine do_cont ?_ | with_reducible refine do_andv ?_ | with_reducible refine do_orv ?_ | with_reducible refine do_notv ?_ | with_reducible refine do_knotv ?_ | with_reducible refine do_kandT ?_ | with_reducible refine do_kandF ?_ | with_reducible refine do_korT ?_ | with_reducible refine do_korF ?_ | with_reducible refine do_ord ?_ | with_reducible refine do_itX ?_ | with_reducible refine do_kitx ?_ | with_reducible refine do_list_t ?_ | with_reducible refine do_ltS ?_ | with_reducible refine do_gtS ?_ | with_reducible refine do_callV ?_ | with_reducible refine do_tabin ?_ | with_reducible refine do_tabnotN ?_ | with_reducible refine do_ktabnot ?_ | with_reducible refine do_neg ?_ | with_reducible refine do_join ?_ | with_reducible refine do_kjoin ?_ | with_reducible refine do_append ?_ | with_reducible refine do_itZ ?_)
local macro_rules | `(tactic| walk_at "rs") => `(tactic| (repeat walk_at "rs1"))
local macro_rules | `(tactic| walk_at "rd1") => `(tactic| first | ((with_reducible refine' do_norm ?_ ?_); rotate_left; simp only [List.set_cons_succ, List.set_cons_zero]; exact rfl) | ((with_reducible refine' do_normU ?_ ?_); rotate_left; simp only [setAll, List.set_cons_succ, List.set_cons_zero]; exact rfl) | ((with_reducible refine' do_var ?_ ?_); rotate_left; exact rfl) | with_reducible refine do_c ?_ | with_reducible refine do_tab ?_ | with_reducible refine do_op ?_ | with_reducible refine do_seq ?_ | with_reducible refine do_set ?_ | with_reducible refine do_cons ?_ | with_reducible refine do_nil ?_ | with_reducible refine do_call ?_ | with_reducible refine do_ifs ?_ | with_reducible refine do_test ?_ | with_reducible refine do_ktest ?_ | with_reducible refine do_kT ?_ | with_reducible refine do_kF ?_ | with_reducible refine do_knT ?_ | with_reducible refine do_knF ?_ | ((with_reducible refine' do_kT' ?_ ?_); exact rfl) | ((with_reducible refine' do_kF' ?_ ?_); exact rfl) | with_reducible refine do_and ?_ | with_reducible refine do_or ?_ | with_reducible refine do_not ?_ | with_reducible refine do_if ?_ | with_reducible refine do_un ?_ | with_reducible refine do_chain ?_ | with_reducible refine do_kchT ?_ | with_reducible refine do_kchF ?_ | with_reducible refine do_tup ?_ | with_reducible refine do_lsf ?_ | with_reducible refine do_lst ?_ | ((with_reducible refine' do_size ?_ ?_); exact rfl) | with_reducible refine do_next ?_ | with_reducible refine do_ret ?_ | with_reducible refine do_retN ?_ | with_reducible refine do_drop ?_ | with_reducible refine do_asg ?_ | with_reducible refine do_gN ?_ | ((with_reducible refine' do_gU ?_ ?_); exact rfl) | with_reducible refine do_gSub ?_ | with_reducible refine do_forI ?_ | with_reducible refine do_itS ?_ | with_reducible refine do_kits_t ?_ | with_reducible refine do_kits_l ?_ | with_reducible refine do_itR ?_ | with_reducible refine do_forNil ?_ | with_reducible refine do_forCons ?_ | with_reducible refine do_comp ?_ | with_reducible refine do_compNil ?_ | with_reducible refine do_compYes ?_ | with_reducible refine do_compT ?_ | with_reducible refine do_sl ?_ | with_reducible refine do_noP ?_ | with_reducible refine do_part ?_ | with_reducible refine do_kpart ?_ | with_reducible refine do_slT ?_ | with_reducible refine do_slL ?_ | with_reducible refine do_int0 ?_ | with_reducible refine do_addI ?_ | ((with_reducible refine' do_addT ?_ ?_); exact rfl) | ((with_reducible refine' do_addL ?_ ?_); exact rfl) | ((with_reducible refine' do_eq ?_ ?_ ?_); exact rfl; exact rfl) | ((with_reducible refine' do_ne ?_ ?_ ?_); exact rfl; exact rfl) | with_reducible refine do_is ?_ | with_reducible refine do_isnot ?_ | with_reducible refine do_ixT ?_ | with_reducible refine do_ixL ?_ | with_reducible refine do_len_t ?_ | with_reducible refine do_len_l ?_ | with_reducible refine do_tuple_l ?_ | with_reducible refine do_tuple_t ?_ | ((with_reducible refine' do_isi ?_ ?_); rotate_left; exact rfl) | with_reducible refine do_break ?_ | with_reducible refine do_cont ?_ | with_reducible refine do_andv ?_ | with_reducible refine do_orv ?_ | with_reducible refine do_notv ?_ | with_reducible refine do_knotv ?_ | with_reducible refine do_kandT ?_ | with_reducible refine do_kandF ?_ | with_reducible refine do_korT ?_ | with_reducible refine do_korF ?_ | with_reducible refine do_ord ?_ | with_reducible refine do_itX ?_ | with_reducible refine do_kitx ?_ | with_reducible refine do_list_t ?_ | with_reducible refine do_ltS ?_ | with_reducible refine do_gtS ?_ | with_reducible refine do_callV ?_ | with_reducible refine do_tabin ?_ | with_reducible refine do_tabnotN ?_ | with_reducible refine do_ktabnot ?_ | with_reducible refine do_neg ?_ | with_reducible refine do_join ?_ | with_reducible refine do_kjoin ?_ | with_reducible refine do_append ?_ | with_reducible refine do_itZ ?_)
local macro_rules | `(tactic| walk_at "rd") => `(tactic| (repeat walk_at "rd1"))

@[irreducible] def sp__law_is_said : RSp := fun rs M Q => ∃ k w t, rs = [k, w, t] ∧ okP k ∧ okP w ∧ okP t ∧ Q (.bl (letterF k w t)) M
theorem said2_do {M : RM} {k w t : RV} {Q : RVK} (hk : okP k) (hw : okP w) (ht : okP t) (h : Q (.bl (letterF k w t)) M) : sp__law_is_said [k, w, t] M Q := by unfold sp__law_is_said; exact ⟨k, w, t, rfl, hk, hw, ht, h⟩
set_option maxHeartbeats 40000000 in
def pk__law_is_said (T : Txt P w K mg)  : {t : RTS // ∀ (f : Addr) (cdv : Value) (A : Around) (outer : List Env) (s : Shared) (H : Hp) (E : XK), Room 0 (A.deeper (envOfC "_law_is_said" (defScope s__law_is_said) s.heap.objs.size f cdv)) → RPSs (cxOf CX0 P w K mg base N__law_is_said "_law_is_said" (defScope s__law_is_said) f cdv A outer s H E).nox (defBody s__law_is_said) t} := by
  refine' ⟨?t, fun f cdv A outer s H E hr => ?term⟩
  case term =>
    refine' scons ?h2686 ?h2687
    case h2686 =>
     refine' sif ?h2683 ?h2684 ?h2685
     case h2683 =>
      refine' rtw ?h2680
      case h2680 =>
       refine' ror ?h2678 ?h2679
       case h2678 =>
        refine' rtcmp (onotin hr.units) ?h2676 ?h2677
        case h2676 =>
         exact rvN 0 no__law_is_said
        case h2677 =>
         refine' rtup ?h2675
         case h2675 =>
          refine' acons ?h2673 ?h2674
          case h2673 =>
           exact rs
          case h2674 =>
           refine' acons ?h2671 ?h2672
           case h2671 =>
            exact rs
           case h2672 =>
            exact anil
       case h2679 =>
        refine' ror ?h2669 ?h2670
        case h2669 =>
         refine' rtnot ?h2668
         case h2668 =>
          refine' rtval ?h2667
          case h2667 =>
           refine' rcallB cisi_str T.b_isinstance bt_isinstance ?h2666 (hg := gl__law_is_said_isinstance) (hdb := db_isinstance) (hn := nn_isinstance)
           case h2666 =>
            refine' acons ?h2664 ?h2665
            case h2664 =>
             exact rvN 0 no__law_is_said
            case h2665 =>
             refine' acons ?h2662 ?h2663
             case h2662 =>
              exact rty_str T.b_str gl__law_is_said_str
             case h2663 =>
              exact anil
        case h2670 =>
         refine' ror ?h2660 ?h2661
         case h2660 =>
          refine' rtnot ?h2659
          case h2659 =>
           refine' rtval ?h2658
           case h2658 =>
            refine' rcallB cisi_str T.b_isinstance bt_isinstance ?h2657 (hg := gl__law_is_said_isinstance) (hdb := db_isinstance) (hn := nn_isinstance)
            case h2657 =>
             refine' acons ?h2655 ?h2656
             case h2655 =>
              exact rvN 2 no__law_is_said
             case h2656 =>
              refine' acons ?h2653 ?h2654
              case h2653 =>
               exact rty_str T.b_str gl__law_is_said_str
              case h2654 =>
               exact anil
         case h2661 =>
          refine' ror1 ?h2652
          case h2652 =>
           refine' rtcmp ogt ?h2650 ?h2651
           case h2650 =>
            refine' rcallB clen T.b_len bt_len ?h2649 (hg := gl__law_is_said_len) (hdb := db_len) (hn := nn_len)
            case h2649 =>
             refine' acons ?h2647 ?h2648
             case h2647 =>
              exact rvN 2 no__law_is_said
             case h2648 =>
              exact anil
           case h2651 =>
            exact ri
     case h2684 =>
      refine' sone ?h2682
      case h2682 =>
       refine' sret ?h2681
       case h2681 =>
        exact rb
     case h2685 =>
      exact snil
    case h2687 =>
     refine' scons ?h2645 ?h2646
     case h2645 =>
      refine' ssetN 3 no__law_is_said ?h2644
      case h2644 =>
       refine' rif ?h2641 ?h2642 ?h2643
       case h2641 =>
        refine' rtcmp (oeq hr.units) ?h2627 ?h2628
        case h2627 =>
         exact rvN 0 no__law_is_said
        case h2628 =>
         exact rs
       case h2642 =>
        refine' rlsf ?h2631
        case h2631 =>
         refine' acons ?h2629 ?h2630
         case h2629 =>
          exact rs
         case h2630 =>
          exact anil
       case h2643 =>
        refine' rlsf ?h2640
        case h2640 =>
         refine' acons ?h2638 ?h2639
         case h2638 =>
          exact rs
         case h2639 =>
          refine' acons ?h2636 ?h2637
          case h2636 =>
           exact rs
          case h2637 =>
           refine' acons ?h2634 ?h2635
           case h2634 =>
            exact rs
           case h2635 =>
            refine' acons ?h2632 ?h2633
            case h2632 =>
             exact rs
            case h2633 =>
             exact anil
     case h2646 =>
      refine' scons ?h2625 ?h2626
      case h2625 =>
       refine' sif ?h2622 ?h2623 ?h2624
       case h2622 =>
        refine' rtw ?h2619
        case h2619 =>
         refine' ror ?h2617 ?h2618
         case h2617 =>
          refine' rtcmp (onotin hr.units) ?h2615 ?h2616
          case h2615 =>
           exact rvN 1 no__law_is_said
          case h2616 =>
           exact rvN 3 no__law_is_said
         case h2618 =>
          refine' ror1 ?h2614
          case h2614 =>
           refine' rtcmp (one hr.units) ?h2612 ?h2613
           case h2612 =>
            refine' rcompN [] (osc := defScope s__law_is_said) (oN := N__law_is_said) rfl ?h2608 (fun cl C s H fp vb => ?h2609) (fun cl C s H fp vb => ?h2610) rfl rfl (by decide +kernel) (by decide +kernel) (by decide +kernel) rfl (by decide +kernel) (by decide +kernel) (by decide +kernel) (by decide +kernel)
            case h2608 =>
             refine' istr ?h2598
             case h2598 =>
              exact rvN 2 no__law_is_said
            case h2609 =>
             refine' tone ?h2607
             case h2607 =>
              refine' rtw ?h2606
              case h2606 =>
               refine' ror ?h2604 ?h2605
               case h2604 =>
                refine' rtcmp oltS ?h2602 ?h2603
                case h2602 =>
                 exact rvB 0 vb
                case h2603 =>
                 exact rs
               case h2605 =>
                refine' ror1 ?h2601
                case h2601 =>
                 refine' rtcmp ogtS ?h2599 ?h2600
                 case h2599 =>
                  exact rvB 0 vb
                 case h2600 =>
                  exact rs
            case h2610 =>
             exact rvB 0 vb
           case h2613 =>
            refine' rlsf ?h2611
            case h2611 =>
             exact anil
       case h2623 =>
        refine' sone ?h2621
        case h2621 =>
         refine' sret ?h2620
         case h2620 =>
          exact rb
       case h2624 =>
        exact snil
      case h2626 =>
       refine' sone ?h2597
       case h2597 =>
        refine' sret ?h2596
        case h2596 =>
         refine' rcmp (oeq hr.units) ?h2594 ?h2595
         case h2594 =>
          refine' rcompN [] (osc := defScope s__law_is_said) (oN := N__law_is_said) rfl ?h2590 (fun cl C s H fp vb => ?h2591) (fun cl C s H fp vb => ?h2592) rfl rfl (by decide +kernel) (by decide +kernel) (by decide +kernel) rfl (by decide +kernel) (by decide +kernel) (by decide +kernel) (by decide +kernel)
          case h2590 =>
           refine' istr ?h2583
           case h2583 =>
            exact rvN 2 no__law_is_said
          case h2591 =>
           refine' tone ?h2589
           case h2589 =>
            refine' rtcmp (oeq hr.units) ?h2587 ?h2588
            case h2587 =>
             refine' rcallB cord T.b_ord bt_ord ?h2586 (hg := (glB (by decide +kernel))) (hdb := db_ord) (hn := nn_ord)
             case h2586 =>
              refine' acons ?h2584 ?h2585
              case h2584 =>
               exact rvB 0 vb
              case h2585 =>
               exact anil
            case h2588 =>
             exact ri
          case h2592 =>
           exact rvB 0 vb
         case h2595 =>
          refine' rlsf ?h2593
          case h2593 =>
           exact anil
@[irreducible] def sp__law_odd : RSp := fun rs M Q => ∃ (b : Addr) (n : Int) (m : Nat) (x : RV), rs = [.ref b, x] ∧ Bag M b n ∧ 0 ≤ n ∧ n ≤ 1000 ∧ okD m x ∧ m ≤ 13 ∧ ∀ (v : RV) (o : RO), okD (m + 1) v → BagO o (n + 5) → Q v (put M b o)
theorem odd_do {M : RM} {b : Addr} {n : Int} {m : Nat} {x : RV} {Q : RVK} (hB : Bag M b n) (n0 : 0 ≤ n) (n1 : n ≤ 1000) (hx : okD m x) (hm : m ≤ 13) (h : ∀ (v : RV) (o : RO), okD (m + 1) v → BagO o (n + 5) → Q v (put M b o)) : sp__law_odd [.ref b, x] M Q := by unfold sp__law_odd; exact ⟨b, n, m, x, rfl, hB, n0, n1, hx, hm, h⟩
set_option maxHeartbeats 40000000 in
def pk__law_odd (T : Txt P w K mg) (F__law_take : RFn P w K mg base 1 "_law_take" ["bag", "many"] sp__law_take) (F__law_whole : RFn P w K mg base 1 "_law_whole" ["found"] sp__law_whole) : {t : RTS // ∀ (f : Addr) (cdv : Value) (A : Around) (outer : List Env) (s : Shared) (H : Hp) (E : XK), Room 1 (A.deeper (envOfC "_law_odd" (defScope s__law_odd) s.heap.objs.size f cdv)) → RPSs (cxOf CX0 P w K mg base N__law_odd "_law_odd" (defScope s__law_odd) f cdv A outer s H E).nox (defBody s__law_odd) t} := by
  refine' ⟨?t, fun f cdv A outer s H E hr => ?term⟩
  case term =>
    refine' scons ?h2844 ?h2845
    case h2844 =>
     refine' ssetN 2 no__law_odd ?h2843
     case h2843 =>
      refine' rif ?h2840 ?h2841 ?h2842
      case h2840 =>
       refine' rtval ?h2824
       case h2824 =>
        refine' rcallF F__law_whole (hr.mono (by decide)) ?h2823 (hg := gl__law_odd__law_whole) (hdb := db__law_whole)
        case h2823 =>
         refine' acons ?h2821 ?h2822
         case h2821 =>
          exact rvN 1 no__law_odd
         case h2822 =>
          exact anil
      case h2841 =>
       refine' rop oadd ?h2838 ?h2839
       case h2838 =>
        exact rvN 1 no__law_odd
       case h2839 =>
        refine' rix ?h2836 ?h2837
        case h2836 =>
         refine' rlsf ?h2830
         case h2830 =>
          refine' acons ?h2828 ?h2829
          case h2828 =>
           exact ri
          case h2829 =>
           refine' acons ?h2826 ?h2827
           case h2826 =>
            refine' run oneg ?h2825
            case h2825 =>
             exact ri
           case h2827 =>
            exact anil
        case h2837 =>
         refine' rcallF F__law_take (hr.mono (by decide)) ?h2835 (hg := gl__law_odd__law_take) (hdb := db__law_take)
         case h2835 =>
          refine' acons ?h2833 ?h2834
          case h2833 =>
           exact rvN 0 no__law_odd
          case h2834 =>
           refine' acons ?h2831 ?h2832
           case h2831 =>
            exact ri
           case h2832 =>
            exact anil
      case h2842 =>
       exact ri
    case h2845 =>
     refine' scons ?h2819 ?h2820
     case h2819 =>
      refine' ssetN 3 no__law_odd ?h2818
      case h2818 =>
       refine' rlsf ?h2817
       case h2817 =>
        refine' acons ?h2815 ?h2816
        case h2815 =>
         exact ri
        case h2816 =>
         refine' acons ?h2813 ?h2814
         case h2813 =>
          exact ri
         case h2814 =>
          refine' acons ?h2811 ?h2812
          case h2811 =>
           exact ri
          case h2812 =>
           refine' acons ?h2809 ?h2810
           case h2809 =>
            exact ri
           case h2810 =>
            refine' acons ?h2807 ?h2808
            case h2807 =>
             exact ri
            case h2808 =>
             refine' acons ?h2805 ?h2806
             case h2805 =>
              exact ri
             case h2806 =>
              refine' acons ?h2803 ?h2804
              case h2803 =>
               exact ri
              case h2804 =>
               refine' acons ?h2801 ?h2802
               case h2801 =>
                exact ri
               case h2802 =>
                refine' acons ?h2799 ?h2800
                case h2799 =>
                 refine' run oneg ?h2798
                 case h2798 =>
                  exact ri
                case h2800 =>
                 refine' acons ?h2796 ?h2797
                 case h2796 =>
                  refine' rop opow ?h2794 ?h2795
                  case h2794 =>
                   exact ri
                  case h2795 =>
                   exact ri
                 case h2797 =>
                  refine' acons ?h2792 ?h2793
                  case h2792 =>
                   exact ri
                  case h2793 =>
                   refine' acons ?h2790 ?h2791
                   case h2790 =>
                    exact ri
                   case h2791 =>
                    refine' acons ?h2788 ?h2789
                    case h2788 =>
                     exact ri
                    case h2789 =>
                     exact anil
     case h2820 =>
      refine' scons ?h2786 ?h2787
      case h2786 =>
       refine' ssetN 4 no__law_odd ?h2785
       case h2785 =>
        refine' rlsf ?h2784
        case h2784 =>
         refine' acons ?h2782 ?h2783
         case h2782 =>
          exact rvN 2 no__law_odd
         case h2783 =>
          refine' acons ?h2780 ?h2781
          case h2780 =>
           refine' rix ?h2778 ?h2779
           case h2778 =>
            exact rvN 3 no__law_odd
           case h2779 =>
            refine' rcallF F__law_take (hr.mono (by decide)) ?h2777 (hg := gl__law_odd__law_take) (hdb := db__law_take)
            case h2777 =>
             refine' acons ?h2775 ?h2776
             case h2775 =>
              exact rvN 0 no__law_odd
             case h2776 =>
              refine' acons ?h2773 ?h2774
              case h2773 =>
               exact ri
              case h2774 =>
               exact anil
          case h2781 =>
           refine' acons ?h2771 ?h2772
           case h2771 =>
            exact rn
           case h2772 =>
            refine' acons ?h2769 ?h2770
            case h2769 =>
             exact rb
            case h2770 =>
             refine' acons ?h2767 ?h2768
             case h2767 =>
              exact rb
             case h2768 =>
              refine' acons ?h2765 ?h2766
              case h2765 =>
               exact rs
              case h2766 =>
               refine' acons ?h2763 ?h2764
               case h2763 =>
                exact rs
               case h2764 =>
                refine' acons ?h2761 ?h2762
                case h2761 =>
                 exact rs
                case h2762 =>
                 refine' acons ?h2759 ?h2760
                 case h2759 =>
                  exact rs
                 case h2760 =>
                  refine' acons ?h2757 ?h2758
                  case h2757 =>
                   exact rs
                  case h2758 =>
                   refine' acons ?h2755 ?h2756
                   case h2755 =>
                    exact rs
                   case h2756 =>
                    exact anil
      case h2787 =>
       refine' scons ?h2753 ?h2754
       case h2753 =>
        refine' ssetN 4 no__law_odd ?h2752
        case h2752 =>
         refine' rop oadd ?h2750 ?h2751
         case h2750 =>
          exact rvN 4 no__law_odd
         case h2751 =>
          refine' rlsf ?h2749
          case h2749 =>
           refine' acons ?h2747 ?h2748
           case h2747 =>
            refine' rlsf ?h2746
            case h2746 =>
             exact anil
           case h2748 =>
            refine' acons ?h2744 ?h2745
            case h2744 =>
             refine' rtup ?h2743
             case h2743 =>
              exact anil
            case h2745 =>
             refine' acons ?h2741 ?h2742
             case h2741 =>
              refine' rlsf ?h2740
              case h2740 =>
               refine' acons ?h2738 ?h2739
               case h2738 =>
                exact rvN 1 no__law_odd
               case h2739 =>
                exact anil
             case h2742 =>
              refine' acons ?h2736 ?h2737
              case h2736 =>
               refine' rtup ?h2735
               case h2735 =>
                refine' acons ?h2733 ?h2734
                case h2733 =>
                 exact rvN 1 no__law_odd
                case h2734 =>
                 exact anil
              case h2737 =>
               refine' acons ?h2731 ?h2732
               case h2731 =>
                exact rs
               case h2732 =>
                refine' acons ?h2729 ?h2730
                case h2729 =>
                 refine' rop omulS ?h2727 ?h2728
                 case h2727 =>
                  exact rs
                 case h2728 =>
                  exact ri
                case h2730 =>
                 refine' acons ?h2725 ?h2726
                 case h2725 =>
                  refine' rop omulS ?h2723 ?h2724
                  case h2723 =>
                   exact rs
                  case h2724 =>
                   exact ri
                 case h2726 =>
                  refine' acons ?h2721 ?h2722
                  case h2721 =>
                   exact rs
                  case h2722 =>
                   refine' acons ?h2719 ?h2720
                   case h2719 =>
                    exact rs
                   case h2720 =>
                    refine' acons ?h2717 ?h2718
                    case h2717 =>
                     exact rs
                    case h2718 =>
                     exact anil
       case h2754 =>
        refine' sone ?h2716
        case h2716 =>
         refine' sret ?h2715
         case h2715 =>
          refine' rif ?h2712 ?h2713 ?h2714
          case h2712 =>
           refine' rtcmp (oeq hr.units) ?h2693 ?h2694
           case h2693 =>
            refine' rcallF F__law_take (hr.mono (by decide)) ?h2692 (hg := gl__law_odd__law_take) (hdb := db__law_take)
            case h2692 =>
             refine' acons ?h2690 ?h2691
             case h2690 =>
              exact rvN 0 no__law_odd
             case h2691 =>
              refine' acons ?h2688 ?h2689
              case h2688 =>
               exact ri
              case h2689 =>
               exact anil
           case h2694 =>
            exact ri
          case h2713 =>
           refine' rix ?h2700 ?h2701
           case h2700 =>
            exact rvN 4 no__law_odd
           case h2701 =>
            refine' rcallF F__law_take (hr.mono (by decide)) ?h2699 (hg := gl__law_odd__law_take) (hdb := db__law_take)
            case h2699 =>
             refine' acons ?h2697 ?h2698
             case h2697 =>
              exact rvN 0 no__law_odd
             case h2698 =>
              refine' acons ?h2695 ?h2696
              case h2695 =>
               exact ri
              case h2696 =>
               exact anil
          case h2714 =>
           refine' rix ?h2710 ?h2711
           case h2710 =>
            exact rvN 4 no__law_odd
           case h2711 =>
            refine' rcallF F__law_take (hr.mono (by decide)) ?h2709 (hg := gl__law_odd__law_take) (hdb := db__law_take)
            case h2709 =>
             refine' acons ?h2707 ?h2708
             case h2707 =>
              exact rvN 0 no__law_odd
             case h2708 =>
              refine' acons ?h2705 ?h2706
              case h2705 =>
               refine' rcallB clen T.b_len bt_len ?h2704 (hg := gl__law_odd_len) (hdb := db_len) (hn := nn_len)
               case h2704 =>
                refine' acons ?h2702 ?h2703
                case h2702 =>
                 exact rvN 4 no__law_odd
                case h2703 =>
                 exact anil
              case h2706 =>
               exact anil
@[irreducible] def sp__law_is_right : RSp := fun rs M Q => ∃ x, rs = [x] ∧ okT x ∧ Q (.bl (deedF x)) M
theorem right_do {M : RM} {x : RV} {Q : RVK} (hx : okT x) (h : Q (.bl (deedF x)) M) : sp__law_is_right [x] M Q := by unfold sp__law_is_right; exact ⟨x, rfl, hx, h⟩
set_option maxHeartbeats 40000000 in
def pk__law_is_right (T : Txt P w K mg) (F__law_in_bounds : RFn P w K mg base 2 "_law_in_bounds" ["thing", "low", "high"] sp__law_in_bounds) (F__law_is_said : RFn P w K mg base 1 "_law_is_said" ["kind", "word", "text"] sp__law_is_said) (F__law_bounds : RFn P w K mg base 1 "_law_bounds" ["name"] sp__law_bounds) : {t : RTS // ∀ (f : Addr) (cdv : Value) (A : Around) (outer : List Env) (s : Shared) (H : Hp) (E : XK), Room 2 (A.deeper (envOfC "_law_is_right" (defScope s__law_is_right) s.heap.objs.size f cdv)) → RPSs (cxOf CX0 P w K mg base N__law_is_right "_law_is_right" (defScope s__law_is_right) f cdv A outer s H E).nox (defBody s__law_is_right) t} := by
  refine' ⟨?t, fun f cdv A outer s H E hr => ?term⟩
  case term =>
    refine' scons ?h3050 ?h3051
    case h3050 =>
     refine' sif ?h3047 ?h3048 ?h3049
     case h3047 =>
      refine' rtw ?h3044
      case h3044 =>
       refine' ror ?h3042 ?h3043
       case h3042 =>
        refine' rtnot ?h3041
        case h3041 =>
         refine' rtval ?h3040
         case h3040 =>
          refine' rcallB cisi_tuple T.b_isinstance bt_isinstance ?h3039 (hg := gl__law_is_right_isinstance) (hdb := db_isinstance) (hn := nn_isinstance)
          case h3039 =>
           refine' acons ?h3037 ?h3038
           case h3037 =>
            exact rvN 0 no__law_is_right
           case h3038 =>
            refine' acons ?h3035 ?h3036
            case h3035 =>
             exact rty_tuple T.b_tuple gl__law_is_right_tuple
            case h3036 =>
             exact anil
       case h3043 =>
        refine' ror ?h3033 ?h3034
        case h3033 =>
         refine' rtcmp (oeq hr.units) ?h3031 ?h3032
         case h3031 =>
          exact rvN 0 no__law_is_right
         case h3032 =>
          refine' rtup ?h3030
          case h3030 =>
           exact anil
        case h3034 =>
         refine' ror1 ?h3029
         case h3029 =>
          refine' rtnot ?h3028
          case h3028 =>
           refine' rtval ?h3027
           case h3027 =>
            refine' rcallB cisi_str T.b_isinstance bt_isinstance ?h3026 (hg := gl__law_is_right_isinstance) (hdb := db_isinstance) (hn := nn_isinstance)
            case h3026 =>
             refine' acons ?h3024 ?h3025
             case h3024 =>
              refine' rix ?h3022 ?h3023
              case h3022 =>
               exact rvN 0 no__law_is_right
              case h3023 =>
               exact ri
             case h3025 =>
              refine' acons ?h3020 ?h3021
              case h3020 =>
               exact rty_str T.b_str gl__law_is_right_str
              case h3021 =>
               exact anil
     case h3048 =>
      refine' sone ?h3046
      case h3046 =>
       refine' sret ?h3045
       case h3045 =>
        exact rb
     case h3049 =>
      exact snil
    case h3051 =>
     refine' scons ?h3018 ?h3019
     case h3018 =>
      refine' sif ?h3015 ?h3016 ?h3017
      case h3015 =>
       refine' rtcmp (onotin hr.units) ?h3011 ?h3012
       case h3011 =>
        refine' rix ?h2996 ?h2997
        case h2996 =>
         exact rvN 0 no__law_is_right
        case h2997 =>
         exact ri
       case h3012 =>
        refine' rtup ?h3010
        case h3010 =>
         refine' acons ?h3008 ?h3009
         case h3008 =>
          exact rs
         case h3009 =>
          refine' acons ?h3006 ?h3007
          case h3006 =>
           exact rs
          case h3007 =>
           refine' acons ?h3004 ?h3005
           case h3004 =>
            exact rs
           case h3005 =>
            refine' acons ?h3002 ?h3003
            case h3002 =>
             exact rs
            case h3003 =>
             refine' acons ?h3000 ?h3001
             case h3000 =>
              exact rs
             case h3001 =>
              refine' acons ?h2998 ?h2999
              case h2998 =>
               exact rs
              case h2999 =>
               exact anil
      case h3016 =>
       refine' sone ?h3014
       case h3014 =>
        refine' sret ?h3013
        case h3013 =>
         exact rb
      case h3017 =>
       exact snil
     case h3019 =>
      refine' scons ?h2994 ?h2995
      case h2994 =>
       refine' ssetN 1 no__law_is_right ?h2993
       case h2993 =>
        refine' rcallF F__law_bounds (hr.mono (by decide)) ?h2992 (hg := gl__law_is_right__law_bounds) (hdb := db__law_bounds)
        case h2992 =>
         refine' acons ?h2990 ?h2991
         case h2990 =>
          refine' rix ?h2988 ?h2989
          case h2988 =>
           exact rvN 0 no__law_is_right
          case h2989 =>
           exact ri
         case h2991 =>
          exact anil
      case h2995 =>
       refine' scons ?h2986 ?h2987
       case h2986 =>
        refine' sif ?h2983 ?h2984 ?h2985
        case h2983 =>
         refine' rtcmp (one hr.units) ?h2979 ?h2980
         case h2979 =>
          refine' rcallB clen T.b_len bt_len ?h2973 (hg := gl__law_is_right_len) (hdb := db_len) (hn := nn_len)
          case h2973 =>
           refine' acons ?h2971 ?h2972
           case h2971 =>
            exact rvN 0 no__law_is_right
           case h2972 =>
            exact anil
         case h2980 =>
          refine' rop oadd ?h2977 ?h2978
          case h2977 =>
           refine' rcallB clen T.b_len bt_len ?h2976 (hg := gl__law_is_right_len) (hdb := db_len) (hn := nn_len)
           case h2976 =>
            refine' acons ?h2974 ?h2975
            case h2974 =>
             exact rvN 1 no__law_is_right
            case h2975 =>
             exact anil
          case h2978 =>
           exact ri
        case h2984 =>
         refine' sone ?h2982
         case h2982 =>
          refine' sret ?h2981
          case h2981 =>
           exact rb
        case h2985 =>
         exact snil
       case h2987 =>
        refine' scons ?h2969 ?h2970
        case h2969 =>
         refine' sfor PassesOwn.never rfl ?h2966 ?h2967 ?h2968
         case h2966 =>
          refine' izip T.b_zip ?h2876 ?h2877 (hgl := gl__law_is_right_zip)
          case h2876 =>
           refine' rsl ?h2873 ?h2874 ?h2875
           case h2873 =>
            exact rvN 0 no__law_is_right
           case h2874 =>
            refine' psome ?h2872
            case h2872 =>
             exact ri
           case h2875 =>
            exact pnone
          case h2877 =>
           exact rvN 1 no__law_is_right
         case h2967 =>
          refine' gtup (is := [2, 3]) rfl ?h2871
          case h2871 =>
           refine' pgs_cons (pgN 2 no__law_is_right) ?h2870
           case h2870 =>
            refine' pgs_cons (pgN 3 no__law_is_right) ?h2869
            case h2869 =>
             exact pgs_nil
         case h2968 =>
          refine' scons ?h2964 ?h2965
          case h2964 =>
           refine' sif ?h2961 ?h2962 ?h2963
           case h2961 =>
            refine' rtw ?h2958
            case h2958 =>
             refine' rand ?h2956 ?h2957
             case h2956 =>
              refine' rtcmp (oeq hr.units) ?h2954 ?h2955
              case h2954 =>
               exact rvN 3 no__law_is_right
              case h2955 =>
               refine' run oneg ?h2953
               case h2953 =>
                exact ri
             case h2957 =>
              refine' rand1 ?h2952
              case h2952 =>
               refine' rtw ?h2951
               case h2951 =>
                refine' ror ?h2949 ?h2950
                case h2949 =>
                 refine' rtnot ?h2948
                 case h2948 =>
                  refine' rtval ?h2947
                  case h2947 =>
                   refine' rcallB cisi_str T.b_isinstance bt_isinstance ?h2946 (hg := gl__law_is_right_isinstance) (hdb := db_isinstance) (hn := nn_isinstance)
                   case h2946 =>
                    refine' acons ?h2944 ?h2945
                    case h2944 =>
                     exact rvN 2 no__law_is_right
                    case h2945 =>
                     refine' acons ?h2942 ?h2943
                     case h2942 =>
                      exact rty_str T.b_str gl__law_is_right_str
                     case h2943 =>
                      exact anil
                case h2950 =>
                 refine' ror1 ?h2941
                 case h2941 =>
                  refine' rtcmp (onotin hr.units) ?h2939 ?h2940
                  case h2939 =>
                   exact rvN 2 no__law_is_right
                  case h2940 =>
                   refine' rtup ?h2938
                   case h2938 =>
                    refine' acons ?h2936 ?h2937
                    case h2936 =>
                     exact rs
                    case h2937 =>
                     refine' acons ?h2934 ?h2935
                     case h2934 =>
                      exact rs
                     case h2935 =>
                      exact anil
           case h2962 =>
            refine' sone ?h2960
            case h2960 =>
             refine' sret ?h2959
             case h2959 =>
              exact rb
           case h2963 =>
            exact snil
          case h2965 =>
           refine' scons ?h2932 ?h2933
           case h2932 =>
            refine' sif ?h2929 ?h2930 ?h2931
            case h2929 =>
             refine' rtw ?h2926
             case h2926 =>
              refine' rand ?h2924 ?h2925
              case h2924 =>
               refine' rtcmp (oeq hr.units) ?h2922 ?h2923
               case h2922 =>
                exact rvN 3 no__law_is_right
               case h2923 =>
                refine' run oneg ?h2921
                case h2921 =>
                 exact ri
              case h2925 =>
               refine' rand ?h2919 ?h2920
               case h2919 =>
                refine' rtcmp oisnot ?h2917 ?h2918
                case h2917 =>
                 exact rvN 2 no__law_is_right
                case h2918 =>
                 exact rn
               case h2920 =>
                refine' rand1 ?h2916
                case h2916 =>
                 refine' rtnot ?h2915
                 case h2915 =>
                  refine' rtval ?h2914
                  case h2914 =>
                   refine' rcallF F__law_in_bounds (hr.mono (by decide)) ?h2913 (hg := gl__law_is_right__law_in_bounds) (hdb := db__law_in_bounds)
                   case h2913 =>
                    refine' acons ?h2911 ?h2912
                    case h2911 =>
                     exact rvN 2 no__law_is_right
                    case h2912 =>
                     refine' acons ?h2909 ?h2910
                     case h2909 =>
                      exact ri
                     case h2910 =>
                      refine' acons ?h2907 ?h2908
                      case h2907 =>
                       exact ri
                      case h2908 =>
                       exact anil
            case h2930 =>
             refine' sone ?h2928
             case h2928 =>
              refine' sret ?h2927
              case h2927 =>
               exact rb
            case h2931 =>
             exact snil
           case h2933 =>
            refine' sone ?h2906
            case h2906 =>
             refine' sif ?h2903 ?h2904 ?h2905
             case h2903 =>
              refine' rtw ?h2900
              case h2900 =>
               refine' rand ?h2898 ?h2899
               case h2898 =>
                refine' rtval ?h2897
                case h2897 =>
                 refine' rcallB cisi_tuple T.b_isinstance bt_isinstance ?h2896 (hg := gl__law_is_right_isinstance) (hdb := db_isinstance) (hn := nn_isinstance)
                 case h2896 =>
                  refine' acons ?h2894 ?h2895
                  case h2894 =>
                   exact rvN 3 no__law_is_right
                  case h2895 =>
                   refine' acons ?h2892 ?h2893
                   case h2892 =>
                    exact rty_tuple T.b_tuple gl__law_is_right_tuple
                   case h2893 =>
                    exact anil
               case h2899 =>
                refine' rand1 ?h2891
                case h2891 =>
                 refine' rtnot ?h2890
                 case h2890 =>
                  refine' rtval ?h2889
                  case h2889 =>
                   refine' rcallF F__law_in_bounds (hr.mono (by decide)) ?h2888 (hg := gl__law_is_right__law_in_bounds) (hdb := db__law_in_bounds)
                   case h2888 =>
                    refine' acons ?h2886 ?h2887
                    case h2886 =>
                     exact rvN 2 no__law_is_right
                    case h2887 =>
                     refine' acons ?h2884 ?h2885
                     case h2884 =>
                      refine' rix ?h2882 ?h2883
                      case h2882 =>
                       exact rvN 3 no__law_is_right
                      case h2883 =>
                       exact ri
                     case h2885 =>
                      refine' acons ?h2880 ?h2881
                      case h2880 =>
                       refine' rix ?h2878 ?h2879
                       case h2878 =>
                        exact rvN 3 no__law_is_right
                       case h2879 =>
                        exact ri
                      case h2881 =>
                       exact anil
             case h2904 =>
              refine' sone ?h2902
              case h2902 =>
               refine' sret ?h2901
               case h2901 =>
                exact rb
             case h2905 =>
              exact snil
        case h2970 =>
         refine' sone ?h2868
         case h2868 =>
          refine' sret ?h2867
          case h2867 =>
           refine' rorv ?h2865 ?h2866
           case h2865 =>
            refine' rcmp (onotin hr.units) ?h2863 ?h2864
            case h2863 =>
             refine' run oneg ?h2862
             case h2862 =>
              exact ri
            case h2864 =>
             exact rvN 1 no__law_is_right
           case h2866 =>
            refine' rone ?h2861
            case h2861 =>
             refine' rcallF F__law_is_said (hr.mono (by decide)) ?h2860 (hg := gl__law_is_right__law_is_said) (hdb := db__law_is_said)
             case h2860 =>
              refine' acons ?h2858 ?h2859
              case h2858 =>
               refine' rix ?h2856 ?h2857
               case h2856 =>
                exact rvN 0 no__law_is_right
               case h2857 =>
                exact ri
              case h2859 =>
               refine' acons ?h2854 ?h2855
               case h2854 =>
                refine' rix ?h2852 ?h2853
                case h2852 =>
                 exact rvN 0 no__law_is_right
                case h2853 =>
                 refine' run oneg ?h2851
                 case h2851 =>
                  exact ri
               case h2855 =>
                refine' acons ?h2849 ?h2850
                case h2849 =>
                 refine' rix ?h2847 ?h2848
                 case h2847 =>
                  exact rvN 0 no__law_is_right
                 case h2848 =>
                  refine' run oneg ?h2846
                  case h2846 =>
                   exact ri
                case h2850 =>
                 exact anil
@[irreducible] def sp__law_a_deed : RSp := fun rs M Q => ∃ (b : Addr) (n : Int), rs = [.ref b] ∧ Bag M b n ∧ 0 ≤ n ∧ n ≤ 500 ∧ ∀ (xs : List RV) (M1 : RM), AllD 1 xs → 0 < xs.length → xs.length ≤ 8 → Bag M1 b (n + 200) → Q (.tup xs) M1
theorem deed_do {M : RM} {b : Addr} {n : Int} {Q : RVK} (hB : Bag M b n) (n0 : 0 ≤ n) (n1 : n ≤ 500) (h : ∀ (xs : List RV) (M1 : RM), AllD 1 xs → 0 < xs.length → xs.length ≤ 8 → Bag M1 b (n + 200) → Q (.tup xs) M1) : sp__law_a_deed [.ref b] M Q := by unfold sp__law_a_deed; exact ⟨b, n, rfl, hB, n0, n1, h⟩
set_option maxHeartbeats 40000000 in
def pk__law_a_deed (T : Txt P w K mg) (F__law_take : RFn P w K mg base 1 "_law_take" ["bag", "many"] sp__law_take) (F__law_said : RFn P w K mg base 2 "_law_said" ["bag"] sp__law_said) (F__law_bounds : RFn P w K mg base 1 "_law_bounds" ["name"] sp__law_bounds) : {t : RTS // ∀ (f : Addr) (cdv : Value) (A : Around) (outer : List Env) (s : Shared) (H : Hp) (E : XK), Room 2 (A.deeper (envOfC "_law_a_deed" (defScope s__law_a_deed) s.heap.objs.size f cdv)) → RPSs (cxOf CX0 P w K mg base N__law_a_deed "_law_a_deed" (defScope s__law_a_deed) f cdv A outer s H E).nox (defBody s__law_a_deed) t} := by
  refine' ⟨?t, fun f cdv A outer s H E hr => ?term⟩
  case term =>
    refine' scons ?h3243 ?h3244
    case h3243 =>
     refine' ssetN 1 no__law_a_deed ?h3242
     case h3242 =>
      refine' rix ?h3240 ?h3241
      case h3240 =>
       refine' rlsf ?h3234
       case h3234 =>
        refine' acons ?h3232 ?h3233
        case h3232 =>
         exact rs
        case h3233 =>
         refine' acons ?h3230 ?h3231
         case h3230 =>
          exact rs
         case h3231 =>
          refine' acons ?h3228 ?h3229
          case h3228 =>
           exact rs
          case h3229 =>
           refine' acons ?h3226 ?h3227
           case h3226 =>
            exact rs
           case h3227 =>
            refine' acons ?h3224 ?h3225
            case h3224 =>
             exact rs
            case h3225 =>
             refine' acons ?h3222 ?h3223
             case h3222 =>
              exact rs
             case h3223 =>
              exact anil
      case h3241 =>
       refine' rcallF F__law_take (hr.mono (by decide)) ?h3239 (hg := gl__law_a_deed__law_take) (hdb := db__law_take)
       case h3239 =>
        refine' acons ?h3237 ?h3238
        case h3237 =>
         exact rvN 0 no__law_a_deed
        case h3238 =>
         refine' acons ?h3235 ?h3236
         case h3235 =>
          exact ri
         case h3236 =>
          exact anil
    case h3244 =>
     refine' scons ?h3220 ?h3221
     case h3220 =>
      refine' ssetN 2 no__law_a_deed ?h3219
      case h3219 =>
       refine' rix ?h3217 ?h3218
       case h3217 =>
        refine' rlsf ?h3211
        case h3211 =>
         refine' acons ?h3209 ?h3210
         case h3209 =>
          exact rs
         case h3210 =>
          refine' acons ?h3207 ?h3208
          case h3207 =>
           exact rs
          case h3208 =>
           exact anil
       case h3218 =>
        refine' rcallF F__law_take (hr.mono (by decide)) ?h3216 (hg := gl__law_a_deed__law_take) (hdb := db__law_take)
        case h3216 =>
         refine' acons ?h3214 ?h3215
         case h3214 =>
          exact rvN 0 no__law_a_deed
         case h3215 =>
          refine' acons ?h3212 ?h3213
          case h3212 =>
           exact ri
          case h3213 =>
           exact anil
     case h3221 =>
      refine' scons ?h3205 ?h3206
      case h3205 =>
       refine' ssetN 3 no__law_a_deed ?h3204
       case h3204 =>
        refine' rlst ?h3203
        case h3203 =>
         refine' acons ?h3201 ?h3202
         case h3201 =>
          exact rvN 1 no__law_a_deed
         case h3202 =>
          exact anil
      case h3206 =>
       refine' scons ?h3199 ?h3200
       case h3199 =>
        refine' sfor PassesOwn.never rfl ?h3196 ?h3197 ?h3198
        case h3196 =>
         refine' iseq ?h3060
         case h3060 =>
          refine' rcallF F__law_bounds (hr.mono (by decide)) ?h3059 (hg := gl__law_a_deed__law_bounds) (hdb := db__law_bounds)
          case h3059 =>
           refine' acons ?h3057 ?h3058
           case h3057 =>
            exact rvN 1 no__law_a_deed
           case h3058 =>
            exact anil
        case h3197 =>
         exact gnameN 4 no__law_a_deed
        case h3198 =>
         refine' sone ?h3195
         case h3195 =>
          refine' sif ?h3192 ?h3193 ?h3194
          case h3192 =>
           refine' rtcmp (oeq hr.units) ?h3062 ?h3063
           case h3062 =>
            exact rvN 4 no__law_a_deed
           case h3063 =>
            refine' run oneg ?h3061
            case h3061 =>
             exact ri
          case h3193 =>
           refine' sone ?h3069
           case h3069 =>
            refine' sexpr ?h3068
            case h3068 =>
             refine' rappend ?h3066 ?h3067
             case h3066 =>
              exact rvN 3 no__law_a_deed
             case h3067 =>
              refine' acons ?h3064 ?h3065
              case h3064 =>
               exact rvN 2 no__law_a_deed
              case h3065 =>
               exact anil
          case h3194 =>
           refine' sone ?h3191
           case h3191 =>
            refine' sif ?h3188 ?h3189 ?h3190
            case h3188 =>
             refine' rtcmp (oeq hr.units) ?h3071 ?h3072
             case h3071 =>
              exact rvN 4 no__law_a_deed
             case h3072 =>
              refine' run oneg ?h3070
              case h3070 =>
               exact ri
            case h3189 =>
             refine' sone ?h3099
             case h3099 =>
              refine' sexpr ?h3098
              case h3098 =>
               refine' rappend ?h3096 ?h3097
               case h3096 =>
                exact rvN 3 no__law_a_deed
               case h3097 =>
                refine' acons ?h3094 ?h3095
                case h3094 =>
                 refine' rif ?h3091 ?h3092 ?h3093
                 case h3091 =>
                  refine' rtcmp (oeq hr.units) ?h3073 ?h3074
                  case h3073 =>
                   exact rvN 2 no__law_a_deed
                  case h3074 =>
                   exact rs
                 case h3092 =>
                  exact rs
                 case h3093 =>
                  refine' rix ?h3089 ?h3090
                  case h3089 =>
                   refine' rlsf ?h3083
                   case h3083 =>
                    refine' acons ?h3081 ?h3082
                    case h3081 =>
                     exact rs
                    case h3082 =>
                     refine' acons ?h3079 ?h3080
                     case h3079 =>
                      exact rs
                     case h3080 =>
                      refine' acons ?h3077 ?h3078
                      case h3077 =>
                       exact rs
                      case h3078 =>
                       refine' acons ?h3075 ?h3076
                       case h3075 =>
                        exact rs
                       case h3076 =>
                        exact anil
                  case h3090 =>
                   refine' rcallF F__law_take (hr.mono (by decide)) ?h3088 (hg := gl__law_a_deed__law_take) (hdb := db__law_take)
                   case h3088 =>
                    refine' acons ?h3086 ?h3087
                    case h3086 =>
                     exact rvN 0 no__law_a_deed
                    case h3087 =>
                     refine' acons ?h3084 ?h3085
                     case h3084 =>
                      exact ri
                     case h3085 =>
                      exact anil
                case h3095 =>
                 exact anil
            case h3190 =>
             refine' sone ?h3187
             case h3187 =>
              refine' sif ?h3184 ?h3185 ?h3186
              case h3184 =>
               refine' rtcmp (oeq hr.units) ?h3101 ?h3102
               case h3101 =>
                exact rvN 4 no__law_a_deed
               case h3102 =>
                refine' run oneg ?h3100
                case h3100 =>
                 exact ri
              case h3185 =>
               refine' sone ?h3111
               case h3111 =>
                refine' sexpr ?h3110
                case h3110 =>
                 refine' rappend ?h3108 ?h3109
                 case h3108 =>
                  exact rvN 3 no__law_a_deed
                 case h3109 =>
                  refine' acons ?h3106 ?h3107
                  case h3106 =>
                   refine' rcallF F__law_said (hr.mono (by decide)) ?h3105 (hg := gl__law_a_deed__law_said) (hdb := db__law_said)
                   case h3105 =>
                    refine' acons ?h3103 ?h3104
                    case h3103 =>
                     exact rvN 0 no__law_a_deed
                    case h3104 =>
                     exact anil
                  case h3107 =>
                   exact anil
              case h3186 =>
               refine' sone ?h3183
               case h3183 =>
                refine' sif ?h3180 ?h3181 ?h3182
                case h3180 =>
                 refine' rtcmp (oeq hr.units) ?h3113 ?h3114
                 case h3113 =>
                  exact rvN 4 no__law_a_deed
                 case h3114 =>
                  refine' run oneg ?h3112
                  case h3112 =>
                   exact ri
                case h3181 =>
                 refine' sone ?h3141
                 case h3141 =>
                  refine' sexpr ?h3140
                  case h3140 =>
                   refine' rappend ?h3138 ?h3139
                   case h3138 =>
                    exact rvN 3 no__law_a_deed
                   case h3139 =>
                    refine' acons ?h3136 ?h3137
                    case h3136 =>
                     refine' rix ?h3134 ?h3135
                     case h3134 =>
                      refine' rlsf ?h3128
                      case h3128 =>
                       refine' acons ?h3126 ?h3127
                       case h3126 =>
                        exact rn
                       case h3127 =>
                        refine' acons ?h3124 ?h3125
                        case h3124 =>
                         exact ri
                        case h3125 =>
                         refine' acons ?h3122 ?h3123
                         case h3122 =>
                          exact ri
                         case h3123 =>
                          refine' acons ?h3120 ?h3121
                          case h3120 =>
                           refine' rcallF F__law_take (hr.mono (by decide)) ?h3119 (hg := gl__law_a_deed__law_take) (hdb := db__law_take)
                           case h3119 =>
                            refine' acons ?h3117 ?h3118
                            case h3117 =>
                             exact rvN 0 no__law_a_deed
                            case h3118 =>
                             refine' acons ?h3115 ?h3116
                             case h3115 =>
                              exact ri
                             case h3116 =>
                              exact anil
                          case h3121 =>
                           exact anil
                     case h3135 =>
                      refine' rcallF F__law_take (hr.mono (by decide)) ?h3133 (hg := gl__law_a_deed__law_take) (hdb := db__law_take)
                      case h3133 =>
                       refine' acons ?h3131 ?h3132
                       case h3131 =>
                        exact rvN 0 no__law_a_deed
                       case h3132 =>
                        refine' acons ?h3129 ?h3130
                        case h3129 =>
                         exact ri
                        case h3130 =>
                         exact anil
                    case h3137 =>
                     exact anil
                case h3182 =>
                 refine' scons ?h3178 ?h3179
                 case h3178 =>
                  refine' sasg ?h3176 ?h3177
                  case h3176 =>
                   exact rvN 4 no__law_a_deed
                  case h3177 =>
                   refine' gtup (is := [5, 6]) rfl ?h3175
                   case h3175 =>
                    refine' pgs_cons (pgN 5 no__law_a_deed) ?h3174
                    case h3174 =>
                     refine' pgs_cons (pgN 6 no__law_a_deed) ?h3173
                     case h3173 =>
                      exact pgs_nil
                 case h3179 =>
                  refine' sone ?h3172
                  case h3172 =>
                   refine' sexpr ?h3171
                   case h3171 =>
                    refine' rappend ?h3169 ?h3170
                    case h3169 =>
                     exact rvN 3 no__law_a_deed
                    case h3170 =>
                     refine' acons ?h3167 ?h3168
                     case h3167 =>
                      refine' rix ?h3165 ?h3166
                      case h3165 =>
                       refine' rlsf ?h3159
                       case h3159 =>
                        refine' acons ?h3157 ?h3158
                        case h3157 =>
                         exact rvN 5 no__law_a_deed
                        case h3158 =>
                         refine' acons ?h3155 ?h3156
                         case h3155 =>
                          exact rvN 6 no__law_a_deed
                         case h3156 =>
                          refine' acons ?h3153 ?h3154
                          case h3153 =>
                           refine' rop oadd ?h3151 ?h3152
                           case h3151 =>
                            exact rvN 5 no__law_a_deed
                           case h3152 =>
                            refine' rcallF F__law_take (hr.mono (by decide)) ?h3150 (hg := gl__law_a_deed__law_take) (hdb := db__law_take)
                            case h3150 =>
                             refine' acons ?h3148 ?h3149
                             case h3148 =>
                              exact rvN 0 no__law_a_deed
                             case h3149 =>
                              refine' acons ?h3146 ?h3147
                              case h3146 =>
                               refine' rop oadd ?h3144 ?h3145
                               case h3144 =>
                                refine' rop osub ?h3142 ?h3143
                                case h3142 =>
                                 exact rvN 6 no__law_a_deed
                                case h3143 =>
                                 exact rvN 5 no__law_a_deed
                               case h3145 =>
                                exact ri
                              case h3147 =>
                               exact anil
                          case h3154 =>
                           exact anil
                      case h3166 =>
                       refine' rcallF F__law_take (hr.mono (by decide)) ?h3164 (hg := gl__law_a_deed__law_take) (hdb := db__law_take)
                       case h3164 =>
                        refine' acons ?h3162 ?h3163
                        case h3162 =>
                         exact rvN 0 no__law_a_deed
                        case h3163 =>
                         refine' acons ?h3160 ?h3161
                         case h3160 =>
                          exact ri
                         case h3161 =>
                          exact anil
                     case h3168 =>
                      exact anil
       case h3200 =>
        refine' sone ?h3056
        case h3056 =>
         refine' sret ?h3055
         case h3055 =>
          refine' rcallT ctuple T.b_tuple bt_tuple ?h3054 (hg := gl__law_a_deed_tuple) (hdb := db_tuple) (hn := nn_tuple)
          case h3054 =>
           refine' acons ?h3052 ?h3053
           case h3052 =>
            exact rvN 3 no__law_a_deed
           case h3053 =>
            exact anil
def Thing (m l : Nat) (v : RV) : Prop := ∃ xs, (v = .tup xs ∨ v = .ls xs) ∧ AllD m xs ∧ xs.length ≤ l
@[irreducible] def sp__law_bent : RSp := fun rs M Q => ∃ (b : Addr) (n : Int) (m : Nat) (ds : List RV), rs = [.ref b, .tup ds] ∧ Bag M b n ∧ 0 ≤ n ∧ n ≤ 900 ∧ AllD m ds ∧ m ≤ 12 ∧ 0 < ds.length ∧ ds.length ≤ 50 ∧ ∀ (v : RV) (o : RO), Thing (m + 1) (3 * ds.length + 5) v → BagO o (n + 20) → Q v (put M b o)
theorem bent_do {M : RM} {b : Addr} {n : Int} {m : Nat} {ds : List RV} {Q : RVK} (hB : Bag M b n) (n0 : 0 ≤ n) (n1 : n ≤ 900) (hx : AllD m ds) (hm : m ≤ 12) (l0 : 0 < ds.length) (l1 : ds.length ≤ 50) (h : ∀ (v : RV) (o : RO), Thing (m + 1) (3 * ds.length + 5) v → BagO o (n + 20) → Q v (put M b o)) : sp__law_bent [.ref b, .tup ds] M Q := by unfold sp__law_bent; exact ⟨b, n, m, ds, rfl, hB, n0, n1, hx, hm, l0, l1, h⟩
set_option maxHeartbeats 40000000 in
def pk__law_bent (T : Txt P w K mg) (F__law_take : RFn P w K mg base 1 "_law_take" ["bag", "many"] sp__law_take) (F__law_odd : RFn P w K mg base 2 "_law_odd" ["bag", "part"] sp__law_odd) : {t : RTS // ∀ (f : Addr) (cdv : Value) (A : Around) (outer : List Env) (s : Shared) (H : Hp) (E : XK), Room 2 (A.deeper (envOfC "_law_bent" (defScope s__law_bent) s.heap.objs.size f cdv)) → RPSs (cxOf CX0 P w K mg base N__law_bent "_law_bent" (defScope s__law_bent) f cdv A outer s H E).nox (defBody s__law_bent) t} := by
  refine' ⟨?t, fun f cdv A outer s H E hr => ?term⟩
  case term =>
    refine' scons ?h3391 ?h3392
    case h3391 =>
     refine' ssetN 2 no__law_bent ?h3390
     case h3390 =>
      refine' rcallF F__law_take (hr.mono (by decide)) ?h3389 (hg := gl__law_bent__law_take) (hdb := db__law_take)
      case h3389 =>
       refine' acons ?h3387 ?h3388
       case h3387 =>
        exact rvN 0 no__law_bent
       case h3388 =>
        refine' acons ?h3385 ?h3386
        case h3385 =>
         refine' rcallB clen T.b_len bt_len ?h3384 (hg := gl__law_bent_len) (hdb := db_len) (hn := nn_len)
         case h3384 =>
          refine' acons ?h3382 ?h3383
          case h3382 =>
           exact rvN 1 no__law_bent
          case h3383 =>
           exact anil
        case h3386 =>
         exact anil
    case h3392 =>
     refine' scons ?h3380 ?h3381
     case h3380 =>
      refine' ssetN 3 no__law_bent ?h3379
      case h3379 =>
       refine' rcallF F__law_take (hr.mono (by decide)) ?h3378 (hg := gl__law_bent__law_take) (hdb := db__law_take)
       case h3378 =>
        refine' acons ?h3376 ?h3377
        case h3376 =>
         exact rvN 0 no__law_bent
        case h3377 =>
         refine' acons ?h3374 ?h3375
         case h3374 =>
          exact ri
         case h3375 =>
          exact anil
     case h3381 =>
      refine' scons ?h3372 ?h3373
      case h3372 =>
       refine' sif ?h3369 ?h3370 ?h3371
       case h3369 =>
        refine' rtcmp (oeq hr.units) ?h3353 ?h3354
        case h3353 =>
         exact rvN 3 no__law_bent
        case h3354 =>
         exact ri
       case h3370 =>
        refine' sone ?h3368
        case h3368 =>
         refine' sret ?h3367
         case h3367 =>
          refine' rop oadd ?h3365 ?h3366
          case h3365 =>
           refine' rsl ?h3356 ?h3357 ?h3358
           case h3356 =>
            exact rvN 1 no__law_bent
           case h3357 =>
            exact pnone
           case h3358 =>
            refine' psome ?h3355
            case h3355 =>
             exact rvN 2 no__law_bent
          case h3366 =>
           refine' rsl ?h3362 ?h3363 ?h3364
           case h3362 =>
            exact rvN 1 no__law_bent
           case h3363 =>
            refine' psome ?h3361
            case h3361 =>
             refine' rop oadd ?h3359 ?h3360
             case h3359 =>
              exact rvN 2 no__law_bent
             case h3360 =>
              exact ri
           case h3364 =>
            exact pnone
       case h3371 =>
        exact snil
      case h3373 =>
       refine' scons ?h3351 ?h3352
       case h3351 =>
        refine' sif ?h3348 ?h3349 ?h3350
        case h3348 =>
         refine' rtcmp (oeq hr.units) ?h3325 ?h3326
         case h3325 =>
          exact rvN 3 no__law_bent
         case h3326 =>
          exact ri
        case h3349 =>
         refine' sone ?h3347
         case h3347 =>
          refine' sret ?h3346
          case h3346 =>
           refine' rop oadd ?h3344 ?h3345
           case h3344 =>
            refine' rop oadd ?h3338 ?h3339
            case h3338 =>
             refine' rsl ?h3328 ?h3329 ?h3330
             case h3328 =>
              exact rvN 1 no__law_bent
             case h3329 =>
              exact pnone
             case h3330 =>
              refine' psome ?h3327
              case h3327 =>
               exact rvN 2 no__law_bent
            case h3339 =>
             refine' rsl ?h3335 ?h3336 ?h3337
             case h3335 =>
              exact rvN 1 no__law_bent
             case h3336 =>
              refine' psome ?h3331
              case h3331 =>
               exact rvN 2 no__law_bent
             case h3337 =>
              refine' psome ?h3334
              case h3334 =>
               refine' rop oadd ?h3332 ?h3333
               case h3332 =>
                exact rvN 2 no__law_bent
               case h3333 =>
                exact ri
           case h3345 =>
            refine' rsl ?h3341 ?h3342 ?h3343
            case h3341 =>
             exact rvN 1 no__law_bent
            case h3342 =>
             refine' psome ?h3340
             case h3340 =>
              exact rvN 2 no__law_bent
            case h3343 =>
             exact pnone
        case h3350 =>
         exact snil
       case h3352 =>
        refine' scons ?h3323 ?h3324
        case h3323 =>
         refine' sif ?h3320 ?h3321 ?h3322
         case h3320 =>
          refine' rtcmp (oeq hr.units) ?h3313 ?h3314
          case h3313 =>
           exact rvN 3 no__law_bent
          case h3314 =>
           exact ri
         case h3321 =>
          refine' sone ?h3319
          case h3319 =>
           refine' sret ?h3318
           case h3318 =>
            refine' rcallT clist T.b_list bt_list ?h3317 (hg := gl__law_bent_list) (hdb := db_list) (hn := nn_list)
            case h3317 =>
             refine' acons ?h3315 ?h3316
             case h3315 =>
              exact rvN 1 no__law_bent
             case h3316 =>
              exact anil
         case h3322 =>
          exact snil
        case h3324 =>
         refine' scons ?h3311 ?h3312
         case h3311 =>
          refine' sif ?h3308 ?h3309 ?h3310
          case h3308 =>
           refine' rtcmp (oeq hr.units) ?h3271 ?h3272
           case h3271 =>
            exact rvN 3 no__law_bent
           case h3272 =>
            exact ri
          case h3309 =>
           refine' sone ?h3307
           case h3307 =>
            refine' sret ?h3306
            case h3306 =>
             refine' rop oadd ?h3304 ?h3305
             case h3304 =>
              refine' rtup ?h3299
              case h3299 =>
               refine' acons ?h3297 ?h3298
               case h3297 =>
                refine' rix ?h3295 ?h3296
                case h3295 =>
                 refine' rlsf ?h3289
                 case h3289 =>
                  refine' acons ?h3287 ?h3288
                  case h3287 =>
                   exact rs
                  case h3288 =>
                   refine' acons ?h3285 ?h3286
                   case h3285 =>
                    exact rs
                   case h3286 =>
                    refine' acons ?h3283 ?h3284
                    case h3283 =>
                     exact rs
                    case h3284 =>
                     refine' acons ?h3281 ?h3282
                     case h3281 =>
                      exact rs
                     case h3282 =>
                      refine' acons ?h3279 ?h3280
                      case h3279 =>
                       exact rs
                      case h3280 =>
                       refine' acons ?h3277 ?h3278
                       case h3277 =>
                        exact rs
                       case h3278 =>
                        refine' acons ?h3275 ?h3276
                        case h3275 =>
                         exact rs
                        case h3276 =>
                         refine' acons ?h3273 ?h3274
                         case h3273 =>
                          exact rs
                         case h3274 =>
                          exact anil
                case h3296 =>
                 refine' rcallF F__law_take (hr.mono (by decide)) ?h3294 (hg := gl__law_bent__law_take) (hdb := db__law_take)
                 case h3294 =>
                  refine' acons ?h3292 ?h3293
                  case h3292 =>
                   exact rvN 0 no__law_bent
                  case h3293 =>
                   refine' acons ?h3290 ?h3291
                   case h3290 =>
                    exact ri
                   case h3291 =>
                    exact anil
               case h3298 =>
                exact anil
             case h3305 =>
              refine' rsl ?h3301 ?h3302 ?h3303
              case h3301 =>
               exact rvN 1 no__law_bent
              case h3302 =>
               refine' psome ?h3300
               case h3300 =>
                exact ri
              case h3303 =>
               exact pnone
          case h3310 =>
           exact snil
         case h3312 =>
          refine' sone ?h3270
          case h3270 =>
           refine' sret ?h3269
           case h3269 =>
            refine' rop oadd ?h3267 ?h3268
            case h3267 =>
             refine' rop oadd ?h3259 ?h3260
             case h3259 =>
              refine' rsl ?h3246 ?h3247 ?h3248
              case h3246 =>
               exact rvN 1 no__law_bent
              case h3247 =>
               exact pnone
              case h3248 =>
               refine' psome ?h3245
               case h3245 =>
                exact rvN 2 no__law_bent
             case h3260 =>
              refine' rtup ?h3258
              case h3258 =>
               refine' acons ?h3256 ?h3257
               case h3256 =>
                refine' rcallF F__law_odd (hr.mono (by decide)) ?h3255 (hg := gl__law_bent__law_odd) (hdb := db__law_odd)
                case h3255 =>
                 refine' acons ?h3253 ?h3254
                 case h3253 =>
                  exact rvN 0 no__law_bent
                 case h3254 =>
                  refine' acons ?h3251 ?h3252
                  case h3251 =>
                   refine' rix ?h3249 ?h3250
                   case h3249 =>
                    exact rvN 1 no__law_bent
                   case h3250 =>
                    exact rvN 2 no__law_bent
                  case h3252 =>
                   exact anil
               case h3257 =>
                exact anil
            case h3268 =>
             refine' rsl ?h3264 ?h3265 ?h3266
             case h3264 =>
              exact rvN 1 no__law_bent
             case h3265 =>
              refine' psome ?h3263
              case h3263 =>
               refine' rop oadd ?h3261 ?h3262
               case h3261 =>
                exact rvN 2 no__law_bent
               case h3262 =>
                exact ri
             case h3266 =>
              exact pnone
@[irreducible] def sp_law : RSp := fun rs M Q => ∃ ns : List Int, rs = [.ls (ns.map RV.int)] ∧ ns.length ≤ 63 ∧ ∀ M', Q (.bl true) M'
theorem law_start (ns : List Int) (h : ns.length ≤ 63) : sp_law [.ls (ns.map RV.int)] (fun _ => none) (fun v _ => v = .bl true) := by
  unfold sp_law; exact ⟨ns, rfl, h, fun _ => rfl⟩
set_option maxHeartbeats 40000000 in
def pk_law (T : Txt P w K mg) (F_is_deed : RFn P w K mg base 5 "is_deed" ["thing"] sp_is_deed) (F__law_cell : RFn P w K mg base 1 "_law_cell" ["script", "k"] sp__law_cell) (F__law_well : RFn P w K mg base 1 "_law_well" ["cell", "turn"] sp__law_well) (F__law_take : RFn P w K mg base 1 "_law_take" ["bag", "many"] sp__law_take) (F__law_is_right : RFn P w K mg base 3 "_law_is_right" ["thing"] sp__law_is_right) (F__law_a_deed : RFn P w K mg base 3 "_law_a_deed" ["bag"] sp__law_a_deed) (F__law_bent : RFn P w K mg base 3 "_law_bent" ["bag", "deed"] sp__law_bent) : {t : RTS // ∀ (f : Addr) (cdv : Value) (A : Around) (outer : List Env) (s : Shared) (H : Hp) (E : XK), Room 5 (A.deeper (envOfC "law" (defScope s_law) s.heap.objs.size f cdv)) → RPSs (cxOf CX0 P w K mg base N_law "law" (defScope s_law) f cdv A outer s H E).nox (defBody s_law) t} := by
  refine' ⟨?t, fun f cdv A outer s H E hr => ?term⟩
  case term =>
    refine' scons ?h3507 ?h3508
    case h3507 =>
     refine' sfor PassesOwn.never rfl ?h3504 ?h3505 ?h3506
     case h3504 =>
      refine' iseq ?h3410
      case h3410 =>
       refine' rop oadd ?h3408 ?h3409
       case h3408 =>
        refine' rlsf ?h3402
        case h3402 =>
         refine' acons ?h3400 ?h3401
         case h3400 =>
          refine' rcallF F__law_cell (hr.mono (by decide)) ?h3399 (hg := gl_law__law_cell) (hdb := db__law_cell)
          case h3399 =>
           refine' acons ?h3397 ?h3398
           case h3397 =>
            exact rvN 0 no_law
           case h3398 =>
            refine' acons ?h3395 ?h3396
            case h3395 =>
             exact ri
            case h3396 =>
             exact anil
         case h3401 =>
          exact anil
       case h3409 =>
        refine' rsl ?h3405 ?h3406 ?h3407
        case h3405 =>
         exact rvN 0 no_law
        case h3406 =>
         refine' psome ?h3403
         case h3403 =>
          exact ri
        case h3407 =>
         refine' psome ?h3404
         case h3404 =>
          exact ri
     case h3505 =>
      exact gnameN 1 no_law
     case h3506 =>
      refine' scons ?h3502 ?h3503
      case h3502 =>
       refine' ssetN 2 no_law ?h3501
       case h3501 =>
        refine' rcallF F__law_well (hr.mono (by decide)) ?h3500 (hg := gl_law__law_well) (hdb := db__law_well)
        case h3500 =>
         refine' acons ?h3498 ?h3499
         case h3498 =>
          exact rvN 1 no_law
         case h3499 =>
          refine' acons ?h3496 ?h3497
          case h3496 =>
           exact ri
          case h3497 =>
           exact anil
      case h3503 =>
       refine' scons ?h3494 ?h3495
       case h3494 =>
        refine' ssetN 3 no_law ?h3493
        case h3493 =>
         refine' rix ?h3491 ?h3492
         case h3491 =>
          refine' rlsf ?h3485
          case h3485 =>
           refine' acons ?h3483 ?h3484
           case h3483 =>
            exact ri
           case h3484 =>
            refine' acons ?h3481 ?h3482
            case h3481 =>
             exact ri
            case h3482 =>
             refine' acons ?h3479 ?h3480
             case h3479 =>
              exact ri
             case h3480 =>
              refine' acons ?h3477 ?h3478
              case h3477 =>
               exact ri
              case h3478 =>
               refine' acons ?h3475 ?h3476
               case h3475 =>
                exact ri
               case h3476 =>
                exact anil
         case h3492 =>
          refine' rcallF F__law_take (hr.mono (by decide)) ?h3490 (hg := gl_law__law_take) (hdb := db__law_take)
          case h3490 =>
           refine' acons ?h3488 ?h3489
           case h3488 =>
            exact rvN 2 no_law
           case h3489 =>
            refine' acons ?h3486 ?h3487
            case h3486 =>
             exact ri
            case h3487 =>
             exact anil
       case h3495 =>
        refine' scons ?h3473 ?h3474
        case h3473 =>
         refine' ssetN 4 no_law ?h3472
         case h3472 =>
          refine' rcallF F__law_a_deed (hr.mono (by decide)) ?h3471 (hg := gl_law__law_a_deed) (hdb := db__law_a_deed)
          case h3471 =>
           refine' acons ?h3469 ?h3470
           case h3469 =>
            exact rvN 2 no_law
           case h3470 =>
            exact anil
        case h3474 =>
         refine' scons ?h3467 ?h3468
         case h3467 =>
          refine' sfor PassesOwn.never rfl ?h3464 ?h3465 ?h3466
          case h3464 =>
           refine' irange T.b_range ?h3439 (hgl := gl_law_range)
           case h3439 =>
            exact rvN 3 no_law
          case h3465 =>
           exact gnameN 5 no_law
          case h3466 =>
           refine' sone ?h3463
           case h3463 =>
            refine' sif ?h3460 ?h3461 ?h3462
            case h3460 =>
             refine' rtw ?h3452
             case h3452 =>
              refine' rand ?h3450 ?h3451
              case h3450 =>
               refine' rtval ?h3449
               case h3449 =>
                refine' rcallB cisi_tuple T.b_isinstance bt_isinstance ?h3448 (hg := gl_law_isinstance) (hdb := db_isinstance) (hn := nn_isinstance)
                case h3448 =>
                 refine' acons ?h3446 ?h3447
                 case h3446 =>
                  exact rvN 4 no_law
                 case h3447 =>
                  refine' acons ?h3444 ?h3445
                  case h3444 =>
                   exact rty_tuple T.b_tuple gl_law_tuple
                  case h3445 =>
                   exact anil
              case h3451 =>
               refine' rand1 ?h3443
               case h3443 =>
                refine' rtcmp (one hr.units) ?h3441 ?h3442
                case h3441 =>
                 exact rvN 4 no_law
                case h3442 =>
                 refine' rtup ?h3440
                 case h3440 =>
                  exact anil
            case h3461 =>
             refine' sone ?h3459
             case h3459 =>
              refine' ssetN 4 no_law ?h3458
              case h3458 =>
               refine' rcallF F__law_bent (hr.mono (by decide)) ?h3457 (hg := gl_law__law_bent) (hdb := db__law_bent)
               case h3457 =>
                refine' acons ?h3455 ?h3456
                case h3455 =>
                 exact rvN 2 no_law
                case h3456 =>
                 refine' acons ?h3453 ?h3454
                 case h3453 =>
                  exact rvN 4 no_law
                 case h3454 =>
                  exact anil
            case h3462 =>
             exact snil
         case h3468 =>
          refine' scons ?h3437 ?h3438
          case h3437 =>
           refine' ssetN 6 no_law ?h3436
           case h3436 =>
            refine' rcallF F_is_deed (hr.mono (by decide)) ?h3435 (hg := gl_law_is_deed) (hdb := db_is_deed)
            case h3435 =>
             refine' acons ?h3433 ?h3434
             case h3433 =>
              exact rvN 4 no_law
             case h3434 =>
              exact anil
          case h3438 =>
           refine' sone ?h3432
           case h3432 =>
            refine' sif ?h3429 ?h3430 ?h3431
            case h3429 =>
             refine' rtw ?h3426
             case h3426 =>
              refine' ror ?h3424 ?h3425
              case h3424 =>
               refine' rtnot ?h3423
               case h3423 =>
                refine' rtval ?h3422
                case h3422 =>
                 refine' rcallB cisi_bool T.b_isinstance bt_isinstance ?h3421 (hg := gl_law_isinstance) (hdb := db_isinstance) (hn := nn_isinstance)
                 case h3421 =>
                  refine' acons ?h3419 ?h3420
                  case h3419 =>
                   exact rvN 6 no_law
                  case h3420 =>
                   refine' acons ?h3417 ?h3418
                   case h3417 =>
                    exact rty_bool T.b_bool gl_law_bool
                   case h3418 =>
                    exact anil
              case h3425 =>
               refine' ror1 ?h3416
               case h3416 =>
                refine' rtcmp (one hr.units) ?h3414 ?h3415
                case h3414 =>
                 exact rvN 6 no_law
                case h3415 =>
                 refine' rcallF F__law_is_right (hr.mono (by decide)) ?h3413 (hg := gl_law__law_is_right) (hdb := db__law_is_right)
                 case h3413 =>
                  refine' acons ?h3411 ?h3412
                  case h3411 =>
                   exact rvN 4 no_law
                  case h3412 =>
                   exact anil
            case h3430 =>
             refine' sone ?h3428
             case h3428 =>
              refine' sret ?h3427
              case h3427 =>
               exact rb
            case h3431 =>
             exact snil
    case h3508 =>
     refine' sone ?h3394
     case h3394 =>
      refine' sret ?h3393
      case h3393 =>
       exact rb
end
end K02

set_option Elab.async false
set_option linter.all false
set_option maxRecDepth 100000
namespace K02
open PySem PySem.Spec PyProof.Rows L2 R
section
variable {P : Program} {w : World} {K : PySem.W.Frag} {mg : Str → Option Value} {base : Heap}
local macro_rules | `(tactic| walk_at "rs1") => `(tactic| first | ((with_reducible refine' do_norm ?_ ?_); rotate_left; simp only [List.set_cons_succ, List.set_cons_zero]; exact rfl) | ((with_reducible refine' do_normU ?_ ?_); rotate_left; simp only [setAll, List.set_cons_succ, List.set_cons_zero]; exact rfl) | ((with_reducible refine' do_var ?_ ?_); rotate_left; exact rfl) | with_reducible refine do_c ?_ | with_reducible refine do_tab ?_ | with_reducible refine do_op ?_ | with_reducible refine do_seq ?_ | with_reducible refine do_set ?_ | with_reducible refine do_cons ?_ | with_reducible refine do_nil ?_ | with_reducible refine do_call ?_ | with_reducible refine do_ifs ?_ | with_reducible refine do_test ?_ | with_reducible refine do_ktest ?_ | with_reducible refine do_kT ?_ | with_reducible refine do_kF ?_ | with_reducible refine do_knT ?_ | with_reducible refine do_knF ?_ | with_reducible refine do_and ?_ | with_reducible refine do_or ?_ | with_reducible refine do_not ?_ | with_reducible refine do_if ?_ | with_reducible refine do_un ?_ | with_reducible refine do_chain ?_ | with_reducible refine do_kchT ?_ | with_reducible refine do_kchF ?_ | with_reducible refine do_tup ?_ | with_reducible refine do_lsf ?_ | with_reducible refine do_lst ?_ | ((with_reducible refine' do_size ?_ ?_); exact rfl) | with_reducible refine do_next ?_ | with_reducible refine do_ret ?_ | with_reducible refine do_retN ?_ | with_reducible refine do_drop ?_ | with_reducible refine do_asg ?_ | with_reducible refine do_gN ?_ | ((with_reducible refine' do_gU ?_ ?_); exact rfl) | with_reducible refine do_gSub ?_ | with_reducible refine do_forI ?_ | with_reducible refine do_itS ?_ | with_reducible refine do_kits_t ?_ | with_reducible refine do_kits_l ?_ | with_reducible refine do_itR ?_ | with_reducible refine do_forNil ?_ | with_reducible refine do_forCons ?_ | with_reducible refine do_comp ?_ | with_reducible refine do_compNil ?_ | with_reducible refine do_compYes ?_ | with_reducible refine do_compT ?_ | with_reducible refine do_sl ?_ | with_reducible refine do_noP ?_ | with_reducible refine do_part ?_ | with_reducible refine do_kpart ?_ | with_reducible refine do_slT ?_ | with_reducible refine do_slL ?_ | with_reducible refine do_int0 ?_ | with_reducible refine do_addI ?_ | ((with_reducible refine' do_addT ?_ ?_); exact rfl) | ((with_reducible refine' do_addL ?_ ?_); exact rfl) | ((with_reducible refine' do_eq ?_ ?_ ?_); exact rfl; exact rfl) | ((with_reducible refine' do_ne ?_ ?_ ?_); exact rfl; exact rfl) | with_reducible refine do_is ?_ | with_reducible refine do_isnot ?_ | with_reducible refine do_ixT ?_ | with_reducible refine do_ixL ?_ | with_reducible refine do_len_t ?_ | with_reducible refine do_len_l ?_ | with_reducible refine do_tuple_l ?_ | with_reducible refine do_tuple_t ?_ | ((with_reducible refine' do_isi ?_ ?_); rotate_left; exact rfl) | with_reducible refine do_break ?_ | with_reducible refine do_cont ?_ | with_reducible refine do_andv ?_ | with_reducible refine do_orv ?_ | with_reducible refine do_notv ?_ | with_reducible refine do_knotv ?_ | with_reducible refine do_kandT ?_ | with_reducible refine do_kandF ?_ | with_reducible refine do_korT ?_ | with_reducible refine do_korF ?_ | with_reducible refine do_ord ?_ | with_reducible refine do_itX ?_ | with_reducible refine do_kitx ?_ | with_reducible refine do_list_t ?_ | with_reducible refine do_ltS ?_ | with_reducible refine do_gtS ?_ | with_reducible refine do_callV ?_ | with_reducible refine do_tabin ?_ | with_reducible refine do_tabnotN ?_ | with_reducible refine do_ktabnot ?_ | with_reducible refine do_neg ?_ | with_reducible refine do_join ?_ | with_reducible refine do_kjoin ?_ | with_reducible refine do_append ?_ | with_reducible refine do_itZ ?_)
local macro_rules | `(tactic| walk_at "rs") => `(tactic| (repeat walk_at "rs1"))
local macro_rules | `(tactic| walk_at "rd1") => `(tactic| first | ((with_reducible refine' do_norm ?_ ?_); rotate_left; simp only [List.set_cons_succ, List.set_cons_zero]; exact rfl) | ((with_reducible refine' do_normU ?_ ?_); rotate_left; simp only [setAll, List.set_cons_succ, List.set_cons_zero]; exact rfl) | ((with_reducible refine' do_var ?_ ?_); rotate_left; exact rfl) | with_reducible refine do_c ?_ | with_reducible refine do_tab ?_ | with_reducible refine do_op ?_ | with_reducible refine do_seq ?_ | with_reducible refine do_set ?_ | with_reducible refine do_cons ?_ | with_reducible refine do_nil ?_ | with_reducible refine do_call ?_ | with_reducible refine do_ifs ?_ | with_reducible refine do_test ?_ | with_reducible refine do_ktest ?_ | with_reducible refine do_kT ?_ | with_reducible refine do_kF ?_ | with_reducible refine do_knT ?_ | with_reducible refine do_knF ?_ | ((with_reducible refine' do_kT' ?_ ?_); exact rfl) | ((with_reducible refine' do_kF' ?_ ?_); exact rfl) | with_reducible refine do_and ?_ | with_reducible refine do_or ?_ | with_reducible refine do_not ?_ | with_reducible refine do_if ?_ | with_reducible refine do_un ?_ | with_reducible refine do_chain ?_ | with_reducible refine do_kchT ?_ | with_reducible refine do_kchF ?_ | with_reducible refine do_tup ?_ | with_reducible refine do_lsf ?_ | with_reducible refine do_lst ?_ | ((with_reducible refine' do_size ?_ ?_); exact rfl) | with_reducible refine do_next ?_ | with_reducible refine do_ret ?_ | with_reducible refine do_retN ?_ | with_reducible refine do_drop ?_ | with_reducible refine do_asg ?_ | with_reducible refine do_gN ?_ | ((with_reducible refine' do_gU ?_ ?_); exact rfl) | with_reducible refine do_gSub ?_ | with_reducible refine do_forI ?_ | with_reducible refine do_itS ?_ | with_reducible refine do_kits_t ?_ | with_reducible refine do_kits_l ?_ | with_reducible refine do_itR ?_ | with_reducible refine do_forNil ?_ | with_reducible refine do_forCons ?_ | with_reducible refine do_comp ?_ | with_reducible refine do_compNil ?_ | with_reducible refine do_compYes ?_ | with_reducible refine do_compT ?_ | with_reducible refine do_sl ?_ | with_reducible refine do_noP ?_ | with_reducible refine do_part ?_ | with_reducible refine do_kpart ?_ | with_reducible refine do_slT ?_ | with_reducible refine do_slL ?_ | with_reducible refine do_int0 ?_ | with_reducible refine do_addI ?_ | ((with_reducible refine' do_addT ?_ ?_); exact rfl) | ((with_reducible refine' do_addL ?_ ?_); exact rfl) | ((with_reducible refine' do_eq ?_ ?_ ?_); exact rfl; exact rfl) | ((with_reducible refine' do_ne ?_ ?_ ?_); exact rfl; exact rfl) | with_reducible refine do_is ?_ | with_reducible refine do_isnot ?_ | with_reducible refine do_ixT ?_ | with_reducible refine do_ixL ?_ | with_reducible refine do_len_t ?_ | with_reducible refine do_len_l ?_ | with_reducible refine do_tuple_l ?_ | with_reducible refine do_tuple_t ?_ | ((with_reducible refine' do_isi ?_ ?_); rotate_left; exact rfl) | with_reducible refine do_break ?_ | with_reducible refine do_cont ?_ | with_reducible refine do_andv ?_ | with_reducible refine do_orv ?_ | with_reducible refine do_notv ?_ | with_reducible refine do_knotv ?_ | with_reducible refine do_kandT ?_ | with_reducible refine do_kandF ?_ | with_reducible refine do_korT ?_ | with_reducible refine do_korF ?_ | with_reducible refine do_ord ?_ | with_reducible refine do_itX ?_ | with_reducible refine do_kitx ?_ | with_reducible refine do_list_t ?_ | with_reducible refine do_ltS ?_ | with_reducible refine do_gtS ?_ | with_reducible refine do_callV ?_ | with_reducible refine do_tabin ?_ | with_reducible refine do_tabnotN ?_ | with_reducible refine do_ktabnot ?_ | with_reducible refine do_neg ?_ | with_reducible refine do_join ?_ | with_reducible refine do_kjoin ?_ | with_reducible refine do_append ?_ | with_reducible refine do_itZ ?_)
local macro_rules | `(tactic| walk_at "rd") => `(tactic| (repeat walk_at "rd1"))


def bad1 (c : Nat) : Bool := decide (([c] : List Nat) < [32]) || decide (([126] : List Nat) < [c])
def bad2 (c : Nat) : Bool := eqR (.int (c : Int)) (.int 37)
theorem lt1 (a b : Nat) : (([a] : List Nat) < [b]) ↔ a < b := by rw [List.cons_lt_cons_iff]; simp
theorem signF_bad (c : Nat) : signF c = (!bad1 c && !bad2 c) := by
  unfold signF bad1 bad2
  rw [decide_eq_decide.mpr (lt1 c 32), decide_eq_decide.mpr (lt1 126 c)]
  have a : decide ((32 : Int) ≤ (c : Int)) = !decide (c < 32) := by
    by_cases h : c < 32
    · rw [decide_eq_true h, decide_eq_false (by omega)]; rfl
    · rw [decide_eq_false h, decide_eq_true (by omega)]; rfl
  have b : decide ((c : Int) ≤ 126) = !decide (126 < c) := by
    by_cases h : 126 < c
    · rw [decide_eq_true h, decide_eq_false (by omega)]; rfl
    · rw [decide_eq_false h, decide_eq_true (by omega)]; rfl
  rw [a, b]
  cases decide (c < 32) <;> cases decide (126 < c) <;> simp
theorem all_signF : ∀ l : List Nat, (l.map signF).all id = ((l.filter bad1).isEmpty && (l.filter bad2).isEmpty)
  | [] => rfl
  | c :: l => by
    rw [List.map_cons, List.all_cons, all_signF l, List.filter_cons, List.filter_cons]
    show (signF c && _) = _
    rw [signF_bad]
    cases bad1 c <;> cases bad2 c <;> simp
def oneR (c : Nat) : RV := .str ⟨#[c]⟩
def onR (p : Nat → Bool) : RV → Bool
  | .str z => p (z.cps.getD 0 0)
  | _ => false
theorem filt (p : Nat → Bool) (s : Str) : (signsR s).filter (onR p) = (s.cps.toList.filter p).map oneR := by
  unfold signsR
  rw [List.filter_map]
  rfl
theorem ls_empty (l : List Nat) : eqR (.ls (l.map oneR)) (.ls []) = l.isEmpty := by
  cases l <;> simp [eqR, eqRs]
theorem ls_ok (l : List Nat) : okR 16 (.ls (l.map oneR)) = true := by
  show (l.map oneR).all (okR 15) = true
  simp [List.all_map, oneR, okR]
theorem and2F {a b : Bool} {Q : RVK} {M : RM} (h : Q (.bl (a && b)) M) (e : b = false) : Q (.bl false) M := by subst e; simpa using h
theorem mapid (l : List RV) : List.map (fun v => v) l = l := by simp

set_option maxHeartbeats 40000000 in
theorem rd__law_is_said (T : Txt P w K mg)  {rs : List RV} {M : RM} {Q : RVK} (h : sp__law_is_said rs M Q) : (pk__law_is_said (base := base) T ).1 { nx := fun _ M' => Q .non M', rt := Q } (rstart N__law_is_said rs) M := by
    unfold sp__law_is_said at h
    unfold pk__law_is_said
    dsimp only
    obtain ⟨k, w, t, rfl, hk, hw, ht, h⟩ := h
    refine do_start (τ' := [some k, some w, some t, none]) rfl ?_
    walk_at "rs"
    refine do_ninT hk.ok15 rfl ?_
    walk_at "rs"
    refine do_kB (fun e => ?_) fun e => ?_
    · walk_at "rs"
      exact andF h (by have e4 : (!kindF k) = true := e; simpa using e4)
    have hk1 : kindF k = true := by have e4 : (!kindF k) = false := e; simpa using e4
    replace h := andT h hk1
    cases k with
    | str ks =>
      cases t with
      | str s =>
        walk_at "rs"
        refine do_len_s (szl (ht.2 s rfl)) ?_
        walk_at "rs"
        have hsz : (signsR s).length < sizeLine := by
          have := ht.2 s rfl
          have e2 : (signsR s).length = s.length := by simp [signsR, Str.length]
          rw [e2]; exact Nat.lt_of_le_of_lt this (by decide)
        refine do_kB (fun e => ?_) fun e => ?_
        · walk_at "rs"
          exact and2F h (by show (decide _ && _) = false; rw [decide_eq_false (by have := of_decide_eq_true e; omega)]; rfl)
        have hle : decide ((s.length : Int) ≤ 40) = true := decide_eq_true (by have := of_decide_eq_false e; omega)
        rw [show textF (.str s) = (decide ((s.length : Int) ≤ 40) && (s.cps.toList.map signF).all id) from rfl] at h
        walk_at "rs"
        refine do_kB (fun e1 => ?_) fun e1 => ?_
        · walk_at "rs"
          rw [show wordF (.str ks) w = inR w (txs ["say"]) from if_pos e1] at h
          refine do_ninL hw.ok15 rfl ?_
          walk_at "rs"
          refine do_kB (fun e3 => ?_) fun e3 => ?_
          · walk_at "rs"
            exact andF h (by have e4 : (!inR w (txs ["say"])) = true := e3; simpa using e4)
          replace h := andT h (by have e4 : (!inR w (txs ["say"])) = false := e3; simpa using e4)
          walk_at "rs"
          refine ⟨hsz, comp_filter (p := onR bad1) (f := fun v => v) _ _ (fun y hy Q' hq => ?_) (fun y hy Q' hq => ?_) ?_⟩
          · obtain ⟨c, _, rfl⟩ := List.mem_map.mp hy
            walk_at "rs"
            refine do_kB (fun e5 => ?_) fun e5 => ?_
            · have e6 : bad1 c = true := by unfold bad1; rw [Bool.or_eq_true]; exact .inl e5
              exact (show Q' true _ from e6 ▸ hq)
            · walk_at "rs"
              have e6 : bad1 c = decide (([126] : List Nat) < [c]) := by unfold bad1; rw [show decide (([c] : List Nat) < [32]) = false from e5, Bool.false_or]
              exact (show Q' (decide (([126] : List Nat) < [c])) _ from e6 ▸ hq)
          · walk_at "rs"
            exact hq
          rw [mapid, List.nil_append, filt]
          walk_at "rs"
          refine do_ne (ls_ok _) rfl ?_
          rw [ls_empty]
          walk_at "rs"
          refine do_kB (fun e5 => ?_) fun e5 => ?_
          · walk_at "rs"
            rw [all_signF] at h
            have e6 : (s.cps.toList.filter bad1).isEmpty = false := by simpa using e5
            rw [e6, Bool.false_and, Bool.and_false] at h
            exact h
          walk_at "rs"
          refine ⟨hsz, comp_filter (p := onR bad2) (f := fun v => v) _ _ (fun y hy Q' hq => ?_) (fun y hy Q' hq => ?_) ?_⟩
          · obtain ⟨c, _, rfl⟩ := List.mem_map.mp hy
            walk_at "rs"
            exact hq
          · walk_at "rs"
            exact hq
          rw [mapid, List.nil_append, filt]
          walk_at "rs"
          refine do_eq (ls_ok _) rfl ?_
          rw [ls_empty]
          rw [all_signF] at h
          have e6 : (s.cps.toList.filter bad1).isEmpty = true := by simpa using e5
          rw [e6, Bool.true_and, hle, Bool.true_and] at h
          exact h
      
        · walk_at "rs"
          rw [show wordF (.str ks) w = inR w (txs ["open", "say", "close", "break"]) from if_neg (by rw [e1]; exact Bool.false_ne_true)] at h
          refine do_ninL hw.ok15 rfl ?_
          walk_at "rs"
          refine do_kB (fun e3 => ?_) fun e3 => ?_
          · walk_at "rs"
            exact andF h (by have e4 : (!inR w (txs ["open", "say", "close", "break"])) = true := e3; simpa using e4)
          replace h := andT h (by have e4 : (!inR w (txs ["open", "say", "close", "break"])) = false := e3; simpa using e4)
          walk_at "rs"
          refine ⟨hsz, comp_filter (p := onR bad1) (f := fun v => v) _ _ (fun y hy Q' hq => ?_) (fun y hy Q' hq => ?_) ?_⟩
          · obtain ⟨c, _, rfl⟩ := List.mem_map.mp hy
            walk_at "rs"
            refine do_kB (fun e5 => ?_) fun e5 => ?_
            · have e6 : bad1 c = true := by unfold bad1; rw [Bool.or_eq_true]; exact .inl e5
              exact (show Q' true _ from e6 ▸ hq)
            · walk_at "rs"
              have e6 : bad1 c = decide (([126] : List Nat) < [c]) := by unfold bad1; rw [show decide (([c] : List Nat) < [32]) = false from e5, Bool.false_or]
              exact (show Q' (decide (([126] : List Nat) < [c])) _ from e6 ▸ hq)
          · walk_at "rs"
            exact hq
          rw [mapid, List.nil_append, filt]
          walk_at "rs"
          refine do_ne (ls_ok _) rfl ?_
          rw [ls_empty]
          walk_at "rs"
          refine do_kB (fun e5 => ?_) fun e5 => ?_
          · walk_at "rs"
            rw [all_signF] at h
            have e6 : (s.cps.toList.filter bad1).isEmpty = false := by simpa using e5
            rw [e6, Bool.false_and, Bool.and_false] at h
            exact h
          walk_at "rs"
          refine ⟨hsz, comp_filter (p := onR bad2) (f := fun v => v) _ _ (fun y hy Q' hq => ?_) (fun y hy Q' hq => ?_) ?_⟩
          · obtain ⟨c, _, rfl⟩ := List.mem_map.mp hy
            walk_at "rs"
            exact hq
          · walk_at "rs"
            exact hq
          rw [mapid, List.nil_append, filt]
          walk_at "rs"
          refine do_eq (ls_ok _) rfl ?_
          rw [ls_empty]
          rw [all_signF] at h
          have e6 : (s.cps.toList.filter bad1).isEmpty = true := by simpa using e5
          rw [e6, Bool.true_and, hle, Bool.true_and] at h
          exact h
      
      | ref a => exact (okP_ref ht).elim
      | ty a => exact (okP_ty ht).elim
      | _ => (walk_at "rs"; exact and2F h rfl)
    | ref a => exact (okP_ref hk).elim
    | ty a => exact (okP_ty hk).elim
    | _ => cases hk1
theorem fn__law_is_said {f : Addr} {fd : FuncData} (F : Fun K "_law_is_said" "_law_is_said" s__law_is_said f fd) (T : Txt P w K mg)  : FnOk P w K mg base CX0 1 f fd ["kind", "word", "text"] (upSp K sp__law_is_said) := by
  refine' rfnok F sc__law_is_said (fun rs M Q h => ?len) (fun cdv A outer s H E hr => (pk__law_is_said (base := base) T ).2 f cdv A outer s H E hr) (fun rs M Q h => rd__law_is_said T  h)
  unfold sp__law_is_said at h; obtain ⟨k, w, t, rfl, _⟩ := h; rfl
set_option maxHeartbeats 40000000 in
theorem rd__law_odd (T : Txt P w K mg) (F__law_take : RFn P w K mg base 1 "_law_take" ["bag", "many"] sp__law_take) (F__law_whole : RFn P w K mg base 1 "_law_whole" ["found"] sp__law_whole) {rs : List RV} {M : RM} {Q : RVK} (h : sp__law_odd rs M Q) : (pk__law_odd (base := base) T F__law_take F__law_whole).1 { nx := fun _ M' => Q .non M', rt := Q } (rstart N__law_odd rs) M := by
    unfold sp__law_odd at h
    unfold pk__law_odd
    dsimp only
    obtain ⟨b, n, m, x, rfl, hB, n0, n1, hp, hm, h⟩ := h
    refine do_start (τ' := [some (.ref b), some x, none, none, none]) rfl ?_
    walk_at "rs"
    refine whole_do (wh_of (hp.toP (by omega))) ?_
    walk_at "rs"
    refine do_kB (fun e => ?_) fun e => ?_
    · cases x with
      | int i =>
        walk_at "rs"
        refine take_do hB (by decide) (by decide) (by omega) fun r1 o1 ra1 rb1 ho1 => ?_
        walk_at "rs"
        refine at_ints (-1) 1 ra1 (fun d _ _ => ?_)
        walk_at "rs"
        refine do_int2 ⟨by decide, by decide, by decide⟩ ?_
        walk_at "rs"
        refine take_do (Bag.put ho1) (by decide) (by decide) (by omega) fun r2 o2 ra2 rb2 ho2 => ?_
        walk_at "rs"
        refine at_ints (-1) (10 ^ Int.toNat 59) ra2 (fun en _ _ => ?_) (by (simp only [List.length_cons, List.length_nil]; omega)) (by (simp only [AllI, and_true]; decide))
        walk_at "rs"
        refine do_mulS (by decide) (by decide) (by decide) ?_
        walk_at "rs"
        refine do_mulS (by decide) (by decide) (by decide) ?_
        walk_at "rs"
        refine take_do (Bag.put ho2) (by decide) (by decide) (by omega) fun r3 o3 ra3 rb3 ho3 => ?_
        walk_at "rs"
        refine do_kB (fun e3 => ?_) fun e3 => ?_
        · walk_at "rs"
          refine take_do (Bag.put ho3) (by decide) (by decide) (by omega) fun r4 o4 ra4 rb4 ho4 => ?_
          walk_at "rs"
          refine at_D (n := m + 1) ra4 (by (simp only [List.length_cons, List.length_append, List.length_nil]; omega)) ⟨okD_int, okD_int, okD_non, okD_bl, okD_bl, okD_str (by decide), okD_str (by decide), okD_str (by decide), okD_str (by decide), okD_str (by decide), okD_str (by decide), okD_ls0, okD_tup0, okD_ls1 hp, okD_tup1 hp, okD_str (by decide), okD_str rep41, okD_str rep40, okD_str (by decide), okD_str (by decide), okD_str (by decide), trivial⟩ fun v hv => ?_
          have := h v o4 hv (ho4.mono (by omega))
          simpa only [R.put_put] using this
        · walk_at "rs"
          refine take_do (Bag.put ho3) (by show _ < _; simp only [List.length_cons, List.length_append, List.length_nil]; decide) (by show _ < _; simp only [List.length_cons, List.length_append, List.length_nil]; decide) (by omega) fun r4 o4 ra4 rb4 ho4 => ?_
          walk_at "rs"
          refine at_D (n := m + 1) ra4 rb4 ⟨okD_int, okD_int, okD_non, okD_bl, okD_bl, okD_str (by decide), okD_str (by decide), okD_str (by decide), okD_str (by decide), okD_str (by decide), okD_str (by decide), okD_ls0, okD_tup0, okD_ls1 hp, okD_tup1 hp, okD_str (by decide), okD_str rep41, okD_str rep40, okD_str (by decide), okD_str (by decide), okD_str (by decide), trivial⟩ fun v hv => ?_
          have := h v o4 hv (ho4.mono (by omega))
          simpa only [R.put_put] using this
      | _ => cases e
    · walk_at "rs"
      refine do_int2 ⟨by decide, by decide, by decide⟩ ?_
      walk_at "rs"
      refine take_do hB (by decide) (by decide) (by omega) fun r2 o2 ra2 rb2 ho2 => ?_
      walk_at "rs"
      refine at_ints (-1) (10 ^ Int.toNat 59) ra2 (fun en _ _ => ?_) (by (simp only [List.length_cons, List.length_nil]; omega)) (by (simp only [AllI, and_true]; decide))
      walk_at "rs"
      refine do_mulS (by decide) (by decide) (by decide) ?_
      walk_at "rs"
      refine do_mulS (by decide) (by decide) (by decide) ?_
      walk_at "rs"
      refine take_do (Bag.put ho2) (by decide) (by decide) (by omega) fun r3 o3 ra3 rb3 ho3 => ?_
      walk_at "rs"
      refine do_kB (fun e3 => ?_) fun e3 => ?_
      · walk_at "rs"
        refine take_do (Bag.put ho3) (by decide) (by decide) (by omega) fun r4 o4 ra4 rb4 ho4 => ?_
        walk_at "rs"
        refine at_D (n := m + 1) ra4 (by (simp only [List.length_cons, List.length_append, List.length_nil]; omega)) ⟨okD_int, okD_int, okD_non, okD_bl, okD_bl, okD_str (by decide), okD_str (by decide), okD_str (by decide), okD_str (by decide), okD_str (by decide), okD_str (by decide), okD_ls0, okD_tup0, okD_ls1 hp, okD_tup1 hp, okD_str (by decide), okD_str rep41, okD_str rep40, okD_str (by decide), okD_str (by decide), okD_str (by decide), trivial⟩ fun v hv => ?_
        have := h v o4 hv (ho4.mono (by omega))
        simpa only [R.put_put] using this
      · walk_at "rs"
        refine take_do (Bag.put ho3) (by show _ < _; simp only [List.length_cons, List.length_append, List.length_nil]; decide) (by show _ < _; simp only [List.length_cons, List.length_append, List.length_nil]; decide) (by omega) fun r4 o4 ra4 rb4 ho4 => ?_
        walk_at "rs"
        refine at_D (n := m + 1) ra4 rb4 ⟨okD_int, okD_int, okD_non, okD_bl, okD_bl, okD_str (by decide), okD_str (by decide), okD_str (by decide), okD_str (by decide), okD_str (by decide), okD_str (by decide), okD_ls0, okD_tup0, okD_ls1 hp, okD_tup1 hp, okD_str (by decide), okD_str rep41, okD_str rep40, okD_str (by decide), okD_str (by decide), okD_str (by decide), trivial⟩ fun v hv => ?_
        have := h v o4 hv (ho4.mono (by omega))
        simpa only [R.put_put] using this
theorem fn__law_odd {f : Addr} {fd : FuncData} (F : Fun K "_law_odd" "_law_odd" s__law_odd f fd) (T : Txt P w K mg) (F__law_take : RFn P w K mg base 1 "_law_take" ["bag", "many"] sp__law_take) (F__law_whole : RFn P w K mg base 1 "_law_whole" ["found"] sp__law_whole) : FnOk P w K mg base CX0 2 f fd ["bag", "part"] (upSp K sp__law_odd) := by
  refine' rfnok F sc__law_odd (fun rs M Q h => ?len) (fun cdv A outer s H E hr => (pk__law_odd (base := base) T F__law_take F__law_whole).2 f cdv A outer s H E hr) (fun rs M Q h => rd__law_odd T F__law_take F__law_whole h)
  unfold sp__law_odd at h; obtain ⟨b, n, m, x, rfl, _⟩ := h; rfl

def isSt : RV → Bool
  | .str _ => true
  | _ => false
theorem st_of {x : RV} (h : okP x) : is_str x = some (isSt x) := by
  cases x <;> first | rfl | exact (okP_ref h).elim | exact (okP_ty h).elim
theorem kind_st {x : RV} (h : isSt x = false) : kindF x = false := by
  cases x with
  | str s => cases h
  | _ => rfl
theorem do_forl {g : RTG} {t : RTS} {D : RD} {xs xs' : List RV} {σ : RSt} {M : RM} (e : xs = xs') (h : rForL g t D xs' σ M) : rForL g t D xs σ M := by subst e; exact h
theorem in6 {n : Str} (n_out : ¬ n = "out") (n_come : ¬ n = "come") (n_lost : ¬ n = "lost") (n_wait : ¬ n = "wait") (n_rule : ¬ n = "rule") (n_unrule : ¬ n = "unrule") : inR (.str n) [.str "out", .str "come", .str "lost", .str "wait", .str "rule", .str "unrule"] = false := by
  have k : ∀ a : Str, ¬ n = a → eqR (.str a) (.str n) = false := fun a h => by simp [eqR]; exact fun e => h e.symm
  unfold R.inR
  simp only [List.any_cons, List.any_nil, k _ n_out, k _ n_come, k _ n_lost, k _ n_wait, k _ n_rule, k _ n_unrule, Bool.or_false]
theorem okT2 {x : RV} (h : okR 14 x = true) : okR 16 x = true := ok_mono (ok_mono h)
theorem bnd_out : bndF "out" = [.int (-1), .tup [.int 0, .int 99], .tup [.int 1, .int 9999], .tup [.int 0, .int 1000000], .tup [.int 1, .int 9999], .int (-2), .int (-3)] := if_pos rfl
theorem bnd_come : bndF "come" = [.int (-1), .tup [.int 1, .int 1000000], .tup [.int 1, .int 9999], .tup [.int 1, .int 9999], .int (-2), .int (-3)] := (if_neg (fun e => ne_out_come e.symm)).trans (if_pos rfl)
theorem bnd_lost : bndF "lost" = [.tup [.int 1, .int 1000000], .int (-1), .tup [.int 1, .int 9999], .tup [.int 1, .int 1000000], .tup [.int 1, .int 9999]] := (if_neg (fun e => ne_out_lost e.symm)).trans ((if_neg (fun e => ne_come_lost e.symm)).trans (if_pos rfl))
theorem bnd_wait : bndF "wait" = [.tup [.int 0, .int 1000000]] := (if_neg (fun e => ne_out_wait e.symm)).trans ((if_neg (fun e => ne_come_wait e.symm)).trans ((if_neg (fun e => ne_lost_wait e.symm)).trans ((if_neg (ne_wait_rule)).trans (rfl))))
theorem bnd_rule : bndF "rule" = [.int (-1), .tup [.int 1, .int 9999], .int (-4), .tup [.int 0, .int 99], .tup [.int 1, .int 9999]] := (if_neg (fun e => ne_out_rule e.symm)).trans ((if_neg (fun e => ne_come_rule e.symm)).trans ((if_neg (fun e => ne_lost_rule e.symm)).trans (if_pos rfl)))
theorem bnd_unrule : bndF "unrule" = [.tup [.int 0, .int 1000000]] := (if_neg (fun e => ne_out_unrule e.symm)).trans ((if_neg (fun e => ne_come_unrule e.symm)).trans ((if_neg (fun e => ne_lost_unrule e.symm)).trans ((if_neg (fun e => ne_rule_unrule e.symm)).trans (rfl))))

set_option maxHeartbeats 40000000 in
theorem rd__law_is_right (T : Txt P w K mg) (F__law_in_bounds : RFn P w K mg base 2 "_law_in_bounds" ["thing", "low", "high"] sp__law_in_bounds) (F__law_is_said : RFn P w K mg base 1 "_law_is_said" ["kind", "word", "text"] sp__law_is_said) (F__law_bounds : RFn P w K mg base 1 "_law_bounds" ["name"] sp__law_bounds) {rs : List RV} {M : RM} {Q : RVK} (h : sp__law_is_right rs M Q) : (pk__law_is_right (base := base) T F__law_in_bounds F__law_is_said F__law_bounds).1 { nx := fun _ M' => Q .non M', rt := Q } (rstart N__law_is_right rs) M := by
    unfold sp__law_is_right at h
    unfold pk__law_is_right
    dsimp only
    obtain ⟨x, rfl, hx, h⟩ := h
    refine do_start (τ' := [some x, none, none, none]) rfl ?_
    cases x with
    | ref a => exact (by have := hx.1; simp [okR] at this)
    | ty a => exact (by have := hx.1; simp [okR] at this)
    | tup xs =>
      have hxs := hx.2 xs rfl
      walk_at "rs"
      refine do_eq (okT2 hx.1) rfl ?_
      cases xs with
      | nil => (walk_at "rd"; exact h)
      | cons y ps =>
        walk_at "rd"
        refine do_kat at0 ?_
        cases y with
        | ref a => exact (okP_ref hxs.1).elim
        | ty a => exact (okP_ty hxs.1).elim
        | str n =>
          by_cases n_out : n = "out"
          · subst n_out
            rw [show deedF (.tup (.str "out" :: ps)) = outF ps from by_out] at h
            walk_at "rs"
            refine do_kat at0 ?_
            walk_at "rs"
            refine do_ninT rfl rfl ?_
            walk_at "rs"
            refine do_kF' (by decide +kernel) ?_
            walk_at "rs"
            refine do_kat at0 ?_
            walk_at "rs"
            refine bnd_do ?_
            rw [bnd_out]
            walk_at "rs"
            refine do_kB (fun e => ?_) fun e => ?_
            · have e0 : ps.length ≠ 7 := by intro z; simp [eqR, z] at e
              walk_at "rs"
              rw [outF_no e0] at h
              exact h
            have e0 : ps.length = 7 := by simp [eqR] at e; omega
            obtain ⟨a0, a1, a2, a3, a4, a5, a6, rfl⟩ := len7 e0
            obtain ⟨ha0, ha1, ha2, ha3, ha4, ha5, ha6, _⟩ := hxs.2
            walk_at "rs"
            rw [cut1]
            refine do_kitz rfl (zs := [.tup [a0, .int (-1)], .tup [a1, .tup [.int 0, .int 99]], .tup [a2, .tup [.int 1, .int 9999]], .tup [a3, .tup [.int 0, .int 1000000]], .tup [a4, .tup [.int 1, .int 9999]], .tup [a5, .int (-2)], .tup [a6, .int (-3)]]) rfl ?_
            walk_at "rd"
            refine do_isi (st_of ha0) ?_
            walk_at "rs"
            refine do_kB (fun e => ?_) fun e => ?_
            · walk_at "rs"
              rw [show outF [a0, a1, a2, a3, a4, a5, a6] = false from by simp [outF, letterF, kind_st (show isSt a0 = false by simpa using e)]] at h
              exact h
            walk_at "rs"
            refine do_ninT ha0.ok15 rfl ?_
            walk_at "rs"
            refine do_kB (fun e => ?_) fun e => ?_
            · have e0 : kindF a0 = false := by have z : (!kindF a0) = true := e; simpa using z
              walk_at "rs"
              rw [show outF [a0, a1, a2, a3, a4, a5, a6] = false from by simp [outF, letterF, e0]] at h
              exact h
            have e0 : kindF a0 = true := by have z : (!kindF a0) = false := e; simpa using z
            walk_at "rd"
            walk_at "rd"
            refine do_kat at0 ?_
            walk_at "rs"
            refine do_kat at1 ?_
            walk_at "rs"
            refine bounds_do ha1 ?_
            walk_at "rs"
            refine do_kB (fun e => ?_) fun e => ?_
            · have e1 : inB a1 0 99 = false := by simpa using e
              walk_at "rs"
              rw [show outF [a0, a1, a2, a3, a4, a5, a6] = false from by simp [outF, letterF, e1]] at h
              exact h
            have e1 : inB a1 0 99 = true := by simpa using e
            walk_at "rd"
            refine do_kat at0 ?_
            walk_at "rs"
            refine do_kat at1 ?_
            walk_at "rs"
            refine bounds_do ha2 ?_
            walk_at "rs"
            refine do_kB (fun e => ?_) fun e => ?_
            · have e2 : inB a2 1 9999 = false := by simpa using e
              walk_at "rs"
              rw [show outF [a0, a1, a2, a3, a4, a5, a6] = false from by simp [outF, letterF, e2]] at h
              exact h
            have e2 : inB a2 1 9999 = true := by simpa using e
            walk_at "rd"
            refine do_kat at0 ?_
            walk_at "rs"
            refine do_kat at1 ?_
            walk_at "rs"
            refine bounds_do ha3 ?_
            walk_at "rs"
            refine do_kB (fun e => ?_) fun e => ?_
            · have e3 : inB a3 0 1000000 = false := by simpa using e
              walk_at "rs"
              rw [show outF [a0, a1, a2, a3, a4, a5, a6] = false from by simp [outF, letterF, e3]] at h
              exact h
            have e3 : inB a3 0 1000000 = true := by simpa using e
            walk_at "rd"
            refine do_kat at0 ?_
            walk_at "rs"
            refine do_kat at1 ?_
            walk_at "rs"
            refine bounds_do ha4 ?_
            walk_at "rs"
            refine do_kB (fun e => ?_) fun e => ?_
            · have e4 : inB a4 1 9999 = false := by simpa using e
              walk_at "rs"
              rw [show outF [a0, a1, a2, a3, a4, a5, a6] = false from by simp [outF, letterF, e4]] at h
              exact h
            have e4 : inB a4 1 9999 = true := by simpa using e
            walk_at "rd"
            walk_at "rd"
            walk_at "rs"
            refine do_ninL rfl rfl ?_
            refine do_kor (fun z => absurd z (by decide +kernel)) fun _ => ?_
            walk_at "rs"
            refine do_kat at1 ?_
            walk_at "rs"
            refine do_kat (v := a5) rfl ?_
            walk_at "rs"
            refine do_kat (v := a6) rfl ?_
            walk_at "rs"
            refine said2_do ha0 ha5 ha6 ?_
            rw [show outF [a0, a1, a2, a3, a4, a5, a6] = letterF a0 a5 a6 from by simp [outF, e1, e2, e3, e4]] at h
            exact h
          by_cases n_come : n = "come"
          · subst n_come
            rw [show deedF (.tup (.str "come" :: ps)) = comeF ps from by_come] at h
            walk_at "rs"
            refine do_kat at0 ?_
            walk_at "rs"
            refine do_ninT rfl rfl ?_
            walk_at "rs"
            refine do_kF' (by decide +kernel) ?_
            walk_at "rs"
            refine do_kat at0 ?_
            walk_at "rs"
            refine bnd_do ?_
            rw [bnd_come]
            walk_at "rs"
            refine do_kB (fun e => ?_) fun e => ?_
            · have e0 : ps.length ≠ 6 := by intro z; simp [eqR, z] at e
              walk_at "rs"
              rw [comeF_no e0] at h
              exact h
            have e0 : ps.length = 6 := by simp [eqR] at e; omega
            obtain ⟨a0, a1, a2, a3, a4, a5, rfl⟩ := len6 e0
            obtain ⟨ha0, ha1, ha2, ha3, ha4, ha5, _⟩ := hxs.2
            walk_at "rs"
            rw [cut1]
            refine do_kitz rfl (zs := [.tup [a0, .int (-1)], .tup [a1, .tup [.int 1, .int 1000000]], .tup [a2, .tup [.int 1, .int 9999]], .tup [a3, .tup [.int 1, .int 9999]], .tup [a4, .int (-2)], .tup [a5, .int (-3)]]) rfl ?_
            walk_at "rd"
            refine do_isi (st_of ha0) ?_
            walk_at "rs"
            refine do_kB (fun e => ?_) fun e => ?_
            · walk_at "rs"
              rw [show comeF [a0, a1, a2, a3, a4, a5] = false from by simp [comeF, letterF, kind_st (show isSt a0 = false by simpa using e)]] at h
              exact h
            walk_at "rs"
            refine do_ninT ha0.ok15 rfl ?_
            walk_at "rs"
            refine do_kB (fun e => ?_) fun e => ?_
            · have e0 : kindF a0 = false := by have z : (!kindF a0) = true := e; simpa using z
              walk_at "rs"
              rw [show comeF [a0, a1, a2, a3, a4, a5] = false from by simp [comeF, letterF, e0]] at h
              exact h
            have e0 : kindF a0 = true := by have z : (!kindF a0) = false := e; simpa using z
            walk_at "rd"
            walk_at "rd"
            refine do_kat at0 ?_
            walk_at "rs"
            refine do_kat at1 ?_
            walk_at "rs"
            refine bounds_do ha1 ?_
            walk_at "rs"
            refine do_kB (fun e => ?_) fun e => ?_
            · have e1 : inB a1 1 1000000 = false := by simpa using e
              walk_at "rs"
              rw [show comeF [a0, a1, a2, a3, a4, a5] = false from by simp [comeF, letterF, e1]] at h
              exact h
            have e1 : inB a1 1 1000000 = true := by simpa using e
            walk_at "rd"
            refine do_kat at0 ?_
            walk_at "rs"
            refine do_kat at1 ?_
            walk_at "rs"
            refine bounds_do ha2 ?_
            walk_at "rs"
            refine do_kB (fun e => ?_) fun e => ?_
            · have e2 : inB a2 1 9999 = false := by simpa using e
              walk_at "rs"
              rw [show comeF [a0, a1, a2, a3, a4, a5] = false from by simp [comeF, letterF, e2]] at h
              exact h
            have e2 : inB a2 1 9999 = true := by simpa using e
            walk_at "rd"
            refine do_kat at0 ?_
            walk_at "rs"
            refine do_kat at1 ?_
            walk_at "rs"
            refine bounds_do ha3 ?_
            walk_at "rs"
            refine do_kB (fun e => ?_) fun e => ?_
            · have e3 : inB a3 1 9999 = false := by simpa using e
              walk_at "rs"
              rw [show comeF [a0, a1, a2, a3, a4, a5] = false from by simp [comeF, letterF, e3]] at h
              exact h
            have e3 : inB a3 1 9999 = true := by simpa using e
            walk_at "rd"
            walk_at "rd"
            walk_at "rs"
            refine do_ninL rfl rfl ?_
            refine do_kor (fun z => absurd z (by decide +kernel)) fun _ => ?_
            walk_at "rs"
            refine do_kat at1 ?_
            walk_at "rs"
            refine do_kat (v := a4) rfl ?_
            walk_at "rs"
            refine do_kat (v := a5) rfl ?_
            walk_at "rs"
            refine said2_do ha0 ha4 ha5 ?_
            rw [show comeF [a0, a1, a2, a3, a4, a5] = letterF a0 a4 a5 from by simp [comeF, e1, e2, e3]] at h
            exact h
          by_cases n_lost : n = "lost"
          · subst n_lost
            rw [show deedF (.tup (.str "lost" :: ps)) = lostF ps from by_lost] at h
            walk_at "rs"
            refine do_kat at0 ?_
            walk_at "rs"
            refine do_ninT rfl rfl ?_
            walk_at "rs"
            refine do_kF' (by decide +kernel) ?_
            walk_at "rs"
            refine do_kat at0 ?_
            walk_at "rs"
            refine bnd_do ?_
            rw [bnd_lost]
            walk_at "rs"
            refine do_kB (fun e => ?_) fun e => ?_
            · have e0 : ps.length ≠ 5 := by intro z; simp [eqR, z] at e
              walk_at "rs"
              rw [lostF_no e0] at h
              exact h
            have e0 : ps.length = 5 := by simp [eqR] at e; omega
            obtain ⟨a0, a1, a2, a3, a4, rfl⟩ := len5 e0
            obtain ⟨ha0, ha1, ha2, ha3, ha4, _⟩ := hxs.2
            walk_at "rs"
            rw [cut1]
            refine do_kitz rfl (zs := [.tup [a0, .tup [.int 1, .int 1000000]], .tup [a1, .int (-1)], .tup [a2, .tup [.int 1, .int 9999]], .tup [a3, .tup [.int 1, .int 1000000]], .tup [a4, .tup [.int 1, .int 9999]]]) rfl ?_
            walk_at "rd"
            refine do_kat at0 ?_
            walk_at "rs"
            refine do_kat at1 ?_
            walk_at "rs"
            refine bounds_do ha0 ?_
            walk_at "rs"
            refine do_kB (fun e => ?_) fun e => ?_
            · have e0 : inB a0 1 1000000 = false := by simpa using e
              walk_at "rs"
              rw [show lostF [a0, a1, a2, a3, a4] = false from by simp [lostF, letterF, e0]] at h
              exact h
            have e0 : inB a0 1 1000000 = true := by simpa using e
            walk_at "rd"
            refine do_isi (st_of ha1) ?_
            walk_at "rs"
            refine do_kB (fun e => ?_) fun e => ?_
            · walk_at "rs"
              rw [show lostF [a0, a1, a2, a3, a4] = false from by simp [lostF, letterF, kind_st (show isSt a1 = false by simpa using e)]] at h
              exact h
            walk_at "rs"
            refine do_ninT ha1.ok15 rfl ?_
            walk_at "rs"
            refine do_kB (fun e => ?_) fun e => ?_
            · have e1 : kindF a1 = false := by have z : (!kindF a1) = true := e; simpa using z
              walk_at "rs"
              rw [show lostF [a0, a1, a2, a3, a4] = false from by simp [lostF, letterF, e1]] at h
              exact h
            have e1 : kindF a1 = true := by have z : (!kindF a1) = false := e; simpa using z
            walk_at "rd"
            walk_at "rd"
            refine do_kat at0 ?_
            walk_at "rs"
            refine do_kat at1 ?_
            walk_at "rs"
            refine bounds_do ha2 ?_
            walk_at "rs"
            refine do_kB (fun e => ?_) fun e => ?_
            · have e2 : inB a2 1 9999 = false := by simpa using e
              walk_at "rs"
              rw [show lostF [a0, a1, a2, a3, a4] = false from by simp [lostF, letterF, e2]] at h
              exact h
            have e2 : inB a2 1 9999 = true := by simpa using e
            walk_at "rd"
            refine do_kat at0 ?_
            walk_at "rs"
            refine do_kat at1 ?_
            walk_at "rs"
            refine bounds_do ha3 ?_
            walk_at "rs"
            refine do_kB (fun e => ?_) fun e => ?_
            · have e3 : inB a3 1 1000000 = false := by simpa using e
              walk_at "rs"
              rw [show lostF [a0, a1, a2, a3, a4] = false from by simp [lostF, letterF, e3]] at h
              exact h
            have e3 : inB a3 1 1000000 = true := by simpa using e
            walk_at "rd"
            refine do_kat at0 ?_
            walk_at "rs"
            refine do_kat at1 ?_
            walk_at "rs"
            refine bounds_do ha4 ?_
            walk_at "rs"
            refine do_kB (fun e => ?_) fun e => ?_
            · have e4 : inB a4 1 9999 = false := by simpa using e
              walk_at "rs"
              rw [show lostF [a0, a1, a2, a3, a4] = false from by simp [lostF, letterF, e4]] at h
              exact h
            have e4 : inB a4 1 9999 = true := by simpa using e
            walk_at "rs"
            refine do_ninL rfl rfl ?_
            refine do_kor (fun _ => ?_) fun z => absurd z (by decide +kernel)
            rw [show lostF [a0, a1, a2, a3, a4] = true from by simp [lostF, e0, e1, e2, e3, e4]] at h
            exact h
          by_cases n_wait : n = "wait"
          · subst n_wait
            rw [show deedF (.tup (.str "wait" :: ps)) = tickF ps from by_wait] at h
            walk_at "rs"
            refine do_kat at0 ?_
            walk_at "rs"
            refine do_ninT rfl rfl ?_
            walk_at "rs"
            refine do_kF' (by decide +kernel) ?_
            walk_at "rs"
            refine do_kat at0 ?_
            walk_at "rs"
            refine bnd_do ?_
            rw [bnd_wait]
            walk_at "rs"
            refine do_kB (fun e => ?_) fun e => ?_
            · have e0 : ps.length ≠ 1 := by intro z; simp [eqR, z] at e
              walk_at "rs"
              rw [tickF_no e0] at h
              exact h
            have e0 : ps.length = 1 := by simp [eqR] at e; omega
            obtain ⟨a0, rfl⟩ := len1 e0
            obtain ⟨ha0, _⟩ := hxs.2
            walk_at "rs"
            rw [cut1]
            refine do_kitz rfl (zs := [.tup [a0, .tup [.int 0, .int 1000000]]]) rfl ?_
            walk_at "rd"
            refine do_kat at0 ?_
            walk_at "rs"
            refine do_kat at1 ?_
            walk_at "rs"
            refine bounds_do ha0 ?_
            walk_at "rs"
            refine do_kB (fun e => ?_) fun e => ?_
            · have e0 : inB a0 0 1000000 = false := by simpa using e
              walk_at "rs"
              rw [show tickF [a0] = false from by simp [tickF, letterF, e0]] at h
              exact h
            have e0 : inB a0 0 1000000 = true := by simpa using e
            walk_at "rs"
            refine do_ninL rfl rfl ?_
            refine do_kor (fun _ => ?_) fun z => absurd z (by decide +kernel)
            rw [show tickF [a0] = true from by simp [tickF, e0]] at h
            exact h
          by_cases n_rule : n = "rule"
          · subst n_rule
            rw [show deedF (.tup (.str "rule" :: ps)) = ruleF ps from by_rule] at h
            walk_at "rs"
            refine do_kat at0 ?_
            walk_at "rs"
            refine do_ninT rfl rfl ?_
            walk_at "rs"
            refine do_kF' (by decide +kernel) ?_
            walk_at "rs"
            refine do_kat at0 ?_
            walk_at "rs"
            refine bnd_do ?_
            rw [bnd_rule]
            walk_at "rs"
            refine do_kB (fun e => ?_) fun e => ?_
            · have e0 : ps.length ≠ 5 := by intro z; simp [eqR, z] at e
              walk_at "rs"
              rw [ruleF_no e0] at h
              exact h
            have e0 : ps.length = 5 := by simp [eqR] at e; omega
            obtain ⟨a0, a1, a2, a3, a4, rfl⟩ := len5 e0
            obtain ⟨ha0, ha1, ha2, ha3, ha4, _⟩ := hxs.2
            walk_at "rs"
            rw [cut1]
            refine do_kitz rfl (zs := [.tup [a0, .int (-1)], .tup [a1, .tup [.int 1, .int 9999]], .tup [a2, .int (-4)], .tup [a3, .tup [.int 0, .int 99]], .tup [a4, .tup [.int 1, .int 9999]]]) rfl ?_
            walk_at "rd"
            refine do_isi (st_of ha0) ?_
            walk_at "rs"
            refine do_kB (fun e => ?_) fun e => ?_
            · walk_at "rs"
              rw [show ruleF [a0, a1, a2, a3, a4] = false from by simp [ruleF, letterF, kind_st (show isSt a0 = false by simpa using e)]] at h
              exact h
            walk_at "rs"
            refine do_ninT ha0.ok15 rfl ?_
            walk_at "rs"
            refine do_kB (fun e => ?_) fun e => ?_
            · have e0 : kindF a0 = false := by have z : (!kindF a0) = true := e; simpa using z
              walk_at "rs"
              rw [show ruleF [a0, a1, a2, a3, a4] = false from by simp [ruleF, letterF, e0]] at h
              exact h
            have e0 : kindF a0 = true := by have z : (!kindF a0) = false := e; simpa using z
            walk_at "rd"
            walk_at "rd"
            refine do_kat at0 ?_
            walk_at "rs"
            refine do_kat at1 ?_
            walk_at "rs"
            refine bounds_do ha1 ?_
            walk_at "rs"
            refine do_kB (fun e => ?_) fun e => ?_
            · have e1 : inB a1 1 9999 = false := by simpa using e
              walk_at "rs"
              rw [show ruleF [a0, a1, a2, a3, a4] = false from by simp [ruleF, letterF, e1]] at h
              exact h
            have e1 : inB a1 1 9999 = true := by simpa using e
            walk_at "rd"
            refine do_kB (fun e => ?_) fun e => ?_
            · walk_at "rs"
              refine bounds_do ha2 ?_
              walk_at "rs"
              refine do_kB (fun e2 => ?_) fun e2 => ?_
              · have z1 : isN a2 = false := by simpa using e
                have z2 : inB a2 0 1000000 = false := by simpa using e2
                walk_at "rs"
                rw [show ruleF [a0, a1, a2, a3, a4] = false from by simp [ruleF, letterF, z1, z2]] at h
                exact h
              · have e2 : (isN a2 || inB a2 0 1000000) = true := (Bool.or_eq_true _ _).mpr (.inr (by simpa using e2))
                walk_at "rd"
                refine do_kat at0 ?_
                walk_at "rs"
                refine do_kat at1 ?_
                walk_at "rs"
                refine bounds_do ha3 ?_
                walk_at "rs"
                refine do_kB (fun e => ?_) fun e => ?_
                · have e3 : inB a3 0 99 = false := by simpa using e
                  walk_at "rs"
                  rw [show ruleF [a0, a1, a2, a3, a4] = false from by simp [ruleF, letterF, e3]] at h
                  exact h
                have e3 : inB a3 0 99 = true := by simpa using e
                walk_at "rd"
                refine do_kat at0 ?_
                walk_at "rs"
                refine do_kat at1 ?_
                walk_at "rs"
                refine bounds_do ha4 ?_
                walk_at "rs"
                refine do_kB (fun e => ?_) fun e => ?_
                · have e4 : inB a4 1 9999 = false := by simpa using e
                  walk_at "rs"
                  rw [show ruleF [a0, a1, a2, a3, a4] = false from by simp [ruleF, letterF, e4]] at h
                  exact h
                have e4 : inB a4 1 9999 = true := by simpa using e
                walk_at "rs"
                refine do_ninL rfl rfl ?_
                refine do_kor (fun _ => ?_) fun z => absurd z (by decide +kernel)
                rw [show ruleF [a0, a1, a2, a3, a4] = true from by simp [ruleF, e0, e1, e2, e3, e4]] at h
                exact h
            · have e2 : (isN a2 || inB a2 0 1000000) = true := (Bool.or_eq_true _ _).mpr (.inl (by simpa using e))
              walk_at "rd"
              refine do_kat at0 ?_
              walk_at "rs"
              refine do_kat at1 ?_
              walk_at "rs"
              refine bounds_do ha3 ?_
              walk_at "rs"
              refine do_kB (fun e => ?_) fun e => ?_
              · have e3 : inB a3 0 99 = false := by simpa using e
                walk_at "rs"
                rw [show ruleF [a0, a1, a2, a3, a4] = false from by simp [ruleF, letterF, e3]] at h
                exact h
              have e3 : inB a3 0 99 = true := by simpa using e
              walk_at "rd"
              refine do_kat at0 ?_
              walk_at "rs"
              refine do_kat at1 ?_
              walk_at "rs"
              refine bounds_do ha4 ?_
              walk_at "rs"
              refine do_kB (fun e => ?_) fun e => ?_
              · have e4 : inB a4 1 9999 = false := by simpa using e
                walk_at "rs"
                rw [show ruleF [a0, a1, a2, a3, a4] = false from by simp [ruleF, letterF, e4]] at h
                exact h
              have e4 : inB a4 1 9999 = true := by simpa using e
              walk_at "rs"
              refine do_ninL rfl rfl ?_
              refine do_kor (fun _ => ?_) fun z => absurd z (by decide +kernel)
              rw [show ruleF [a0, a1, a2, a3, a4] = true from by simp [ruleF, e0, e1, e2, e3, e4]] at h
              exact h
          by_cases n_unrule : n = "unrule"
          · subst n_unrule
            rw [show deedF (.tup (.str "unrule" :: ps)) = tickF ps from by_unrule] at h
            walk_at "rs"
            refine do_kat at0 ?_
            walk_at "rs"
            refine do_ninT rfl rfl ?_
            walk_at "rs"
            refine do_kF' (by decide +kernel) ?_
            walk_at "rs"
            refine do_kat at0 ?_
            walk_at "rs"
            refine bnd_do ?_
            rw [bnd_unrule]
            walk_at "rs"
            refine do_kB (fun e => ?_) fun e => ?_
            · have e0 : ps.length ≠ 1 := by intro z; simp [eqR, z] at e
              walk_at "rs"
              rw [tickF_no e0] at h
              exact h
            have e0 : ps.length = 1 := by simp [eqR] at e; omega
            obtain ⟨a0, rfl⟩ := len1 e0
            obtain ⟨ha0, _⟩ := hxs.2
            walk_at "rs"
            rw [cut1]
            refine do_kitz rfl (zs := [.tup [a0, .tup [.int 0, .int 1000000]]]) rfl ?_
            walk_at "rd"
            refine do_kat at0 ?_
            walk_at "rs"
            refine do_kat at1 ?_
            walk_at "rs"
            refine bounds_do ha0 ?_
            walk_at "rs"
            refine do_kB (fun e => ?_) fun e => ?_
            · have e0 : inB a0 0 1000000 = false := by simpa using e
              walk_at "rs"
              rw [show tickF [a0] = false from by simp [tickF, letterF, e0]] at h
              exact h
            have e0 : inB a0 0 1000000 = true := by simpa using e
            walk_at "rs"
            refine do_ninL rfl rfl ?_
            refine do_kor (fun _ => ?_) fun z => absurd z (by decide +kernel)
            rw [show tickF [a0] = true from by simp [tickF, e0]] at h
            exact h
          walk_at "rs"
          refine do_kat at0 ?_
          walk_at "rs"
          refine do_ninT rfl rfl ?_
          walk_at "rs"
          refine do_kT' (by rw [in6 n_out n_come n_lost n_wait n_rule n_unrule]; rfl) ?_
          rw [show deedF (.tup (.str n :: ps)) = false from by_no n_out n_come n_lost n_wait n_rule n_unrule] at h
          walk_at "rs"
          exact h
        | _ => (walk_at "rs"; exact h)
    | _ => (walk_at "rs"; exact h)
theorem fn__law_is_right {f : Addr} {fd : FuncData} (F : Fun K "_law_is_right" "_law_is_right" s__law_is_right f fd) (T : Txt P w K mg) (F__law_in_bounds : RFn P w K mg base 2 "_law_in_bounds" ["thing", "low", "high"] sp__law_in_bounds) (F__law_is_said : RFn P w K mg base 1 "_law_is_said" ["kind", "word", "text"] sp__law_is_said) (F__law_bounds : RFn P w K mg base 1 "_law_bounds" ["name"] sp__law_bounds) : FnOk P w K mg base CX0 3 f fd ["thing"] (upSp K sp__law_is_right) := by
  refine' rfnok F sc__law_is_right (fun rs M Q h => ?len) (fun cdv A outer s H E hr => (pk__law_is_right (base := base) T F__law_in_bounds F__law_is_said F__law_bounds).2 f cdv A outer s H E hr) (fun rs M Q h => rd__law_is_right T F__law_in_bounds F__law_is_said F__law_bounds h)
  unfold sp__law_is_right at h; obtain ⟨x, rfl, _⟩ := h; rfl

def BndOk (x : RV) : Prop := x = .int (-1) ∨ x = .int (-2) ∨ x = .int (-3) ∨ x = .int (-4) ∨ ∃ lo hi : Int, x = .tup [.int lo, .int hi] ∧ 0 ≤ lo ∧ lo ≤ hi ∧ hi ≤ 1000000
def AllB : List RV → Prop
  | [] => True
  | x :: r => BndOk x ∧ AllB r
theorem AllB.mem : ∀ {xs : List RV}, AllB xs → ∀ v ∈ xs, BndOk v
  | x :: r, h, v, m => by
    rcases List.mem_cons.mp m with rfl | m
    · exact h.1
    · exact AllB.mem h.2 v m
theorem b1 : BndOk (.int (-1)) := .inl rfl
theorem b2 : BndOk (.int (-2)) := .inr (.inl rfl)
theorem b3 : BndOk (.int (-3)) := .inr (.inr (.inl rfl))
theorem b4 : BndOk (.int (-4)) := .inr (.inr (.inr (.inl rfl)))
theorem b5 {lo hi : Int} (h1 : 0 ≤ lo) (h2 : lo ≤ hi) (h3 : hi ≤ 1000000) : BndOk (.tup [.int lo, .int hi]) := .inr (.inr (.inr (.inr ⟨lo, hi, rfl, h1, h2, h3⟩)))
theorem bndF_ok (n : Str) : AllB (bndF n) ∧ (bndF n).length ≤ 7 := by
  unfold bndF
  split
  · exact ⟨⟨b1, b5 (by decide) (by decide) (by decide), b5 (by decide) (by decide) (by decide), b5 (by decide) (by decide) (by decide), b5 (by decide) (by decide) (by decide), b2, b3, trivial⟩, by decide⟩
  split
  · exact ⟨⟨b1, b5 (by decide) (by decide) (by decide), b5 (by decide) (by decide) (by decide), b5 (by decide) (by decide) (by decide), b2, b3, trivial⟩, by decide⟩
  split
  · exact ⟨⟨b5 (by decide) (by decide) (by decide), b1, b5 (by decide) (by decide) (by decide), b5 (by decide) (by decide) (by decide), b5 (by decide) (by decide) (by decide), trivial⟩, by decide⟩
  split
  · exact ⟨⟨b1, b5 (by decide) (by decide) (by decide), b4, b5 (by decide) (by decide) (by decide), b5 (by decide) (by decide) (by decide), trivial⟩, by decide⟩
  · exact ⟨⟨b5 (by decide) (by decide) (by decide), trivial⟩, by decide⟩

theorem szs {n : Nat} (h : n ≤ 1000) : n < sizeLine := Nat.lt_of_le_of_lt h (by decide)
theorem Bag.mono {M : RM} {b : Addr} {m n : Int} (h : Bag M b m) (l : m ≤ n) : Bag M b n := by
  obtain ⟨o, e, k⟩ := h
  exact ⟨o, e, k.mono l⟩

set_option maxHeartbeats 40000000 in
theorem rd__law_a_deed (T : Txt P w K mg) (F__law_take : RFn P w K mg base 1 "_law_take" ["bag", "many"] sp__law_take) (F__law_said : RFn P w K mg base 2 "_law_said" ["bag"] sp__law_said) (F__law_bounds : RFn P w K mg base 1 "_law_bounds" ["name"] sp__law_bounds) {rs : List RV} {M : RM} {Q : RVK} (h : sp__law_a_deed rs M Q) : (pk__law_a_deed (base := base) T F__law_take F__law_said F__law_bounds).1 { nx := fun _ M' => Q .non M', rt := Q } (rstart N__law_a_deed rs) M := by
    unfold sp__law_a_deed at h
    unfold pk__law_a_deed
    dsimp only
    obtain ⟨b, n, rfl, hB, n0, n1, h⟩ := h
    refine do_start (τ' := [some (.ref b), none, none, none, none, none, none]) rfl ?_
    walk_at "rs"
    refine take_do hB (by decide) (by decide) (by omega) fun r1 o1 ra1 rb1 ho1 => ?_
    walk_at "rs"
    refine at_strs (fun z => z.length ≤ 1000) ra1 ⟨by decide, by decide, by decide, by decide, by decide, by decide, trivial⟩ fun nm hnm => ?_
    walk_at "rs"
    refine take_do (Bag.put ho1) (by decide) (by decide) (by omega) fun r2 o2 ra2 rb2 ho2 => ?_
    walk_at "rs"
    refine at_strs (fun z => z.length ≤ 1000) ra2 ⟨by decide, by decide, trivial⟩ fun kd hkd => ?_
    walk_at "rs"
    refine fun p hp => ?_
    have hpb : p ≠ b := fun z => by subst z; rw [R.put_same] at hp; cases hp
    walk_at "rs"
    refine bnd_do ?_
    walk_at "rs"
    have hb7 := (bndF_ok nm).2
    refine forL_ix (fun i σ M => ∃ s4 s5 s6 : Option RV, σ = [some (.ref b), some (.str nm), some (.str kd), some (.ref p), s4, s5, s6] ∧ Bag M b (n + 2 + 10 * (i : Int)) ∧ ∃ ys, M p = some (.lst ys) ∧ AllD 1 ys ∧ ys.length = i + 1) BndOk (bndF nm).length ?_ ?_ (bndF nm) 0 (fun x hx => (bndF_ok nm).1.mem x hx) (by omega) _ _ ⟨none, none, none, rfl, ((Bag.put ho2).mono (by omega)).other hpb, [.str nm], R.put_same, ⟨okD_str hnm, trivial⟩, rfl⟩
    · rintro i x σ M1 N hi hx ⟨s4, s5, s6, rfl, hBag, ys, hys0, hys, hyl⟩ hN
      rcases hx with rfl | rfl | rfl | rfl | ⟨lo, hi', rfl, hl0, hl1, hl2⟩
      · walk_at "rd"
        refine do_kapp hys0 ?_
        walk_at "rs"
        refine ⟨ys, _, rfl, hys0, szs (by omega), ?_⟩
        walk_at "rs"
        exact hN _ _ ⟨_, _, _, rfl, (Bag.mono hBag (by omega)).other hpb, ys ++ [.str kd], R.put_same, hys.app (ys := [.str kd]) ⟨okD_str hkd, trivial⟩, by rw [List.length_append, hyl]; rfl⟩
      · walk_at "rd"
        refine do_kapp hys0 ?_
        walk_at "rs"
        refine do_kB (fun e => ?_) fun e => ?_
        · walk_at "rs"
          refine ⟨ys, _, rfl, hys0, szs (by omega), ?_⟩
          walk_at "rs"
          exact hN _ _ ⟨_, _, _, rfl, (Bag.mono hBag (by omega)).other hpb, ys ++ [.str _], R.put_same, hys.app (ys := [.str _]) ⟨okD_str (by decide), trivial⟩, by rw [List.length_append, hyl]; rfl⟩
        · walk_at "rs"
          refine take_do hBag (by decide) (by decide) (by omega) fun r5 o5 ra5 rb5 ho5 => ?_
          walk_at "rs"
          refine at_strs (fun z => z.length ≤ 1000) ra5 ⟨by decide, by decide, by decide, by decide, trivial⟩ fun wd hwd => ?_
          walk_at "rs"
          refine ⟨ys, _, rfl, put_at hys0 hpb, szs (by omega), ?_⟩
          walk_at "rs"
          exact hN _ _ ⟨_, _, _, rfl, (Bag.mono (Bag.put ho5) (by omega)).other hpb, ys ++ [.str wd], R.put_same, hys.app (ys := [.str wd]) ⟨okD_str hwd, trivial⟩, by rw [List.length_append, hyl]; rfl⟩
      · walk_at "rd"
        refine do_kapp hys0 ?_
        walk_at "rs"
        refine said_do hBag (by omega) (by omega) fun z o5 hz ho5 => ?_
        walk_at "rs"
        refine ⟨ys, _, rfl, put_at hys0 hpb, szs (by omega), ?_⟩
        walk_at "rs"
        exact hN _ _ ⟨_, _, _, rfl, (Bag.mono (Bag.put ho5) (by omega)).other hpb, ys ++ [.str z], R.put_same, hys.app (ys := [.str z]) ⟨okD_str hz, trivial⟩, by rw [List.length_append, hyl]; rfl⟩
      · walk_at "rd"
        refine do_kapp hys0 ?_
        walk_at "rs"
        refine take_do hBag (by decide) (by decide) (by omega) fun r5 o5 ra5 rb5 ho5 => ?_
        walk_at "rs"
        refine take_do (Bag.put ho5) (by decide) (by decide) (by omega) fun r6 o6 ra6 rb6 ho6 => ?_
        walk_at "rs"
        refine at_D (n := 1) ra6 (by (simp only [List.length_cons, List.length_nil]; omega)) ⟨okD_non, okD_int, okD_int, okD_int, trivial⟩ fun v hv => ?_
        walk_at "rs"
        refine ⟨ys, _, rfl, put_at (put_at hys0 hpb) hpb, szs (by omega), ?_⟩
        walk_at "rs"
        exact hN _ _ ⟨_, _, _, rfl, (Bag.mono (Bag.put ho6) (by omega)).other hpb, ys ++ [v], R.put_same, hys.app (ys := [v]) ⟨hv, trivial⟩, by rw [List.length_append, hyl]; rfl⟩
      · walk_at "rd"
        refine do_kapp hys0 ?_
        walk_at "rs"
        refine take_do hBag (by omega) (by omega) (by omega) fun r5 o5 ra5 rb5 ho5 => ?_
        walk_at "rs"
        refine take_do (Bag.put ho5) (by decide) (by decide) (by omega) fun r6 o6 ra6 rb6 ho6 => ?_
        walk_at "rs"
        refine at_D (n := 1) ra6 (by (simp only [List.length_cons, List.length_nil]; omega)) ⟨okD_int, okD_int, okD_int, trivial⟩ fun v hv => ?_
        walk_at "rs"
        refine ⟨ys, _, rfl, put_at (put_at hys0 hpb) hpb, szs (by omega), ?_⟩
        walk_at "rs"
        exact hN _ _ ⟨_, _, _, rfl, (Bag.mono (Bag.put ho6) (by omega)).other hpb, ys ++ [v], R.put_same, hys.app (ys := [v]) ⟨hv, trivial⟩, by rw [List.length_append, hyl]; rfl⟩
    · rintro σ M1 ⟨s4, s5, s6, rfl, hBag, ys, hys0, hys, hyl⟩
      walk_at "rs"
      refine do_tuple_r hys0 ?_
      walk_at "rs"
      exact h ys M1 hys (by omega) (by omega) (hBag.mono (by omega))
theorem fn__law_a_deed {f : Addr} {fd : FuncData} (F : Fun K "_law_a_deed" "_law_a_deed" s__law_a_deed f fd) (T : Txt P w K mg) (F__law_take : RFn P w K mg base 1 "_law_take" ["bag", "many"] sp__law_take) (F__law_said : RFn P w K mg base 2 "_law_said" ["bag"] sp__law_said) (F__law_bounds : RFn P w K mg base 1 "_law_bounds" ["name"] sp__law_bounds) : FnOk P w K mg base CX0 3 f fd ["bag"] (upSp K sp__law_a_deed) := by
  refine' rfnok F sc__law_a_deed (fun rs M Q h => ?len) (fun cdv A outer s H E hr => (pk__law_a_deed (base := base) T F__law_take F__law_said F__law_bounds).2 f cdv A outer s H E hr) (fun rs M Q h => rd__law_a_deed T F__law_take F__law_said F__law_bounds h)
  unfold sp__law_a_deed at h; obtain ⟨b, n, rfl, _⟩ := h; rfl
set_option maxHeartbeats 40000000 in
theorem rd__law_bent (T : Txt P w K mg) (F__law_take : RFn P w K mg base 1 "_law_take" ["bag", "many"] sp__law_take) (F__law_odd : RFn P w K mg base 2 "_law_odd" ["bag", "part"] sp__law_odd) {rs : List RV} {M : RM} {Q : RVK} (h : sp__law_bent rs M Q) : (pk__law_bent (base := base) T F__law_take F__law_odd).1 { nx := fun _ M' => Q .non M', rt := Q } (rstart N__law_bent rs) M := by
    unfold sp__law_bent at h
    unfold pk__law_bent
    dsimp only
    obtain ⟨b, n, m, ds, rfl, hB, n0, n1, hx, hm, l0, l1, h⟩ := h
    refine do_start (τ' := [some (.ref b), some (.tup ds), none, none]) rfl ?_
    walk_at "rs"
    refine take_do hB (by omega) (by omega) (by omega) fun r1 o1 ra1 rb1 ho1 => ?_
    walk_at "rs"
    refine take_do (Bag.put ho1) (by decide) (by decide) (by omega) fun r2 o2 ra2 rb2 ho2 => ?_
    have c1 := cut_le ds none (some r1)
    have c2 := cut_le ds (some (r1 + 1)) none
    have c3 := cut_le ds (some r1) (some (r1 + 1))
    have c4 := cut_le ds (some r1) none
    have c5 := cut_le ds (some 1) none
    walk_at "rs"
    refine do_kB (fun e => ?_) fun e => ?_
    · walk_at "rs"
      refine do_addT' (szl (by omega)) ?_
      walk_at "rs"
      have := h (.tup (cutR ds none (some r1) ++ cutR ds (some (r1 + 1)) none)) o2 ⟨_, .inl rfl, (hx.cut.app hx.cut).up, by rw [List.length_append]; omega⟩ (ho2.mono (by omega))
      simpa only [R.put_put] using this
    walk_at "rs"
    refine do_kB (fun e => ?_) fun e => ?_
    · walk_at "rs"
      refine do_addT' (szl (by omega)) ?_
      walk_at "rs"
      refine do_addT' (szl (by rw [List.length_append]; omega)) ?_
      walk_at "rs"
      have := h (.tup ((cutR ds none (some r1) ++ cutR ds (some r1) (some (r1 + 1))) ++ cutR ds (some r1) none)) o2 ⟨_, .inl rfl, ((hx.cut.app hx.cut).app hx.cut).up, by rw [List.length_append, List.length_append]; omega⟩ (ho2.mono (by omega))
      simpa only [R.put_put] using this
    walk_at "rs"
    refine do_kB (fun e => ?_) fun e => ?_
    · walk_at "rs"
      have := h (.ls ds) o2 ⟨_, .inr rfl, hx.up, by omega⟩ (ho2.mono (by omega))
      simpa only [R.put_put] using this
    walk_at "rs"
    refine do_kB (fun e => ?_) fun e => ?_
    · walk_at "rs"
      refine take_do (Bag.put ho2) (by decide) (by decide) (by omega) fun r3 o3 ra3 rb3 ho3 => ?_
      walk_at "rs"
      refine at_strs (fun z => z.length ≤ 1000) ra3 ⟨by decide, by decide, by decide, by decide, by decide, by decide, by decide, by decide, trivial⟩ fun nm hnm => ?_
      walk_at "rs"
      refine do_addT' (szl (by simp only [List.length_cons, List.length_nil]; omega)) ?_
      walk_at "rs"
      have := h (.tup ([.str nm] ++ cutR ds (some 1) none)) o3 ⟨_, .inl rfl, AllD.app (xs := [.str nm]) ⟨okD_str hnm, trivial⟩ hx.cut.up, by rw [List.length_append]; simp only [List.length_cons, List.length_nil]; omega⟩ (ho3.mono (by omega))
      simpa only [R.put_put] using this
    walk_at "rs"
    refine at_D ra1 rb1 hx fun part hpart => ?_
    walk_at "rs"
    refine odd_do (Bag.put ho2) (by omega) (by omega) hpart (by omega) fun v o3 hv ho3 => ?_
    walk_at "rs"
    refine do_addT' (szl (by simp only [List.length_cons, List.length_nil]; omega)) ?_
    walk_at "rs"
    refine do_addT' (szl (by rw [List.length_append]; simp only [List.length_cons, List.length_nil]; omega)) ?_
    walk_at "rs"
    have := h (.tup ((cutR ds none (some r1) ++ [v]) ++ cutR ds (some (r1 + 1)) none)) o3 ⟨_, .inl rfl, (AllD.app hx.cut.up (ys := [v]) ⟨hv, trivial⟩).app hx.cut.up, by rw [List.length_append, List.length_append]; simp only [List.length_cons, List.length_nil]; omega⟩ (ho3.mono (by omega))
    simpa only [R.put_put] using this
theorem fn__law_bent {f : Addr} {fd : FuncData} (F : Fun K "_law_bent" "_law_bent" s__law_bent f fd) (T : Txt P w K mg) (F__law_take : RFn P w K mg base 1 "_law_take" ["bag", "many"] sp__law_take) (F__law_odd : RFn P w K mg base 2 "_law_odd" ["bag", "part"] sp__law_odd) : FnOk P w K mg base CX0 3 f fd ["bag", "deed"] (upSp K sp__law_bent) := by
  refine' rfnok F sc__law_bent (fun rs M Q h => ?len) (fun cdv A outer s H E hr => (pk__law_bent (base := base) T F__law_take F__law_odd).2 f cdv A outer s H E hr) (fun rs M Q h => rd__law_bent T F__law_take F__law_odd h)
  unfold sp__law_bent at h; obtain ⟨b, n, m, ds, rfl, _⟩ := h; rfl

theorem cut_mem {ns : List Int} {lo hi : Option Int} {x : RV} (h : x ∈ cutR (ns.map RV.int) lo hi) : ∃ c : Int, x = .int c := by
  obtain ⟨i, _, rfl⟩ := List.mem_map.mp (cut_sub h)
  exact ⟨i, rfl⟩
def lenAt (i : Nat) : Nat := if i = 0 then 8 else if i = 1 then 29 else 92
theorem Thing.okT {m l : Nat} {v : RV} (h : Thing m l v) (hm : m ≤ 13) : okT v := by
  obtain ⟨xs, e, ha, _⟩ := h
  have k : xs.all (okR 13) = true := List.all_eq_true.mpr fun y hy => okR_le hm (ha.mem y hy).1
  rcases e with rfl | rfl
  · exact ⟨k, fun ys e => by cases e; exact ha.toP (by omega)⟩
  · exact ⟨k, fun ys e => by cases e⟩
theorem Thing.le {m l l' : Nat} {v : RV} (h : Thing m l v) (k : l ≤ l') : Thing m l' v := by
  obtain ⟨xs, e, ha, hl⟩ := h
  exact ⟨xs, e, ha, Nat.le_trans hl k⟩
theorem Thing.up {m l : Nat} {v : RV} (h : Thing m l v) : Thing (m + 1) l v := by
  obtain ⟨xs, e, ha, hl⟩ := h
  exact ⟨xs, e, ha.up, hl⟩

set_option maxHeartbeats 40000000 in
theorem rd_law (T : Txt P w K mg) (F_is_deed : RFn P w K mg base 5 "is_deed" ["thing"] sp_is_deed) (F__law_cell : RFn P w K mg base 1 "_law_cell" ["script", "k"] sp__law_cell) (F__law_well : RFn P w K mg base 1 "_law_well" ["cell", "turn"] sp__law_well) (F__law_take : RFn P w K mg base 1 "_law_take" ["bag", "many"] sp__law_take) (F__law_is_right : RFn P w K mg base 3 "_law_is_right" ["thing"] sp__law_is_right) (F__law_a_deed : RFn P w K mg base 3 "_law_a_deed" ["bag"] sp__law_a_deed) (F__law_bent : RFn P w K mg base 3 "_law_bent" ["bag", "deed"] sp__law_bent) {rs : List RV} {M : RM} {Q : RVK} (h : sp_law rs M Q) : (pk_law (base := base) T F_is_deed F__law_cell F__law_well F__law_take F__law_is_right F__law_a_deed F__law_bent).1 { nx := fun _ M' => Q .non M', rt := Q } (rstart N_law rs) M := by
    unfold sp_law at h
    unfold pk_law
    dsimp only
    obtain ⟨ns, rfl, hl, h⟩ := h
    refine do_start (τ' := [some (.ls (ns.map RV.int)), none, none, none, none, none, none]) rfl ?_
    walk_at "rs"
    refine cell_do (by decide) fun c0 => ?_
    walk_at "rs"
    have hcl := cut_le (ns.map RV.int) (some 1) (some 20)
    rw [List.length_map] at hcl
    refine ⟨Nat.le_trans (show _ ≤ 1000 by simp only [List.length_cons, List.length_nil]; omega) (by decide), ?_⟩
    walk_at "rs"
    refine forL_inv (fun σ M => ∃ a1 a2 a3 a4 a5 a6 : Option RV, σ = [some (.ls (ns.map RV.int)), a1, a2, a3, a4, a5, a6]) (fun v => ∃ c : Int, v = .int c) _ ?_ ?_ ?_ _ _ ⟨_, _, _, _, _, _, rfl⟩
    · intro x hx
      rcases List.mem_append.mp hx with hx | hx
      · exact ⟨c0, by simpa using hx⟩
      · exact cut_mem hx
    · rintro x σ M N ⟨c, rfl⟩ ⟨a1, a2, a3, a4, a5, a6, rfl⟩ hN
      walk_at "rs"
      refine well_do fun p o hp ho => ?_
      walk_at "rs"
      refine take_do (Bag.put ho) (by decide) (by decide) (by omega) fun r1 o1 ra1 rb1 ho1 => ?_
      walk_at "rs"
      refine at_ints 0 2 ra1 fun bends bn0 bn1 => ?_
      walk_at "rs"
      refine deed_do (Bag.put ho1) (by decide) (by decide) fun xs M1 hxs l0 l1 hB1 => ?_
      walk_at "rs"
      refine do_rng (by omega) (by omega) ?_
      refine forL_ix (fun i σ M => ∃ (a5 : Option RV) (v : RV), σ = [some (.ls (ns.map RV.int)), some (.int c), some (.ref p), some (.int bends), some v, a5, a6] ∧ Thing (1 + i) (lenAt i) v ∧ Bag M p (201 + 20 * (i : Int))) (fun _ => True) bends.toNat ?_ ?_ (R.nums bends.toNat) 0 (fun _ _ => trivial) (by rw [R.nums_len]; omega) _ _ ⟨_, _, rfl, ⟨xs, .inl rfl, hxs, l1⟩, hB1.mono (by omega)⟩
      · rintro i y σ M2 N2 hi _ ⟨a5, v, rfl, hT, hB⟩ hN2
        have hi2 : i < 2 := by omega
        have hmono : lenAt i ≤ lenAt (i + 1) := by
          have : i = 0 ∨ i = 1 := by omega
          rcases this with rfl | rfl <;> decide
        have hstep : 3 * lenAt i + 5 ≤ lenAt (i + 1) ∧ lenAt i ≤ 50 := by
          have : i = 0 ∨ i = 1 := by omega
          rcases this with rfl | rfl <;> decide
        obtain ⟨zs, hz, hza, hzl⟩ := id hT
        rcases hz with rfl | rfl
        · walk_at "rs"
          refine do_ne (okT2 (hT.okT (by omega)).1) rfl ?_
          cases zs with
          | nil =>
            walk_at "rd"
            exact hN2 _ _ ⟨_, _, rfl, (hT.up).le hmono, hB.mono (by omega)⟩
          | cons z zs =>
            walk_at "rd"
            refine bent_do hB (by omega) (by omega) hza (by omega) (by simp) (by omega) fun v o2 hv ho2 => ?_
            walk_at "rs"
            exact hN2 _ _ ⟨_, _, rfl, Thing.le hv (by omega), (Bag.put ho2).mono (by omega)⟩
        · walk_at "rd"
          exact hN2 _ _ ⟨_, _, rfl, (hT.up).le hmono, hB.mono (by omega)⟩
      · rintro σ M2 ⟨a5, v, rfl, hT, hB⟩
        have hok := hT.okT (by omega)
        walk_at "rs"
        refine is_deed_do hok ?_
        walk_at "rs"
        refine right_do hok ?_
        walk_at "rs"
        refine do_kF' (neqB rfl) ?_
        walk_at "rs"
        exact hN _ _ ⟨_, _, _, _, _, _, rfl⟩
    · rintro σ M ⟨a1, a2, a3, a4, a5, a6, rfl⟩
      walk_at "rs"
      exact h M
theorem fn_law {f : Addr} {fd : FuncData} (F : Fun K "law" "law" s_law f fd) (T : Txt P w K mg) (F_is_deed : RFn P w K mg base 5 "is_deed" ["thing"] sp_is_deed) (F__law_cell : RFn P w K mg base 1 "_law_cell" ["script", "k"] sp__law_cell) (F__law_well : RFn P w K mg base 1 "_law_well" ["cell", "turn"] sp__law_well) (F__law_take : RFn P w K mg base 1 "_law_take" ["bag", "many"] sp__law_take) (F__law_is_right : RFn P w K mg base 3 "_law_is_right" ["thing"] sp__law_is_right) (F__law_a_deed : RFn P w K mg base 3 "_law_a_deed" ["bag"] sp__law_a_deed) (F__law_bent : RFn P w K mg base 3 "_law_bent" ["bag", "deed"] sp__law_bent) : FnOk P w K mg base CX0 6 f fd ["script"] (upSp K sp_law) := by
  refine' rfnok F sc_law (fun rs M Q h => ?len) (fun cdv A outer s H E hr => (pk_law (base := base) T F_is_deed F__law_cell F__law_well F__law_take F__law_is_right F__law_a_deed F__law_bent).2 f cdv A outer s H E hr) (fun rs M Q h => rd_law T F_is_deed F__law_cell F__law_well F__law_take F__law_is_right F__law_a_deed F__law_bent h)
  unfold sp_law at h; obtain ⟨ns, rfl, _⟩ := h; rfl
end
theorem all_mk {l : PySem.W.OpenLaw} {w : World} {K : PySem.W.Frag} {h : Heap} {mg : Str → Option Value} {fa : Addr} (X : K.In h) (G : h.Ns mainGlobals mg) (hfa : mg "law" = some (.ref fa))
    {f0 : Addr} {od0 an0 : Option Addr} {sl0 : Array (Option Value)} {oc0 kV0 dc0 pm0 cd0 ct0 : Value}
    (a0 : PySem.W.nsIn K mainGlobals "is_whole" = some (some (.ref f0))) (l0 : K.lookup f0 = some ⟨oc0, od0, .func (PySem.W.fnOf "is_whole" "is_whole" (defArgs s_is_whole) (defBody s_is_whole) (defScope s_is_whole) .none kV0 dc0 pm0 an0 cd0 ct0), sl0⟩) (c0 : PySem.W.codeIn K cd0 "is_whole" = true) (k0 : PySem.W.keepIn K (.ref f0) = true)
    {f1 : Addr} {od1 an1 : Option Addr} {sl1 : Array (Option Value)} {oc1 kV1 dc1 pm1 cd1 ct1 : Value}
    (a1 : PySem.W.nsIn K mainGlobals "is_kind" = some (some (.ref f1))) (l1 : K.lookup f1 = some ⟨oc1, od1, .func (PySem.W.fnOf "is_kind" "is_kind" (defArgs s_is_kind) (defBody s_is_kind) (defScope s_is_kind) .none kV1 dc1 pm1 an1 cd1 ct1), sl1⟩) (c1 : PySem.W.codeIn K cd1 "is_kind" = true) (k1 : PySem.W.keepIn K (.ref f1) = true)
    {f2 : Addr} {od2 an2 : Option Addr} {sl2 : Array (Option Value)} {oc2 kV2 dc2 pm2 cd2 ct2 : Value}
    (a2 : PySem.W.nsIn K mainGlobals "is_word" = some (some (.ref f2))) (l2 : K.lookup f2 = some ⟨oc2, od2, .func (PySem.W.fnOf "is_word" "is_word" (defArgs s_is_word) (defBody s_is_word) (defScope s_is_word) .none kV2 dc2 pm2 an2 cd2 ct2), sl2⟩) (c2 : PySem.W.codeIn K cd2 "is_word" = true) (k2 : PySem.W.keepIn K (.ref f2) = true)
    {f3 : Addr} {od3 an3 : Option Addr} {sl3 : Array (Option Value)} {oc3 kV3 dc3 pm3 cd3 ct3 : Value}
    (a3 : PySem.W.nsIn K mainGlobals "is_sign" = some (some (.ref f3))) (l3 : K.lookup f3 = some ⟨oc3, od3, .func (PySem.W.fnOf "is_sign" "is_sign" (defArgs s_is_sign) (defBody s_is_sign) (defScope s_is_sign) .none kV3 dc3 pm3 an3 cd3 ct3), sl3⟩) (c3 : PySem.W.codeIn K cd3 "is_sign" = true) (k3 : PySem.W.keepIn K (.ref f3) = true)
    {f4 : Addr} {od4 an4 : Option Addr} {sl4 : Array (Option Value)} {oc4 kV4 dc4 pm4 cd4 ct4 : Value}
    (a4 : PySem.W.nsIn K mainGlobals "name_of" = some (some (.ref f4))) (l4 : K.lookup f4 = some ⟨oc4, od4, .func (PySem.W.fnOf "name_of" "name_of" (defArgs s_name_of) (defBody s_name_of) (defScope s_name_of) .none kV4 dc4 pm4 an4 cd4 ct4), sl4⟩) (c4 : PySem.W.codeIn K cd4 "name_of" = true) (k4 : PySem.W.keepIn K (.ref f4) = true)
    {f5 : Addr} {od5 an5 : Option Addr} {sl5 : Array (Option Value)} {oc5 kV5 dc5 pm5 cd5 ct5 : Value}
    (a5 : PySem.W.nsIn K mainGlobals "_law_cell" = some (some (.ref f5))) (l5 : K.lookup f5 = some ⟨oc5, od5, .func (PySem.W.fnOf "_law_cell" "_law_cell" (defArgs s__law_cell) (defBody s__law_cell) (defScope s__law_cell) .none kV5 dc5 pm5 an5 cd5 ct5), sl5⟩) (c5 : PySem.W.codeIn K cd5 "_law_cell" = true) (k5 : PySem.W.keepIn K (.ref f5) = true)
    {f6 : Addr} {od6 an6 : Option Addr} {sl6 : Array (Option Value)} {oc6 kV6 dc6 pm6 cd6 ct6 : Value}
    (a6 : PySem.W.nsIn K mainGlobals "_law_well" = some (some (.ref f6))) (l6 : K.lookup f6 = some ⟨oc6, od6, .func (PySem.W.fnOf "_law_well" "_law_well" (defArgs s__law_well) (defBody s__law_well) (defScope s__law_well) .none kV6 dc6 pm6 an6 cd6 ct6), sl6⟩) (c6 : PySem.W.codeIn K cd6 "_law_well" = true) (k6 : PySem.W.keepIn K (.ref f6) = true)
    {f7 : Addr} {od7 an7 : Option Addr} {sl7 : Array (Option Value)} {oc7 kV7 dc7 pm7 cd7 ct7 : Value}
    (a7 : PySem.W.nsIn K mainGlobals "_law_take" = some (some (.ref f7))) (l7 : K.lookup f7 = some ⟨oc7, od7, .func (PySem.W.fnOf "_law_take" "_law_take" (defArgs s__law_take) (defBody s__law_take) (defScope s__law_take) .none kV7 dc7 pm7 an7 cd7 ct7), sl7⟩) (c7 : PySem.W.codeIn K cd7 "_law_take" = true) (k7 : PySem.W.keepIn K (.ref f7) = true)
    {f8 : Addr} {od8 an8 : Option Addr} {sl8 : Array (Option Value)} {oc8 kV8 dc8 pm8 cd8 ct8 : Value}
    (a8 : PySem.W.nsIn K mainGlobals "_law_whole" = some (some (.ref f8))) (l8 : K.lookup f8 = some ⟨oc8, od8, .func (PySem.W.fnOf "_law_whole" "_law_whole" (defArgs s__law_whole) (defBody s__law_whole) (defScope s__law_whole) .none kV8 dc8 pm8 an8 cd8 ct8), sl8⟩) (c8 : PySem.W.codeIn K cd8 "_law_whole" = true) (k8 : PySem.W.keepIn K (.ref f8) = true)
    {f9 : Addr} {od9 an9 : Option Addr} {sl9 : Array (Option Value)} {oc9 kV9 dc9 pm9 cd9 ct9 : Value}
    (a9 : PySem.W.nsIn K mainGlobals "_law_bounds" = some (some (.ref f9))) (l9 : K.lookup f9 = some ⟨oc9, od9, .func (PySem.W.fnOf "_law_bounds" "_law_bounds" (defArgs s__law_bounds) (defBody s__law_bounds) (defScope s__law_bounds) .none kV9 dc9 pm9 an9 cd9 ct9), sl9⟩) (c9 : PySem.W.codeIn K cd9 "_law_bounds" = true) (k9 : PySem.W.keepIn K (.ref f9) = true)
    {f10 : Addr} {od10 an10 : Option Addr} {sl10 : Array (Option Value)} {oc10 kV10 dc10 pm10 cd10 ct10 : Value}
    (a10 : PySem.W.nsIn K mainGlobals "is_whole_within" = some (some (.ref f10))) (l10 : K.lookup f10 = some ⟨oc10, od10, .func (PySem.W.fnOf "is_whole_within" "is_whole_within" (defArgs s_is_whole_within) (defBody s_is_whole_within) (defScope s_is_whole_within) .none kV10 dc10 pm10 an10 cd10 ct10), sl10⟩) (c10 : PySem.W.codeIn K cd10 "is_whole_within" = true) (k10 : PySem.W.keepIn K (.ref f10) = true)
    {f11 : Addr} {od11 an11 : Option Addr} {sl11 : Array (Option Value)} {oc11 kV11 dc11 pm11 cd11 ct11 : Value}
    (a11 : PySem.W.nsIn K mainGlobals "is_text" = some (some (.ref f11))) (l11 : K.lookup f11 = some ⟨oc11, od11, .func (PySem.W.fnOf "is_text" "is_text" (defArgs s_is_text) (defBody s_is_text) (defScope s_is_text) .none kV11 dc11 pm11 an11 cd11 ct11), sl11⟩) (c11 : PySem.W.codeIn K cd11 "is_text" = true) (k11 : PySem.W.keepIn K (.ref f11) = true)
    {f12 : Addr} {od12 an12 : Option Addr} {sl12 : Array (Option Value)} {oc12 kV12 dc12 pm12 cd12 ct12 : Value}
    (a12 : PySem.W.nsIn K mainGlobals "_law_said" = some (some (.ref f12))) (l12 : K.lookup f12 = some ⟨oc12, od12, .func (PySem.W.fnOf "_law_said" "_law_said" (defArgs s__law_said) (defBody s__law_said) (defScope s__law_said) .none kV12 dc12 pm12 an12 cd12 ct12), sl12⟩) (c12 : PySem.W.codeIn K cd12 "_law_said" = true) (k12 : PySem.W.keepIn K (.ref f12) = true)
    {f13 : Addr} {od13 an13 : Option Addr} {sl13 : Array (Option Value)} {oc13 kV13 dc13 pm13 cd13 ct13 : Value}
    (a13 : PySem.W.nsIn K mainGlobals "_law_in_bounds" = some (some (.ref f13))) (l13 : K.lookup f13 = some ⟨oc13, od13, .func (PySem.W.fnOf "_law_in_bounds" "_law_in_bounds" (defArgs s__law_in_bounds) (defBody s__law_in_bounds) (defScope s__law_in_bounds) .none kV13 dc13 pm13 an13 cd13 ct13), sl13⟩) (c13 : PySem.W.codeIn K cd13 "_law_in_bounds" = true) (k13 : PySem.W.keepIn K (.ref f13) = true)
    {f14 : Addr} {od14 an14 : Option Addr} {sl14 : Array (Option Value)} {oc14 kV14 dc14 pm14 cd14 ct14 : Value}
    (a14 : PySem.W.nsIn K mainGlobals "is_house" = some (some (.ref f14))) (l14 : K.lookup f14 = some ⟨oc14, od14, .func (PySem.W.fnOf "is_house" "is_house" (defArgs s_is_house) (defBody s_is_house) (defScope s_is_house) .none kV14 dc14 pm14 an14 cd14 ct14), sl14⟩) (c14 : PySem.W.codeIn K cd14 "is_house" = true) (k14 : PySem.W.keepIn K (.ref f14) = true)
    {f15 : Addr} {od15 an15 : Option Addr} {sl15 : Array (Option Value)} {oc15 kV15 dc15 pm15 cd15 ct15 : Value}
    (a15 : PySem.W.nsIn K mainGlobals "is_door" = some (some (.ref f15))) (l15 : K.lookup f15 = some ⟨oc15, od15, .func (PySem.W.fnOf "is_door" "is_door" (defArgs s_is_door) (defBody s_is_door) (defScope s_is_door) .none kV15 dc15 pm15 an15 cd15 ct15), sl15⟩) (c15 : PySem.W.codeIn K cd15 "is_door" = true) (k15 : PySem.W.keepIn K (.ref f15) = true)
    {f16 : Addr} {od16 an16 : Option Addr} {sl16 : Array (Option Value)} {oc16 kV16 dc16 pm16 cd16 ct16 : Value}
    (a16 : PySem.W.nsIn K mainGlobals "is_place" = some (some (.ref f16))) (l16 : K.lookup f16 = some ⟨oc16, od16, .func (PySem.W.fnOf "is_place" "is_place" (defArgs s_is_place) (defBody s_is_place) (defScope s_is_place) .none kV16 dc16 pm16 an16 cd16 ct16), sl16⟩) (c16 : PySem.W.codeIn K cd16 "is_place" = true) (k16 : PySem.W.keepIn K (.ref f16) = true)
    {f17 : Addr} {od17 an17 : Option Addr} {sl17 : Array (Option Value)} {oc17 kV17 dc17 pm17 cd17 ct17 : Value}
    (a17 : PySem.W.nsIn K mainGlobals "is_outer_place" = some (some (.ref f17))) (l17 : K.lookup f17 = some ⟨oc17, od17, .func (PySem.W.fnOf "is_outer_place" "is_outer_place" (defArgs s_is_outer_place) (defBody s_is_outer_place) (defScope s_is_outer_place) .none kV17 dc17 pm17 an17 cd17 ct17), sl17⟩) (c17 : PySem.W.codeIn K cd17 "is_outer_place" = true) (k17 : PySem.W.keepIn K (.ref f17) = true)
    {f18 : Addr} {od18 an18 : Option Addr} {sl18 : Array (Option Value)} {oc18 kV18 dc18 pm18 cd18 ct18 : Value}
    (a18 : PySem.W.nsIn K mainGlobals "is_ticks" = some (some (.ref f18))) (l18 : K.lookup f18 = some ⟨oc18, od18, .func (PySem.W.fnOf "is_ticks" "is_ticks" (defArgs s_is_ticks) (defBody s_is_ticks) (defScope s_is_ticks) .none kV18 dc18 pm18 an18 cd18 ct18), sl18⟩) (c18 : PySem.W.codeIn K cd18 "is_ticks" = true) (k18 : PySem.W.keepIn K (.ref f18) = true)
    {f19 : Addr} {od19 an19 : Option Addr} {sl19 : Array (Option Value)} {oc19 kV19 dc19 pm19 cd19 ct19 : Value}
    (a19 : PySem.W.nsIn K mainGlobals "is_letter" = some (some (.ref f19))) (l19 : K.lookup f19 = some ⟨oc19, od19, .func (PySem.W.fnOf "is_letter" "is_letter" (defArgs s_is_letter) (defBody s_is_letter) (defScope s_is_letter) .none kV19 dc19 pm19 an19 cd19 ct19), sl19⟩) (c19 : PySem.W.codeIn K cd19 "is_letter" = true) (k19 : PySem.W.keepIn K (.ref f19) = true)
    {f20 : Addr} {od20 an20 : Option Addr} {sl20 : Array (Option Value)} {oc20 kV20 dc20 pm20 cd20 ct20 : Value}
    (a20 : PySem.W.nsIn K mainGlobals "is_unrule" = some (some (.ref f20))) (l20 : K.lookup f20 = some ⟨oc20, od20, .func (PySem.W.fnOf "is_unrule" "is_unrule" (defArgs s_is_unrule) (defBody s_is_unrule) (defScope s_is_unrule) .none kV20 dc20 pm20 an20 cd20 ct20), sl20⟩) (c20 : PySem.W.codeIn K cd20 "is_unrule" = true) (k20 : PySem.W.keepIn K (.ref f20) = true)
    {f21 : Addr} {od21 an21 : Option Addr} {sl21 : Array (Option Value)} {oc21 kV21 dc21 pm21 cd21 ct21 : Value}
    (a21 : PySem.W.nsIn K mainGlobals "is_out" = some (some (.ref f21))) (l21 : K.lookup f21 = some ⟨oc21, od21, .func (PySem.W.fnOf "is_out" "is_out" (defArgs s_is_out) (defBody s_is_out) (defScope s_is_out) .none kV21 dc21 pm21 an21 cd21 ct21), sl21⟩) (c21 : PySem.W.codeIn K cd21 "is_out" = true) (k21 : PySem.W.keepIn K (.ref f21) = true)
    {f22 : Addr} {od22 an22 : Option Addr} {sl22 : Array (Option Value)} {oc22 kV22 dc22 pm22 cd22 ct22 : Value}
    (a22 : PySem.W.nsIn K mainGlobals "is_come" = some (some (.ref f22))) (l22 : K.lookup f22 = some ⟨oc22, od22, .func (PySem.W.fnOf "is_come" "is_come" (defArgs s_is_come) (defBody s_is_come) (defScope s_is_come) .none kV22 dc22 pm22 an22 cd22 ct22), sl22⟩) (c22 : PySem.W.codeIn K cd22 "is_come" = true) (k22 : PySem.W.keepIn K (.ref f22) = true)
    {f23 : Addr} {od23 an23 : Option Addr} {sl23 : Array (Option Value)} {oc23 kV23 dc23 pm23 cd23 ct23 : Value}
    (a23 : PySem.W.nsIn K mainGlobals "is_lost" = some (some (.ref f23))) (l23 : K.lookup f23 = some ⟨oc23, od23, .func (PySem.W.fnOf "is_lost" "is_lost" (defArgs s_is_lost) (defBody s_is_lost) (defScope s_is_lost) .none kV23 dc23 pm23 an23 cd23 ct23), sl23⟩) (c23 : PySem.W.codeIn K cd23 "is_lost" = true) (k23 : PySem.W.keepIn K (.ref f23) = true)
    {f24 : Addr} {od24 an24 : Option Addr} {sl24 : Array (Option Value)} {oc24 kV24 dc24 pm24 cd24 ct24 : Value}
    (a24 : PySem.W.nsIn K mainGlobals "is_wait" = some (some (.ref f24))) (l24 : K.lookup f24 = some ⟨oc24, od24, .func (PySem.W.fnOf "is_wait" "is_wait" (defArgs s_is_wait) (defBody s_is_wait) (defScope s_is_wait) .none kV24 dc24 pm24 an24 cd24 ct24), sl24⟩) (c24 : PySem.W.codeIn K cd24 "is_wait" = true) (k24 : PySem.W.keepIn K (.ref f24) = true)
    {f25 : Addr} {od25 an25 : Option Addr} {sl25 : Array (Option Value)} {oc25 kV25 dc25 pm25 cd25 ct25 : Value}
    (a25 : PySem.W.nsIn K mainGlobals "is_rule" = some (some (.ref f25))) (l25 : K.lookup f25 = some ⟨oc25, od25, .func (PySem.W.fnOf "is_rule" "is_rule" (defArgs s_is_rule) (defBody s_is_rule) (defScope s_is_rule) .none kV25 dc25 pm25 an25 cd25 ct25), sl25⟩) (c25 : PySem.W.codeIn K cd25 "is_rule" = true) (k25 : PySem.W.keepIn K (.ref f25) = true)
    {f26 : Addr} {od26 an26 : Option Addr} {sl26 : Array (Option Value)} {oc26 kV26 dc26 pm26 cd26 ct26 : Value}
    (a26 : PySem.W.nsIn K mainGlobals "is_deed" = some (some (.ref f26))) (l26 : K.lookup f26 = some ⟨oc26, od26, .func (PySem.W.fnOf "is_deed" "is_deed" (defArgs s_is_deed) (defBody s_is_deed) (defScope s_is_deed) .none kV26 dc26 pm26 an26 cd26 ct26), sl26⟩) (c26 : PySem.W.codeIn K cd26 "is_deed" = true) (k26 : PySem.W.keepIn K (.ref f26) = true)
    {f27 : Addr} {od27 an27 : Option Addr} {sl27 : Array (Option Value)} {oc27 kV27 dc27 pm27 cd27 ct27 : Value}
    (a27 : PySem.W.nsIn K mainGlobals "_law_is_said" = some (some (.ref f27))) (l27 : K.lookup f27 = some ⟨oc27, od27, .func (PySem.W.fnOf "_law_is_said" "_law_is_said" (defArgs s__law_is_said) (defBody s__law_is_said) (defScope s__law_is_said) .none kV27 dc27 pm27 an27 cd27 ct27), sl27⟩) (c27 : PySem.W.codeIn K cd27 "_law_is_said" = true) (k27 : PySem.W.keepIn K (.ref f27) = true)
    {f28 : Addr} {od28 an28 : Option Addr} {sl28 : Array (Option Value)} {oc28 kV28 dc28 pm28 cd28 ct28 : Value}
    (a28 : PySem.W.nsIn K mainGlobals "_law_odd" = some (some (.ref f28))) (l28 : K.lookup f28 = some ⟨oc28, od28, .func (PySem.W.fnOf "_law_odd" "_law_odd" (defArgs s__law_odd) (defBody s__law_odd) (defScope s__law_odd) .none kV28 dc28 pm28 an28 cd28 ct28), sl28⟩) (c28 : PySem.W.codeIn K cd28 "_law_odd" = true) (k28 : PySem.W.keepIn K (.ref f28) = true)
    {f29 : Addr} {od29 an29 : Option Addr} {sl29 : Array (Option Value)} {oc29 kV29 dc29 pm29 cd29 ct29 : Value}
    (a29 : PySem.W.nsIn K mainGlobals "_law_is_right" = some (some (.ref f29))) (l29 : K.lookup f29 = some ⟨oc29, od29, .func (PySem.W.fnOf "_law_is_right" "_law_is_right" (defArgs s__law_is_right) (defBody s__law_is_right) (defScope s__law_is_right) .none kV29 dc29 pm29 an29 cd29 ct29), sl29⟩) (c29 : PySem.W.codeIn K cd29 "_law_is_right" = true) (k29 : PySem.W.keepIn K (.ref f29) = true)
    {f30 : Addr} {od30 an30 : Option Addr} {sl30 : Array (Option Value)} {oc30 kV30 dc30 pm30 cd30 ct30 : Value}
    (a30 : PySem.W.nsIn K mainGlobals "_law_a_deed" = some (some (.ref f30))) (l30 : K.lookup f30 = some ⟨oc30, od30, .func (PySem.W.fnOf "_law_a_deed" "_law_a_deed" (defArgs s__law_a_deed) (defBody s__law_a_deed) (defScope s__law_a_deed) .none kV30 dc30 pm30 an30 cd30 ct30), sl30⟩) (c30 : PySem.W.codeIn K cd30 "_law_a_deed" = true) (k30 : PySem.W.keepIn K (.ref f30) = true)
    {f31 : Addr} {od31 an31 : Option Addr} {sl31 : Array (Option Value)} {oc31 kV31 dc31 pm31 cd31 ct31 : Value}
    (a31 : PySem.W.nsIn K mainGlobals "_law_bent" = some (some (.ref f31))) (l31 : K.lookup f31 = some ⟨oc31, od31, .func (PySem.W.fnOf "_law_bent" "_law_bent" (defArgs s__law_bent) (defBody s__law_bent) (defScope s__law_bent) .none kV31 dc31 pm31 an31 cd31 ct31), sl31⟩) (c31 : PySem.W.codeIn K cd31 "_law_bent" = true) (k31 : PySem.W.keepIn K (.ref f31) = true)
    {f32 : Addr} {od32 an32 : Option Addr} {sl32 : Array (Option Value)} {oc32 kV32 dc32 pm32 cd32 ct32 : Value}
    (a32 : PySem.W.nsIn K mainGlobals "law" = some (some (.ref f32))) (l32 : K.lookup f32 = some ⟨oc32, od32, .func (PySem.W.fnOf "law" "law" (defArgs s_law) (defBody s_law) (defScope s_law) .none kV32 dc32 pm32 an32 cd32 ct32), sl32⟩) (c32 : PySem.W.codeIn K cd32 "law" = true) (k32 : PySem.W.keepIn K (.ref f32) = true)
    (z_all : PySem.W.nsIn K mainGlobals "all" = some none)
    (z_bool : PySem.W.nsIn K mainGlobals "bool" = some none)
    (z_int : PySem.W.nsIn K mainGlobals "int" = some none)
    (z_isinstance : PySem.W.nsIn K mainGlobals "isinstance" = some none)
    (z_len : PySem.W.nsIn K mainGlobals "len" = some none)
    (z_list : PySem.W.nsIn K mainGlobals "list" = some none)
    (z_ord : PySem.W.nsIn K mainGlobals "ord" = some none)
    (z_range : PySem.W.nsIn K mainGlobals "range" = some none)
    (z_str : PySem.W.nsIn K mainGlobals "str" = some none)
    (z_tuple : PySem.W.nsIn K mainGlobals "tuple" = some none)
    (z_zip : PySem.W.nsIn K mainGlobals "zip" = some none)
    {t_GREATEST_HOUSE : Tok} (z_GREATEST_HOUSE : PySem.W.nsIn K mainGlobals "GREATEST_HOUSE" = some (some (.int 99 t_GREATEST_HOUSE)))
    {t_GREATEST_DOOR : Tok} (z_GREATEST_DOOR : PySem.W.nsIn K mainGlobals "GREATEST_DOOR" = some (some (.int 9999 t_GREATEST_DOOR)))
    {t_GREATEST_PLACE : Tok} (z_GREATEST_PLACE : PySem.W.nsIn K mainGlobals "GREATEST_PLACE" = some (some (.int 1000000 t_GREATEST_PLACE)))
    {t_GREATEST_TICKS : Tok} (z_GREATEST_TICKS : PySem.W.nsIn K mainGlobals "GREATEST_TICKS" = some (some (.int 1000000 t_GREATEST_TICKS)))
    {t_GREATEST_RULE : Tok} (z_GREATEST_RULE : PySem.W.nsIn K mainGlobals "GREATEST_RULE" = some (some (.int 1000000 t_GREATEST_RULE)))
    {t_MOST_SIGNS : Tok} (z_MOST_SIGNS : PySem.W.nsIn K mainGlobals "MOST_SIGNS" = some (some (.int 40 t_MOST_SIGNS)))
    {t_FIRST_SIGN : Tok} (z_FIRST_SIGN : PySem.W.nsIn K mainGlobals "FIRST_SIGN" = some (some (.int 32 t_FIRST_SIGN)))
    {t_LAST_SIGN : Tok} (z_LAST_SIGN : PySem.W.nsIn K mainGlobals "LAST_SIGN" = some (some (.int 126 t_LAST_SIGN)))
    {t_PERCENT_SIGN : Tok} (z_PERCENT_SIGN : PySem.W.nsIn K mainGlobals "PERCENT_SIGN" = some (some (.int 37 t_PERCENT_SIGN)))
    {a_KINDS : Addr} {i_KINDS : Array Value} {n_KINDS : Nat} {d_KINDS : Option Addr} {s_KINDS : Array (Option Value)} (z_KINDS : PySem.W.nsIn K mainGlobals "KINDS" = some (some (.ref a_KINDS))) (l_KINDS : K.lookup a_KINDS = some ⟨.type "tuple", d_KINDS, .seq i_KINDS n_KINDS, s_KINDS⟩) (y_KINDS : i_KINDS.size ≤ sizeLine) (v_KINDS : Vals ((["note", "line"] : List Str).map V.str) i_KINDS.toList)
    {a_NOTE_WORDS : Addr} {i_NOTE_WORDS : Array Value} {n_NOTE_WORDS : Nat} {d_NOTE_WORDS : Option Addr} {s_NOTE_WORDS : Array (Option Value)} (z_NOTE_WORDS : PySem.W.nsIn K mainGlobals "NOTE_WORDS" = some (some (.ref a_NOTE_WORDS))) (l_NOTE_WORDS : K.lookup a_NOTE_WORDS = some ⟨.type "tuple", d_NOTE_WORDS, .seq i_NOTE_WORDS n_NOTE_WORDS, s_NOTE_WORDS⟩) (y_NOTE_WORDS : i_NOTE_WORDS.size ≤ sizeLine) (v_NOTE_WORDS : Vals ((["say"] : List Str).map V.str) i_NOTE_WORDS.toList)
    {a_LINE_WORDS : Addr} {i_LINE_WORDS : Array Value} {n_LINE_WORDS : Nat} {d_LINE_WORDS : Option Addr} {s_LINE_WORDS : Array (Option Value)} (z_LINE_WORDS : PySem.W.nsIn K mainGlobals "LINE_WORDS" = some (some (.ref a_LINE_WORDS))) (l_LINE_WORDS : K.lookup a_LINE_WORDS = some ⟨.type "tuple", d_LINE_WORDS, .seq i_LINE_WORDS n_LINE_WORDS, s_LINE_WORDS⟩) (y_LINE_WORDS : i_LINE_WORDS.size ≤ sizeLine) (v_LINE_WORDS : Vals ((["open", "say", "close", "break"] : List Str).map V.str) i_LINE_WORDS.toList)
    {aD : Addr} {esD : Array DictEntry} {epD : Nat} (zD : PySem.W.nsIn K mainGlobals "DEEDS" = some (some (.ref aD))) (lD : K.lookup aD = some ⟨.type "dict", none, .dict esD epD, #[]⟩) (nD : (aD == sysModules) = false) (rD : KRows w esD.toList [("out", Value.ref f21), ("come", Value.ref f22), ("lost", Value.ref f23), ("wait", Value.ref f24), ("rule", Value.ref f25), ("unrule", Value.ref f20)])
    : ∃ fd : FuncData, (∀ (s : Shared) (v : Value), BindsTo s fd ⟨[v], []⟩ [("script", v)]) ∧ ∀ base : Heap, K.In base → base.Ns mainGlobals mg → FnOk l.prog w K mg base CX0 6 fa fd ["script"] (upSp K sp_law) := by
  have e := hfa.symm.trans (PySem.W.mg_of X G a32)
  cases e
  have c_GREATEST_HOUSE : IntC mg "GREATEST_HOUSE" 99 := ⟨_, PySem.W.mg_of X G z_GREATEST_HOUSE⟩
  have c_GREATEST_DOOR : IntC mg "GREATEST_DOOR" 9999 := ⟨_, PySem.W.mg_of X G z_GREATEST_DOOR⟩
  have c_GREATEST_PLACE : IntC mg "GREATEST_PLACE" 1000000 := ⟨_, PySem.W.mg_of X G z_GREATEST_PLACE⟩
  have c_GREATEST_TICKS : IntC mg "GREATEST_TICKS" 1000000 := ⟨_, PySem.W.mg_of X G z_GREATEST_TICKS⟩
  have c_GREATEST_RULE : IntC mg "GREATEST_RULE" 1000000 := ⟨_, PySem.W.mg_of X G z_GREATEST_RULE⟩
  have c_MOST_SIGNS : IntC mg "MOST_SIGNS" 40 := ⟨_, PySem.W.mg_of X G z_MOST_SIGNS⟩
  have c_FIRST_SIGN : IntC mg "FIRST_SIGN" 32 := ⟨_, PySem.W.mg_of X G z_FIRST_SIGN⟩
  have c_LAST_SIGN : IntC mg "LAST_SIGN" 126 := ⟨_, PySem.W.mg_of X G z_LAST_SIGN⟩
  have c_PERCENT_SIGN : IntC mg "PERCENT_SIGN" 37 := ⟨_, PySem.W.mg_of X G z_PERCENT_SIGN⟩
  have c_KINDS : TupC K mg "KINDS" ["note", "line"] := tupc_mk (PySem.W.mg_of X G z_KINDS) l_KINDS y_KINDS v_KINDS
  have c_NOTE_WORDS : TupC K mg "NOTE_WORDS" ["say"] := tupc_mk (PySem.W.mg_of X G z_NOTE_WORDS) l_NOTE_WORDS y_NOTE_WORDS v_NOTE_WORDS
  have c_LINE_WORDS : TupC K mg "LINE_WORDS" ["open", "say", "close", "break"] := tupc_mk (PySem.W.mg_of X G z_LINE_WORDS) l_LINE_WORDS y_LINE_WORDS v_LINE_WORDS
  have c_DEEDS : DeedsT l.prog w K mg := ⟨f21, f22, f23, f24, f25, f20, PySem.W.mg_of X G a21, PySem.W.mg_of X G a22, PySem.W.mg_of X G a23, PySem.W.mg_of X G a24, PySem.W.mg_of X G a25, PySem.W.mg_of X G a20, ktab_mk (ws := [((Sum.inr "out" : Key), V.ref f21), ((Sum.inr "come" : Key), V.ref f22), ((Sum.inr "lost" : Key), V.ref f23), ((Sum.inr "wait" : Key), V.ref f24), ((Sum.inr "rule" : Key), V.ref f25), ((Sum.inr "unrule" : Key), V.ref f20)]) (PySem.W.mg_of X G zD) lD nD rD (show (["out", "come", "lost", "wait", "rule", "unrule"] : List Str).Nodup by decide +kernel) ⟨rfl, rfl, rfl⟩ (.cons ⟨rfl, rfl⟩ (.cons ⟨rfl, rfl⟩ (.cons ⟨rfl, rfl⟩ (.cons ⟨rfl, rfl⟩ (.cons ⟨rfl, rfl⟩ (.cons ⟨rfl, rfl⟩ (.nil))))))) fun H => ⟨_, _, rfl, by simp only [Rep], ⟨_, _, rfl, by simp only [Rep], ⟨_, _, rfl, by simp only [Rep], ⟨_, _, rfl, by simp only [Rep], ⟨_, _, rfl, by simp only [Rep], ⟨_, _, rfl, by simp only [Rep], rfl⟩⟩⟩⟩⟩⟩⟩
  have T : Txt l.prog w K mg := ⟨PySem.W.mg_none_of X G z_all, PySem.W.mg_none_of X G z_bool, PySem.W.mg_none_of X G z_int, PySem.W.mg_none_of X G z_isinstance, PySem.W.mg_none_of X G z_len, PySem.W.mg_none_of X G z_list, PySem.W.mg_none_of X G z_ord, PySem.W.mg_none_of X G z_range, PySem.W.mg_none_of X G z_str, PySem.W.mg_none_of X G z_tuple, PySem.W.mg_none_of X G z_zip, c_GREATEST_HOUSE, c_GREATEST_DOOR, c_GREATEST_PLACE, c_GREATEST_TICKS, c_GREATEST_RULE, c_MOST_SIGNS, c_FIRST_SIGN, c_LAST_SIGN, c_PERCENT_SIGN, c_KINDS, c_NOTE_WORDS, c_LINE_WORDS, c_DEEDS⟩
  have Fn0 := fun_mk (st := s_is_whole) l0 c0 k0
  have bn0 := Fn0.binds (ps := ["thing"]) fun _ _ _ _ _ _ us hl => match us, hl with | [_], _ => rfl
  have Fn1 := fun_mk (st := s_is_kind) l1 c1 k1
  have bn1 := Fn1.binds (ps := ["thing"]) fun _ _ _ _ _ _ us hl => match us, hl with | [_], _ => rfl
  have Fn2 := fun_mk (st := s_is_word) l2 c2 k2
  have bn2 := Fn2.binds (ps := ["kind", "thing"]) fun _ _ _ _ _ _ us hl => match us, hl with | [_, _], _ => rfl
  have Fn3 := fun_mk (st := s_is_sign) l3 c3 k3
  have bn3 := Fn3.binds (ps := ["sign"]) fun _ _ _ _ _ _ us hl => match us, hl with | [_], _ => rfl
  have Fn4 := fun_mk (st := s_name_of) l4 c4 k4
  have bn4 := Fn4.binds (ps := ["thing"]) fun _ _ _ _ _ _ us hl => match us, hl with | [_], _ => rfl
  have Fn5 := fun_mk (st := s__law_cell) l5 c5 k5
  have bn5 := Fn5.binds (ps := ["script", "k"]) fun _ _ _ _ _ _ us hl => match us, hl with | [_, _], _ => rfl
  have Fn6 := fun_mk (st := s__law_well) l6 c6 k6
  have bn6 := Fn6.binds (ps := ["cell", "turn"]) fun _ _ _ _ _ _ us hl => match us, hl with | [_, _], _ => rfl
  have Fn7 := fun_mk (st := s__law_take) l7 c7 k7
  have bn7 := Fn7.binds (ps := ["bag", "many"]) fun _ _ _ _ _ _ us hl => match us, hl with | [_, _], _ => rfl
  have Fn8 := fun_mk (st := s__law_whole) l8 c8 k8
  have bn8 := Fn8.binds (ps := ["found"]) fun _ _ _ _ _ _ us hl => match us, hl with | [_], _ => rfl
  have Fn9 := fun_mk (st := s__law_bounds) l9 c9 k9
  have bn9 := Fn9.binds (ps := ["name"]) fun _ _ _ _ _ _ us hl => match us, hl with | [_], _ => rfl
  have Fn10 := fun_mk (st := s_is_whole_within) l10 c10 k10
  have bn10 := Fn10.binds (ps := ["thing", "least", "greatest"]) fun _ _ _ _ _ _ us hl => match us, hl with | [_, _, _], _ => rfl
  have Fn11 := fun_mk (st := s_is_text) l11 c11 k11
  have bn11 := Fn11.binds (ps := ["thing"]) fun _ _ _ _ _ _ us hl => match us, hl with | [_], _ => rfl
  have Fn12 := fun_mk (st := s__law_said) l12 c12 k12
  have bn12 := Fn12.binds (ps := ["bag"]) fun _ _ _ _ _ _ us hl => match us, hl with | [_], _ => rfl
  have Fn13 := fun_mk (st := s__law_in_bounds) l13 c13 k13
  have bn13 := Fn13.binds (ps := ["thing", "low", "high"]) fun _ _ _ _ _ _ us hl => match us, hl with | [_, _, _], _ => rfl
  have Fn14 := fun_mk (st := s_is_house) l14 c14 k14
  have bn14 := Fn14.binds (ps := ["thing"]) fun _ _ _ _ _ _ us hl => match us, hl with | [_], _ => rfl
  have Fn15 := fun_mk (st := s_is_door) l15 c15 k15
  have bn15 := Fn15.binds (ps := ["thing"]) fun _ _ _ _ _ _ us hl => match us, hl with | [_], _ => rfl
  have Fn16 := fun_mk (st := s_is_place) l16 c16 k16
  have bn16 := Fn16.binds (ps := ["thing"]) fun _ _ _ _ _ _ us hl => match us, hl with | [_], _ => rfl
  have Fn17 := fun_mk (st := s_is_outer_place) l17 c17 k17
  have bn17 := Fn17.binds (ps := ["thing"]) fun _ _ _ _ _ _ us hl => match us, hl with | [_], _ => rfl
  have Fn18 := fun_mk (st := s_is_ticks) l18 c18 k18
  have bn18 := Fn18.binds (ps := ["thing"]) fun _ _ _ _ _ _ us hl => match us, hl with | [_], _ => rfl
  have Fn19 := fun_mk (st := s_is_letter) l19 c19 k19
  have bn19 := Fn19.binds (ps := ["kind", "word", "text"]) fun _ _ _ _ _ _ us hl => match us, hl with | [_, _, _], _ => rfl
  have Fn20 := fun_mk (st := s_is_unrule) l20 c20 k20
  have bn20 := Fn20.binds (ps := ["parts"]) fun _ _ _ _ _ _ us hl => match us, hl with | [_], _ => rfl
  have Fn21 := fun_mk (st := s_is_out) l21 c21 k21
  have bn21 := Fn21.binds (ps := ["parts"]) fun _ _ _ _ _ _ us hl => match us, hl with | [_], _ => rfl
  have Fn22 := fun_mk (st := s_is_come) l22 c22 k22
  have bn22 := Fn22.binds (ps := ["parts"]) fun _ _ _ _ _ _ us hl => match us, hl with | [_], _ => rfl
  have Fn23 := fun_mk (st := s_is_lost) l23 c23 k23
  have bn23 := Fn23.binds (ps := ["parts"]) fun _ _ _ _ _ _ us hl => match us, hl with | [_], _ => rfl
  have Fn24 := fun_mk (st := s_is_wait) l24 c24 k24
  have bn24 := Fn24.binds (ps := ["parts"]) fun _ _ _ _ _ _ us hl => match us, hl with | [_], _ => rfl
  have Fn25 := fun_mk (st := s_is_rule) l25 c25 k25
  have bn25 := Fn25.binds (ps := ["parts"]) fun _ _ _ _ _ _ us hl => match us, hl with | [_], _ => rfl
  have Fn26 := fun_mk (st := s_is_deed) l26 c26 k26
  have bn26 := Fn26.binds (ps := ["thing"]) fun _ _ _ _ _ _ us hl => match us, hl with | [_], _ => rfl
  have Fn27 := fun_mk (st := s__law_is_said) l27 c27 k27
  have bn27 := Fn27.binds (ps := ["kind", "word", "text"]) fun _ _ _ _ _ _ us hl => match us, hl with | [_, _, _], _ => rfl
  have Fn28 := fun_mk (st := s__law_odd) l28 c28 k28
  have bn28 := Fn28.binds (ps := ["bag", "part"]) fun _ _ _ _ _ _ us hl => match us, hl with | [_, _], _ => rfl
  have Fn29 := fun_mk (st := s__law_is_right) l29 c29 k29
  have bn29 := Fn29.binds (ps := ["thing"]) fun _ _ _ _ _ _ us hl => match us, hl with | [_], _ => rfl
  have Fn30 := fun_mk (st := s__law_a_deed) l30 c30 k30
  have bn30 := Fn30.binds (ps := ["bag"]) fun _ _ _ _ _ _ us hl => match us, hl with | [_], _ => rfl
  have Fn31 := fun_mk (st := s__law_bent) l31 c31 k31
  have bn31 := Fn31.binds (ps := ["bag", "deed"]) fun _ _ _ _ _ _ us hl => match us, hl with | [_, _], _ => rfl
  have Fn32 := fun_mk (st := s_law) l32 c32 k32
  have bn32 := Fn32.binds (ps := ["script"]) fun _ _ _ _ _ _ us hl => match us, hl with | [_], _ => rfl
  refine ⟨PySem.W.fnOf "law" "law" (defArgs s_law) (defBody s_law) (defScope s_law) .none kV32 dc32 pm32 an32 cd32 ct32, fun s v => .of_eq rfl, fun base kb nb => ?_⟩
  have G_is_whole : RFn l.prog w K mg base 1 "is_whole" ["thing"] sp_is_whole := ⟨_, _, PySem.W.mg_of X G a0, Fn0.kp, bn0, fn_is_whole Fn0 T ⟩
  have G_is_kind : RFn l.prog w K mg base 1 "is_kind" ["thing"] sp_is_kind := ⟨_, _, PySem.W.mg_of X G a1, Fn1.kp, bn1, fn_is_kind Fn1 T ⟩
  have G_is_word : RFn l.prog w K mg base 1 "is_word" ["kind", "thing"] sp_is_word := ⟨_, _, PySem.W.mg_of X G a2, Fn2.kp, bn2, fn_is_word Fn2 T ⟩
  have G_is_sign : RFn l.prog w K mg base 1 "is_sign" ["sign"] sp_is_sign := ⟨_, _, PySem.W.mg_of X G a3, Fn3.kp, bn3, fn_is_sign Fn3 T ⟩
  have G_name_of : RFn l.prog w K mg base 1 "name_of" ["thing"] sp_name_of := ⟨_, _, PySem.W.mg_of X G a4, Fn4.kp, bn4, fn_name_of Fn4 T ⟩
  have G__law_cell : RFn l.prog w K mg base 1 "_law_cell" ["script", "k"] sp__law_cell := ⟨_, _, PySem.W.mg_of X G a5, Fn5.kp, bn5, fn__law_cell Fn5 T ⟩
  have G__law_well : RFn l.prog w K mg base 1 "_law_well" ["cell", "turn"] sp__law_well := ⟨_, _, PySem.W.mg_of X G a6, Fn6.kp, bn6, fn__law_well Fn6 T ⟩
  have G__law_take : RFn l.prog w K mg base 1 "_law_take" ["bag", "many"] sp__law_take := ⟨_, _, PySem.W.mg_of X G a7, Fn7.kp, bn7, fn__law_take Fn7 T ⟩
  have G__law_whole : RFn l.prog w K mg base 1 "_law_whole" ["found"] sp__law_whole := ⟨_, _, PySem.W.mg_of X G a8, Fn8.kp, bn8, fn__law_whole Fn8 T ⟩
  have G__law_bounds : RFn l.prog w K mg base 1 "_law_bounds" ["name"] sp__law_bounds := ⟨_, _, PySem.W.mg_of X G a9, Fn9.kp, bn9, fn__law_bounds Fn9 T ⟩
  have G_is_whole_within : RFn l.prog w K mg base 2 "is_whole_within" ["thing", "least", "greatest"] sp_is_whole_within := ⟨_, _, PySem.W.mg_of X G a10, Fn10.kp, bn10, fn_is_whole_within Fn10 T G_is_whole⟩
  have G_is_text : RFn l.prog w K mg base 2 "is_text" ["thing"] sp_is_text := ⟨_, _, PySem.W.mg_of X G a11, Fn11.kp, bn11, fn_is_text Fn11 T G_is_sign⟩
  have G__law_said : RFn l.prog w K mg base 2 "_law_said" ["bag"] sp__law_said := ⟨_, _, PySem.W.mg_of X G a12, Fn12.kp, bn12, fn__law_said Fn12 T G__law_take⟩
  have G__law_in_bounds : RFn l.prog w K mg base 2 "_law_in_bounds" ["thing", "low", "high"] sp__law_in_bounds := ⟨_, _, PySem.W.mg_of X G a13, Fn13.kp, bn13, fn__law_in_bounds Fn13 T G__law_whole⟩
  have G_is_house : RFn l.prog w K mg base 3 "is_house" ["thing"] sp_is_house := ⟨_, _, PySem.W.mg_of X G a14, Fn14.kp, bn14, fn_is_house Fn14 T G_is_whole_within⟩
  have G_is_door : RFn l.prog w K mg base 3 "is_door" ["thing"] sp_is_door := ⟨_, _, PySem.W.mg_of X G a15, Fn15.kp, bn15, fn_is_door Fn15 T G_is_whole_within⟩
  have G_is_place : RFn l.prog w K mg base 3 "is_place" ["thing"] sp_is_place := ⟨_, _, PySem.W.mg_of X G a16, Fn16.kp, bn16, fn_is_place Fn16 T G_is_whole_within⟩
  have G_is_outer_place : RFn l.prog w K mg base 3 "is_outer_place" ["thing"] sp_is_outer_place := ⟨_, _, PySem.W.mg_of X G a17, Fn17.kp, bn17, fn_is_outer_place Fn17 T G_is_whole_within⟩
  have G_is_ticks : RFn l.prog w K mg base 3 "is_ticks" ["thing"] sp_is_ticks := ⟨_, _, PySem.W.mg_of X G a18, Fn18.kp, bn18, fn_is_ticks Fn18 T G_is_whole_within⟩
  have G_is_letter : RFn l.prog w K mg base 3 "is_letter" ["kind", "word", "text"] sp_is_letter := ⟨_, _, PySem.W.mg_of X G a19, Fn19.kp, bn19, fn_is_letter Fn19 T G_is_kind G_is_word G_is_text⟩
  have G_is_unrule : RFn l.prog w K mg base 3 "is_unrule" ["parts"] sp_is_unrule := ⟨_, _, PySem.W.mg_of X G a20, Fn20.kp, bn20, fn_is_unrule Fn20 T G_is_whole_within⟩
  have G_is_out : RFn l.prog w K mg base 4 "is_out" ["parts"] sp_is_out := ⟨_, _, PySem.W.mg_of X G a21, Fn21.kp, bn21, fn_is_out Fn21 T G_is_house G_is_door G_is_place G_is_letter⟩
  have G_is_come : RFn l.prog w K mg base 4 "is_come" ["parts"] sp_is_come := ⟨_, _, PySem.W.mg_of X G a22, Fn22.kp, bn22, fn_is_come Fn22 T G_is_door G_is_outer_place G_is_letter⟩
  have G_is_lost : RFn l.prog w K mg base 4 "is_lost" ["parts"] sp_is_lost := ⟨_, _, PySem.W.mg_of X G a23, Fn23.kp, bn23, fn_is_lost Fn23 T G_is_door G_is_outer_place G_is_kind⟩
  have G_is_wait : RFn l.prog w K mg base 4 "is_wait" ["parts"] sp_is_wait := ⟨_, _, PySem.W.mg_of X G a24, Fn24.kp, bn24, fn_is_wait Fn24 T G_is_ticks⟩
  have G_is_rule : RFn l.prog w K mg base 4 "is_rule" ["parts"] sp_is_rule := ⟨_, _, PySem.W.mg_of X G a25, Fn25.kp, bn25, fn_is_rule Fn25 T G_is_house G_is_door G_is_place G_is_kind⟩
  have G_is_deed : RFn l.prog w K mg base 5 "is_deed" ["thing"] sp_is_deed := ⟨_, _, PySem.W.mg_of X G a26, Fn26.kp, bn26, fn_is_deed Fn26 T G_is_out G_is_come G_is_lost G_is_wait G_is_rule G_is_unrule G_name_of⟩
  have G__law_is_said : RFn l.prog w K mg base 1 "_law_is_said" ["kind", "word", "text"] sp__law_is_said := ⟨_, _, PySem.W.mg_of X G a27, Fn27.kp, bn27, fn__law_is_said Fn27 T ⟩
  have G__law_odd : RFn l.prog w K mg base 2 "_law_odd" ["bag", "part"] sp__law_odd := ⟨_, _, PySem.W.mg_of X G a28, Fn28.kp, bn28, fn__law_odd Fn28 T G__law_take G__law_whole⟩
  have G__law_is_right : RFn l.prog w K mg base 3 "_law_is_right" ["thing"] sp__law_is_right := ⟨_, _, PySem.W.mg_of X G a29, Fn29.kp, bn29, fn__law_is_right Fn29 T G__law_in_bounds G__law_is_said G__law_bounds⟩
  have G__law_a_deed : RFn l.prog w K mg base 3 "_law_a_deed" ["bag"] sp__law_a_deed := ⟨_, _, PySem.W.mg_of X G a30, Fn30.kp, bn30, fn__law_a_deed Fn30 T G__law_take G__law_said G__law_bounds⟩
  have G__law_bent : RFn l.prog w K mg base 3 "_law_bent" ["bag", "deed"] sp__law_bent := ⟨_, _, PySem.W.mg_of X G a31, Fn31.kp, bn31, fn__law_bent Fn31 T G__law_take G__law_odd⟩
  exact fn_law Fn32 T G_is_deed G__law_cell G__law_well G__law_take G__law_is_right G__law_a_deed G__law_bent
theorem walk {l : PySem.W.OpenLaw} {q : Program} {loose : List Str} {XP : (Str → Option Value) → Heap → Prop} {YP : World → Heap → Prop} {d : DefRec} {K : Params → PySem.W.Frag} (hn : l.most = some 63) (hdf : d.params.defaults = [])
    (hY : ∀ (w : World) (h : Heap), YP w h → (K w.params).In h)
    (F : ∀ (w : World) (mg : Str → Option Value) (fa : Addr) (h : Heap), (K w.params).In h → h.Ns mainGlobals mg → mg d.name = some (.ref fa) →
      ∃ fd : FuncData, (∀ (s : Shared) (u : Value), BindsTo s fd ⟨[u], []⟩ [("script", u)]) ∧ ∀ base : Heap, (K w.params).In base → base.Ns mainGlobals mg → FnOk l.prog w (K w.params) mg base CX0 6 fa fd ["script"] (upSp (K w.params) sp_law)) :
    PySem.W.WalkO q loose XP YP l.row.toRowW d [] (fun f vs => PySem.call f vs) :=
  L2.walk_of (n := 63) (k := 6) (x := "script") (CX := fun _ => CX0) (sp := fun w => upSp (K w.params) sp_law) hn (by decide) hdf ⟨rfl, by decide, by decide⟩ hY F (fun _ _ a ns hl hO hS => law_in hO hS (law_start ns hl)) fun _ _ _ _ _ z => z
end K02
open PySem PySem.W PyProof.Rows
set_option maxRecDepth 100000 in
set_option maxHeartbeats 0 in
theorem PySem.Challenge.cw_lentgate_k02_deeds_of_any_form_holds : PySem.Challenge.rw_lentgate_k02_deeds_of_any_form.Holds := by
  w_on; o_law; k_head; (case hw => w_witness2)
  k_fill
  refine K02.walk (l := PySem.Challenge.rw_lentgate_k02_deeds_of_any_form) rfl rfl (fun w h Y => PySem.W.kIn_of Y) ?F
  case F =>
    intro w mg fa h KX G hmg
    refine' K02.all_mk KX G hmg ?a0 ?l0 ?c0 ?k0 ?a1 ?l1 ?c1 ?k1 ?a2 ?l2 ?c2 ?k2 ?a3 ?l3 ?c3 ?k3 ?a4 ?l4 ?c4 ?k4 ?a5 ?l5 ?c5 ?k5 ?a6 ?l6 ?c6 ?k6 ?a7 ?l7 ?c7 ?k7 ?a8 ?l8 ?c8 ?k8 ?a9 ?l9 ?c9 ?k9 ?a10 ?l10 ?c10 ?k10 ?a11 ?l11 ?c11 ?k11 ?a12 ?l12 ?c12 ?k12 ?a13 ?l13 ?c13 ?k13 ?a14 ?l14 ?c14 ?k14 ?a15 ?l15 ?c15 ?k15 ?a16 ?l16 ?c16 ?k16 ?a17 ?l17 ?c17 ?k17 ?a18 ?l18 ?c18 ?k18 ?a19 ?l19 ?c19 ?k19 ?a20 ?l20 ?c20 ?k20 ?a21 ?l21 ?c21 ?k21 ?a22 ?l22 ?c22 ?k22 ?a23 ?l23 ?c23 ?k23 ?a24 ?l24 ?c24 ?k24 ?a25 ?l25 ?c25 ?k25 ?a26 ?l26 ?c26 ?k26 ?a27 ?l27 ?c27 ?k27 ?a28 ?l28 ?c28 ?k28 ?a29 ?l29 ?c29 ?k29 ?a30 ?l30 ?c30 ?k30 ?a31 ?l31 ?c31 ?k31 ?a32 ?l32 ?c32 ?k32 ?z_all ?z_bool ?z_int ?z_isinstance ?z_len ?z_list ?z_ord ?z_range ?z_str ?z_tuple ?z_zip ?z_GREATEST_HOUSE ?z_GREATEST_DOOR ?z_GREATEST_PLACE ?z_GREATEST_TICKS ?z_GREATEST_RULE ?z_MOST_SIGNS ?z_FIRST_SIGN ?z_LAST_SIGN ?z_PERCENT_SIGN ?z_KINDS ?l_KINDS ?y_KINDS ?v_KINDS ?z_NOTE_WORDS ?l_NOTE_WORDS ?y_NOTE_WORDS ?v_NOTE_WORDS ?z_LINE_WORDS ?l_LINE_WORDS ?y_LINE_WORDS ?v_LINE_WORDS ?zD ?lD ?nD ?rD
    (case a0 => k_is)
    (case l0 => k_is)
    (case c0 => k_is)
    (case k0 => k_is)
    (case a1 => k_is)
    (case l1 => k_is)
    (case c1 => k_is)
    (case k1 => k_is)
    (case a2 => k_is)
    (case l2 => k_is)
    (case c2 => k_is)
    (case k2 => k_is)
    (case a3 => k_is)
    (case l3 => k_is)
    (case c3 => k_is)
    (case k3 => k_is)
    (case a4 => k_is)
    (case l4 => k_is)
    (case c4 => k_is)
    (case k4 => k_is)
    (case a5 => k_is)
    (case l5 => k_is)
    (case c5 => k_is)
    (case k5 => k_is)
    (case a6 => k_is)
    (case l6 => k_is)
    (case c6 => k_is)
    (case k6 => k_is)
    (case a7 => k_is)
    (case l7 => k_is)
    (case c7 => k_is)
    (case k7 => k_is)
    (case a8 => k_is)
    (case l8 => k_is)
    (case c8 => k_is)
    (case k8 => k_is)
    (case a9 => k_is)
    (case l9 => k_is)
    (case c9 => k_is)
    (case k9 => k_is)
    (case a10 => k_is)
    (case l10 => k_is)
    (case c10 => k_is)
    (case k10 => k_is)
    (case a11 => k_is)
    (case l11 => k_is)
    (case c11 => k_is)
    (case k11 => k_is)
    (case a12 => k_is)
    (case l12 => k_is)
    (case c12 => k_is)
    (case k12 => k_is)
    (case a13 => k_is)
    (case l13 => k_is)
    (case c13 => k_is)
    (case k13 => k_is)
    (case a14 => k_is)
    (case l14 => k_is)
    (case c14 => k_is)
    (case k14 => k_is)
    (case a15 => k_is)
    (case l15 => k_is)
    (case c15 => k_is)
    (case k15 => k_is)
    (case a16 => k_is)
    (case l16 => k_is)
    (case c16 => k_is)
    (case k16 => k_is)
    (case a17 => k_is)
    (case l17 => k_is)
    (case c17 => k_is)
    (case k17 => k_is)
    (case a18 => k_is)
    (case l18 => k_is)
    (case c18 => k_is)
    (case k18 => k_is)
    (case a19 => k_is)
    (case l19 => k_is)
    (case c19 => k_is)
    (case k19 => k_is)
    (case a20 => k_is)
    (case l20 => k_is)
    (case c20 => k_is)
    (case k20 => k_is)
    (case a21 => k_is)
    (case l21 => k_is)
    (case c21 => k_is)
    (case k21 => k_is)
    (case a22 => k_is)
    (case l22 => k_is)
    (case c22 => k_is)
    (case k22 => k_is)
    (case a23 => k_is)
    (case l23 => k_is)
    (case c23 => k_is)
    (case k23 => k_is)
    (case a24 => k_is)
    (case l24 => k_is)
    (case c24 => k_is)
    (case k24 => k_is)
    (case a25 => k_is)
    (case l25 => k_is)
    (case c25 => k_is)
    (case k25 => k_is)
    (case a26 => k_is)
    (case l26 => k_is)
    (case c26 => k_is)
    (case k26 => k_is)
    (case a27 => k_is)
    (case l27 => k_is)
    (case c27 => k_is)
    (case k27 => k_is)
    (case a28 => k_is)
    (case l28 => k_is)
    (case c28 => k_is)
    (case k28 => k_is)
    (case a29 => k_is)
    (case l29 => k_is)
    (case c29 => k_is)
    (case k29 => k_is)
    (case a30 => k_is)
    (case l30 => k_is)
    (case c30 => k_is)
    (case k30 => k_is)
    (case a31 => k_is)
    (case l31 => k_is)
    (case c31 => k_is)
    (case k31 => k_is)
    (case a32 => k_is)
    (case l32 => k_is)
    (case c32 => k_is)
    (case k32 => k_is)
    (case z_all => k_is)
    (case z_bool => k_is)
    (case z_int => k_is)
    (case z_isinstance => k_is)
    (case z_len => k_is)
    (case z_list => k_is)
    (case z_ord => k_is)
    (case z_range => k_is)
    (case z_str => k_is)
    (case z_tuple => k_is)
    (case z_zip => k_is)
    (case z_GREATEST_HOUSE => k_is)
    (case z_GREATEST_DOOR => k_is)
    (case z_GREATEST_PLACE => k_is)
    (case z_GREATEST_TICKS => k_is)
    (case z_GREATEST_RULE => k_is)
    (case z_MOST_SIGNS => k_is)
    (case z_FIRST_SIGN => k_is)
    (case z_LAST_SIGN => k_is)
    (case z_PERCENT_SIGN => k_is)
    (case z_KINDS => k_is)
    (case l_KINDS => k_is)
    (case y_KINDS => exact (by decide))
    (case v_KINDS => exact .cons ⟨_, rfl⟩ (.cons ⟨_, rfl⟩ (.nil)))
    (case z_NOTE_WORDS => k_is)
    (case l_NOTE_WORDS => k_is)
    (case y_NOTE_WORDS => exact (by decide))
    (case v_NOTE_WORDS => exact .cons ⟨_, rfl⟩ (.nil))
    (case z_LINE_WORDS => k_is)
    (case l_LINE_WORDS => k_is)
    (case y_LINE_WORDS => exact (by decide))
    (case v_LINE_WORDS => exact .cons ⟨_, rfl⟩ (.cons ⟨_, rfl⟩ (.cons ⟨_, rfl⟩ (.cons ⟨_, rfl⟩ (.nil)))))
    (case zD => k_is)
    (case lD => k_is)
    (case nD => rfl)
    (case rD => exact ⟨⟨_, rfl⟩, rfl, rfl, ⟨_, rfl⟩, rfl, rfl, ⟨_, rfl⟩, rfl, rfl, ⟨_, rfl⟩, rfl, rfl, ⟨_, rfl⟩, rfl, rfl, ⟨_, rfl⟩, rfl, rfl, trivial⟩)

