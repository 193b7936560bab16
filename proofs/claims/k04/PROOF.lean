import PyProof.Rows.All
import Wide.All
import OpenK.AllK
import Wide.FinOn
import Lean
import PyProof.EqAt
import PyProof.EqKinds
import PyProof.TupleCall
import PyProof.NeKinds
import PySem.Challenge.RW_lentgate_k04_holders_and_times
section
set_option Elab.async false
set_option linter.all false
set_option maxRecDepth 100000
/-! the hand layer -/
namespace L2
open PySem PySem.Spec PyProof.Rows

/-- a key: an int or a str -/
abbrev Key := Sum Int Str
def keyIs : Key → Value → Bool
  | .inl k, v => Value.isInt k v
  | .inr x, v => Value.isStrOf x v
def keyH (w : World) : Key → Int
  | .inl k => hashInt k
  | .inr x => hashStr w x
theorem keyIs_shape : ∀ {k : Key} {v : Value}, keyIs k v = true → (∃ i t, k = Sum.inl i ∧ v = Value.int i t) ∨ (∃ x t, k = Sum.inr x ∧ v = Value.str x t)
  | .inl i, v, h => by
    obtain ⟨t, e⟩ := Value.isInt_shape (k := i) (v := v) h
    exact .inl ⟨i, t, rfl, e⟩
  | .inr x, v, h => by
    obtain ⟨t, e⟩ := Value.isStrOf_shape (x := x) (v := v) h
    exact .inr ⟨x, t, rfl, e⟩
theorem keyIs_int (i : Int) (t : Tok) : keyIs (.inl i) (.int i t) = true := by simp [keyIs, Value.isInt]
theorem keyIs_str (x : Str) (t : Tok) : keyIs (.inr x) (.str x t) = true := by simp [keyIs, Value.isStrOf]
theorem key_ll (a b : Int) : decide ((Sum.inl a : Key) = Sum.inl b) = (a == b) := by
  by_cases e : a = b
  · subst e; simp
  · have h : ¬ (Sum.inl a : Key) = Sum.inl b := fun q => e (Sum.inl.inj q)
    rw [decide_eq_false h]
    exact (beq_eq_false_iff_ne.mpr e).symm
theorem key_rr (a b : Str) : decide ((Sum.inr a : Key) = Sum.inr b) = decide (a = b) := by
  by_cases e : a = b
  · subst e; simp
  · have h : ¬ (Sum.inr a : Key) = Sum.inr b := fun q => e (Sum.inr.inj q)
    rw [decide_eq_false h, decide_eq_false e]
theorem key_lr (a : Int) (b : Str) : decide ((Sum.inl a : Key) = Sum.inr b) = false := decide_eq_false (fun q => nomatch q)
theorem key_rl (a : Str) (b : Int) : decide ((Sum.inr a : Key) = Sum.inl b) = false := decide_eq_false (fun q => nomatch q)

def mixKind (prog : Program) (w : World) : PySem.KeyKind prog w Key where
  is := keyIs
  hash := keyH w
  inj := fun v a b ha hb => by
    rcases keyIs_shape ha with ⟨i, t, rfl, rfl⟩ | ⟨x, t, rfl, rfl⟩
    · rcases keyIs_shape hb with ⟨j, u, rfl, e⟩ | ⟨y, u, rfl, e⟩
      · injection e with e1 _; rw [e1]
      · exact nomatch e
    · rcases keyIs_shape hb with ⟨j, u, rfl, e⟩ | ⟨y, u, rfl, e⟩
      · exact nomatch e
      · injection e with e1 _; rw [e1]
  byValue := fun k v h => by
    rcases keyIs_shape h with ⟨i, t, rfl, rfl⟩ | ⟨x, t, rfl, rfl⟩ <;> rfl
  pyHash := fun hv h => by
    rcases keyIs_shape hv with ⟨i, t, rfl, rfl⟩ | ⟨x, t, rfl, rfl⟩
    · exact wpAny_pyHash_int h
    · exact wpAny_pyHash_str h
  eqBool := fun hu hv h => by
    rcases keyIs_shape hu with ⟨i, t, rfl, rfl⟩ | ⟨x, t, rfl, rfl⟩
    · rcases keyIs_shape hv with ⟨j, u, rfl, rfl⟩ | ⟨y, u, rfl, rfl⟩
      · rw [key_ll] at h; exact wpAny_eqBool_int h
      · rw [key_lr] at h; exact SeqAt.EqAt.int_str i t y u _ _ _ _ h
    · rcases keyIs_shape hv with ⟨j, u, rfl, rfl⟩ | ⟨y, u, rfl, rfl⟩
      · rw [key_rl] at h; exact SeqAt.EqAt.str_int x t j u _ _ _ _ h
      · rw [key_rr] at h; exact wpAny_eqBool_str h
  «strs» := fun k x t v h => by
    rcases keyIs_shape h with ⟨i, u, rfl, e⟩ | ⟨y, u, rfl, e⟩
    · exact nomatch e
    · injection e with e1 _
      subst e1
      cases v <;> rfl

theorem mixKind_is (prog : Program) (w : World) (k : Key) (v : Value) : (mixKind prog w).is k v = keyIs k v := rfl
theorem mixKind_int (prog : Program) (w : World) (i : Int) (t : Tok) : (mixKind prog w).is (.inl i) (.int i t) = true := keyIs_int i t
theorem mixKind_str (prog : Program) (w : World) (x : Str) (t : Tok) : (mixKind prog w).is (.inr x) (.str x t) = true := keyIs_str x t
end L2

namespace L2
open PySem PySem.Spec PyProof.Rows

/-- a value, without the heap -/
inductive V where
  | non | bl (b : Bool) | int (i : Int) | str (x : Str) | byt (b : Array UInt8) | flt (b : UInt64) | ref (a : Addr) | ty (n : String)
  deriving DecidableEq

def RelV : V → Value → Prop
  | .non, u => u = Value.none
  | .bl b, u => u = Value.bool b
  | .int i, u => ∃ t, u = Value.int i t
  | .str x, u => ∃ t, u = Value.str x t
  | .byt b, u => ∃ t, u = Value.bytes b t
  | .flt b, u => ∃ t, u = Value.float b t
  | .ref a, u => u = Value.ref a
  | .ty n, u => u = Value.type n

abbrev Vals : List V → List Value → Prop := Paired RelV
theorem Vals.length {xs : List V} {us : List Value} (r : Vals xs us) : xs.length = us.length := Paired.length r
theorem Vals.get : ∀ {xs : List V} {us : List Value} {i : Nat} {x : V}, Vals xs us → xs[i]? = some x → ∃ u, us[i]? = some u ∧ RelV x u
  | _, _, _, _, .nil, e => by simp at e
  | _, _, 0, _, .cons r _, e => by simp at e; subst e; exact ⟨_, rfl, r⟩
  | _, _, i + 1, x, .cons _ t, e => by
    obtain ⟨u, h1, h2⟩ := Vals.get (i := i) (x := x) t (by simpa using e)
    exact ⟨u, by simpa using h1, h2⟩
theorem Vals.set {x : V} {u : Value} (r : RelV x u) : ∀ {xs : List V} {us : List Value} (i : Nat), Vals xs us → Vals (xs.set i x) (us.set i u)
  | _, _, _, .nil => .nil
  | _, _, 0, .cons _ t => .cons r t
  | _, _, i + 1, .cons q t => .cons q (Vals.set r i t)
theorem Vals.append : ∀ {xs ys : List V} {us ws : List Value}, Vals xs us → Vals ys ws → Vals (xs ++ ys) (us ++ ws)
  | _, _, _, _, .nil, s => s
  | _, _, _, _, .cons r t, s => .cons r (Vals.append t s)
theorem Vals.take : ∀ {xs : List V} {us : List Value} (n : Nat), Vals xs us → Vals (xs.take n) (us.take n)
  | _, _, 0, _ => .nil
  | _, _, _ + 1, .nil => .nil
  | _, _, n + 1, .cons r t => .cons r (Vals.take n t)
theorem Vals.drop : ∀ {xs : List V} {us : List Value} (n : Nat), Vals xs us → Vals (xs.drop n) (us.drop n)
  | _, _, 0, r => r
  | _, _, _ + 1, .nil => .nil
  | _, _, n + 1, .cons _ t => Vals.drop n t
theorem Vals.none_of : ∀ {xs : List V} {us : List Value} {i : Nat}, Vals xs us → xs[i]? = none → us[i]? = none := fun {xs us i} r e => by
  have h1 := r.length
  have h2 : xs.length ≤ i := List.getElem?_eq_none_iff.mp e
  exact List.getElem?_eq_none_iff.mpr (by omega)

def RelO : Option V → Option Value → Prop
  | some v, some u => RelV v u
  | none, none => True
  | _, _ => False
def KV {κ : Type} : List (κ × V) → List (κ × Value) → Prop := Paired fun (p : κ × V) (q : κ × Value) => p.1 = q.1 ∧ RelV p.2 q.2

/-- a key of a dict (00_mix): an int or a text -/
def kV : Key → V
  | .inl i => .int i
  | .inr x => .str x

/-- what stands at a tracked address -/
inductive HO where
  /-- a list -/
  | lst (xs : List V)
  /-- a tuple (never changes) -/
  | tup (xs : List V)
  /-- a dict whose keys are ints and texts; one whose keys are tuples of ints and texts (the empty one is both) -/
  | dK (kvs : List (Key × V)) | dT (kvs : List (List Key × V))
  /-- a set of ints: its members, its size -/
  | set (S : Int → Bool) (n : Nat)
  /-- an instance of the class at C, its dict at dx, its attributes -/
  | ins (C dx : Addr) (fs : List (Str × V))
  /-- the dict of the instance at x -/
  | own (x : Addr)
  /-- the dict of an exception -/
  | xd (fs : List (Str × V))
  /-- a bound method, f of x -/
  | met (f x : Addr)
  /-- a range object lo, lo + 1, .. below hi -/
  | rng (lo hi : Int)
  /-- a thing that is known to the object (the script; a dict while a loop walks it): read, never written while it is so -/
  | frz (o : Obj) (u : HO)
  /-- a code object's table -/
  | tbl (ps : Array Value)
  /-- any other thing, by what is true of its one object (a def of one's own: SetO a S n := HO.ext fun h => ..) -/
  | ext (φ : Heap → Prop)

abbrev Hp := Addr → Option HO
def upd (H : Hp) (a : Addr) (o : HO) : Hp := fun b => if b = a then some o else H b
theorem upd_same {H : Hp} {a : Addr} {o : HO} : upd H a o a = some o := by unfold upd; rw [if_pos rfl]
theorem upd_ne {H : Hp} {a b : Addr} {o : HO} (h : b ≠ a) : upd H a o b = H b := by unfold upd; rw [if_neg h]
theorem upd_upd {H : Hp} {a : Addr} {o u : HO} : upd (upd H a o) a u = upd H a u := by
  funext b; unfold upd; split <;> rfl
/-- two objects of different content stand apart -/
theorem ne_of {H : Hp} {a b : Addr} {o u : HO} (h : H a = some o) (h' : H b = some u) (d : o ≠ u) : a ≠ b := by
  intro e; subst e; rw [h] at h'; exact d (Option.some.inj h')
theorem ne_of_none {H : Hp} {a b : Addr} {o : HO} (h : H a = some o) (h' : H b = none) : a ≠ b := by
  intro e; subst e; rw [h] at h'; cases h'

section
variable (P : Program) (w : World)
def ObjOk (H : Hp) (h : Heap) (a : Addr) : HO → Prop
  | .lst xs => xs.length ≤ sizeLine ∧ ∃ (its : List Value) (n : Nat), Vals xs its ∧ h.get? a = some { cls := .type "list", data := .seq its.toArray n }
  | .tup xs => xs.length ≤ sizeLine ∧ ∃ its : List Value, Vals xs its ∧ IsTup h a its.toArray
  | .dK kvs => kvs.length ≤ sizeLine ∧ (a == sysModules) = false ∧ ∃ vs, KV kvs vs ∧ h.DictOf (mixKind P w) a vs
  | .dT kvs => kvs.length ≤ sizeLine ∧ (a == sysModules) = false ∧ ∃ xs : List (List Key × Addr × Value),
      Paired (fun (p : List Key × V) (q : List Key × Addr × Value) => p.1 = q.1 ∧ H q.2.1 = some (.tup (p.1.map kV)) ∧ RelV p.2 q.2.2) kvs xs ∧
      ∃ o es ep, h.get? a = some o ∧ o.ExactDict ∧ o.data = .dict es ep ∧ es.toList = xs.map (entryOfKey (tupleKind (mixKind P w))) ∧ (xs.map (·.1)).Nodup
  | .set S n => h.SetOf (intKind P w) a S n
  | .ins C dx fs => H dx = some (.own a) ∧ fs.length ≤ 1000 ∧ dx ≠ a ∧ h.get? a = some (PySem.W.instObj C dx) ∧
      ∃ mA, h.Ns1 dx mA ∧ (∀ f, RelO (fs.lookup f) (mA f)) ∧ PySem.Within mA (fs.map (·.1))
  | .own _ => ∃ o, h.get? a = some o
  | .xd fs => ∃ mA, h.Ns1 a mA ∧ ∀ f, RelO (fs.lookup f) (mA f)
  | .rng lo hi => ∃ t u v, h.get? a = some { cls := .type "range", data := .fields #[.int lo t, .int hi u, .int 1 v] }
  | .frz o u => h.get? a = some o ∧ ObjOk H h a u
  | .tbl ps => h.get? a = some { cls := .none, data := .fields ps }
  | .met f x => h.get? a = some (PySem.W.methodObj (.ref f) (.ref x))
  | .ext φ => φ h ∧ (∃ o, h.get? a = some o) ∧ ∀ h1 h2 : Heap, φ h1 → (∀ o, h1.get? a = some o → h2.get? a = some o) → φ h2
/-- the abstract heap is held -/
def HOk (H : Hp) (h : Heap) : Prop := ∀ a o, H a = some o → ObjOk P w H h a o
end

section
variable {P : Program} {w : World} {H H' : Hp} {h h' : Heap} {a : Addr} {o : HO}
theorem ObjOk.lt (x : ObjOk P w H h a o) : a < h.objs.size := by
  cases o with
  | lst xs => obtain ⟨_, _, _, _, e⟩ := x; exact Heap.lt_size e
  | tup xs => obtain ⟨_, _, _, p⟩ := x; exact p.lt
  | dK kvs => obtain ⟨_, _, _, _, o, _, _, e, _⟩ := x; exact Heap.lt_size e
  | dT kvs => obtain ⟨_, _, _, _, o, _, _, e, _⟩ := x; exact Heap.lt_size e
  | set S n => obtain ⟨o, _, _, _, e, _⟩ := x; exact Heap.lt_size e
  | ins C dx fs => obtain ⟨_, _, _, e, _⟩ := x; exact Heap.lt_size e
  | own y => obtain ⟨_, e⟩ := x; exact Heap.lt_size e
  | xd fs => obtain ⟨_, ⟨_, _, _, e, _⟩, _⟩ := x; exact Heap.lt_size e
  | rng lo hi => obtain ⟨_, _, _, e⟩ := x; exact Heap.lt_size e
  | frz ob u => obtain ⟨e, _⟩ := x; exact Heap.lt_size e
  | tbl ps => exact Heap.lt_size (show h.get? a = some _ from x)
  | met f y => exact Heap.lt_size (show h.get? a = some _ from x)
  | ext φ => obtain ⟨_, ⟨_, e⟩, _⟩ := x; exact Heap.lt_size e
theorem Paired.mapP {α β : Type} {F G : α → β → Prop} : ∀ {l₁ : List α} {l₂ : List β}, Paired F l₁ l₂ → (∀ a b, F a b → G a b) → Paired G l₁ l₂
  | _, _, .nil, _ => .nil
  | _, _, .cons r t, f => .cons (f _ _ r) (Paired.mapP t f)
theorem Paired.imp' {α β : Type} {F G : α → β → Prop} (f : ∀ a b, F a b → G a b) {l₁ : List α} {l₂ : List β} (r : Paired F l₁ l₂) : Paired G l₁ l₂ := Paired.mapP r f
/-- what an object's description leans on: its own object, its own dict, the tuples -/
theorem ObjOk.stay (x : ObjOk P w H h a o) (k : ∀ b u, (b = a ∨ H b = some (.own a)) → h.get? b = some u → h'.get? b = some u)
    (ho : ∀ b, H b = some (.own a) → H' b = some (.own a)) (ht : ∀ b xs, H b = some (.tup xs) → H' b = some (.tup xs)) : ObjOk P w H' h' a o := by
  induction o with
  | lst xs => obtain ⟨z, its, n, r, e⟩ := x; exact ⟨z, its, n, r, k _ _ (.inl rfl) e⟩
  | tup xs => obtain ⟨z, its, r, ob, e, c⟩ := x; exact ⟨z, its, r, ob, k _ _ (.inl rfl) e, c⟩
  | dK kvs => obtain ⟨z, y, vs, r, ob, es, ep, e, c⟩ := x; exact ⟨z, y, vs, r, ob, es, ep, k _ _ (.inl rfl) e, c⟩
  | dT kvs =>
    obtain ⟨z, y, xs, r, ob, es, ep, e, c⟩ := x
    exact ⟨z, y, xs, Paired.mapP r fun p q z => ⟨z.1, ht _ _ z.2.1, z.2.2⟩, ob, es, ep, k _ _ (.inl rfl) e, c⟩
  | set S n => obtain ⟨ob, es, ep, t, e, c⟩ := x; exact ⟨ob, es, ep, t, k _ _ (.inl rfl) e, c⟩
  | ins C dx fs =>
    obtain ⟨d, z, ne, e, mA, ⟨od, es, ep, e2, c⟩, r⟩ := x
    exact ⟨ho _ d, z, ne, k _ _ (.inl rfl) e, mA, ⟨od, es, ep, k _ _ (.inr d) e2, c⟩, r⟩
  | own y => obtain ⟨ob, e⟩ := x; exact ⟨ob, k _ _ (.inl rfl) e⟩
  | xd fs => obtain ⟨mA, ⟨od, es, ep, e, c⟩, r⟩ := x; exact ⟨mA, ⟨od, es, ep, k _ _ (.inl rfl) e, c⟩, r⟩
  | rng lo hi => obtain ⟨t, u, v, e⟩ := x; exact ⟨t, u, v, k _ _ (.inl rfl) e⟩
  | frz ob u ih => obtain ⟨e, q⟩ := x; exact ⟨k _ _ (.inl rfl) e, ih q⟩
  | tbl ps =>
    have e : h.get? a = some { cls := .none, data := .fields ps } := x
    show h'.get? a = some { cls := .none, data := .fields ps }
    exact k a _ (.inl rfl) e
  | met f y =>
    have e : h.get? a = some (PySem.W.methodObj (.ref f) (.ref y)) := x
    show h'.get? a = some (PySem.W.methodObj (.ref f) (.ref y))
    exact k a _ (.inl rfl) e
  | ext φ => obtain ⟨p, ⟨o, e⟩, st⟩ := x; exact ⟨st _ _ p fun o q => k _ _ (.inl rfl) q, ⟨o, k _ _ (.inl rfl) e⟩, st⟩
theorem HOk.lt (x : HOk P w H h) (e : H a = some o) : a < h.objs.size := (x a o e).lt
theorem HOk.fresh (x : HOk P w H h) (e : h.objs.size ≤ a) : H a = none := by
  cases q : H a with
  | none => rfl
  | some u => exact absurd (Nat.lt_of_lt_of_le (x.lt q) e) (Nat.lt_irrefl _)
/-- every object of the heap is kept -/
theorem HOk.kept (x : HOk P w H h) (k : ∀ b u, h.get? b = some u → h'.get? b = some u) : HOk P w H h' := fun a o e =>
  (x a o e).stay (fun b u _ q => k b u q) (fun _ q => q) fun _ _ q => q
/-- a new object is laid and tracked -/
theorem HOk.laid (x : HOk P w H h) (k : ∀ b u, h.get? b = some u → h'.get? b = some u) (hp : h.objs.size ≤ a) (new : ObjOk P w (upd H a o) h' a o) : HOk P w (upd H a o) h' := fun b u e => by
  have hn := x.fresh hp
  by_cases hb : b = a
  · subst hb; rw [upd_same] at e; cases e; exact new
  · rw [upd_ne hb] at e
    exact (x b u e).stay (fun c v _ q => k c v q) (fun c q => by rw [upd_ne (ne_of_none q hn)]; exact q) fun c xs q => by rw [upd_ne (ne_of_none q hn)]; exact q
end

/-- what may be read as u: it is u, or a known u -/
def Rd (H : Hp) (a : Addr) (u : HO) : Prop := H a = some u ∨ ∃ o, H a = some (.frz o u)
theorem Rd.of {H : Hp} {a : Addr} {u : HO} (h : H a = some u) : Rd H a u := .inl h
theorem Rd.ok {P : Program} {w : World} {H : Hp} {h : Heap} {a : Addr} {u : HO} (r : Rd H a u) (x : HOk P w H h) : ObjOk P w H h a u := by
  rcases r with r | ⟨o, r⟩
  · exact x a u r
  · obtain ⟨_, q⟩ := x a _ r
    exact q
/-- what may be written -/
def Mut : Option HO → Prop
  | some (.lst _) => True
  | some (.dK _) => True
  | some (.dT _) => True
  | some (.set _ _) => True
  | some (.ins _ _ _) => True
  | some (.ext _) => True
  | _ => False
section
variable {P : Program} {w : World} {H : Hp} {h h' : Heap} {x e : Addr} {o' : HO}
/-- the object at e is changed: x itself, or the dict of the instance x -/
theorem HOk.write (ok : HOk P w H h) (mu : Mut (H x)) (he : e = x ∨ H e = some (.own x)) (k : ∀ b u, b ≠ e → h.get? b = some u → h'.get? b = some u) (heo : ∃ u, h'.get? e = some u)
    (new : ObjOk P w (upd H x o') h' x o') : HOk P w (upd H x o') h' := fun b u q => by
  have nown : ∀ c y, H c = some (.own y) → c ≠ x := fun c y r z => by subst z; rw [r] at mu; exact mu
  have ntup : ∀ c xs, H c = some (.tup xs) → c ≠ x := fun c xs r z => by subst z; rw [r] at mu; exact mu
  by_cases hb : b = x
  · subst hb; rw [upd_same] at q; cases q; exact new
  · rw [upd_ne hb] at q
    by_cases hbe : b = e
    · have q' : H b = some (.own x) := by
        rcases he with z | z
        · exact absurd (hbe.trans z) hb
        · rw [hbe]; exact z
      rw [q] at q'; cases q'
      obtain ⟨v, hv⟩ := heo
      exact ⟨v, by rw [hbe]; exact hv⟩
    · refine (ok b u q).stay (fun c v hc r => k c v ?_ r) (fun c r => by rw [upd_ne (nown c b r)]; exact r) fun c xs r => by rw [upd_ne (ntup c xs r)]; exact r
      rcases hc with rfl | hc
      · exact hbe
      · rintro rfl
        rcases he with z | z
        · exact nown c b hc z
        · rw [hc] at z; cases z; exact hb rfl
end

/-! ### kept unless tracked; of the frames at fs (the callers') the slots may change (an exception that passes writes there); of the records at ex (iterators) nothing is said -/
structure Un (fs ex : List Addr) (H H' : Hp) (h h' : Heap) : Prop where
  keep : ∀ b o, h.get? b = some o → H b = none → b ∉ fs → b ∉ ex → h'.get? b = some o
  slot : ∀ b o, h.get? b = some o → H b = none → b ∈ fs → b ∉ ex → ∃ sl, h'.get? b = some { o with slots := sl }
  free : ∀ b o, h.get? b = some o → H b = none → b ∉ ex → H' b = none
  there : ∀ b o, h.get? b = some o → b ∉ ex → ∃ o', h'.get? b = some o'
  tups : ∀ b xs, H b = some (.tup xs) → H' b = some (.tup xs)
  frzs : ∀ b o u, H b = some (.frz o u) → H' b = some (.frz o u)
  tbls : ∀ b ps, H b = some (.tbl ps) → ∃ more, H' b = some (.tbl (ps ++ more))
section
variable {fs fs' ex ex' : List Addr} {H H1 H2 : Hp} {h h1 h2 h' : Heap} {a x e : Addr} {o : HO}
theorem Un.any (u : Un fs ex H H1 h h1) {b : Addr} {ob : Obj} (q : h.get? b = some ob) (n : H b = none) (hx : b ∉ ex) : ∃ sl, h1.get? b = some { ob with slots := sl } := by
  by_cases hb : b ∈ fs
  · exact u.slot b ob q n hb hx
  · exact ⟨ob.slots, u.keep b ob q n hb hx⟩
theorem Un.trans (a : Un fs ex H H1 h h1) (b : Un fs ex H1 H2 h1 h2) : Un fs ex H H2 h h2 where
  keep := fun c ob q n hc hx => b.keep c ob (a.keep c ob q n hc hx) (a.free c ob q n hx) hc hx
  slot := fun c ob q n hc hx => by
    obtain ⟨sl, e1⟩ := a.slot c ob q n hc hx
    obtain ⟨sl', e2⟩ := b.slot c _ e1 (a.free c ob q n hx) hc hx
    exact ⟨sl', e2⟩
  free := fun c ob q n hx => by
    obtain ⟨o', e1⟩ := a.there c ob q hx
    exact b.free c o' e1 (a.free c ob q n hx) hx
  there := fun c ob q hx => by
    obtain ⟨o', e1⟩ := a.there c ob q hx
    exact b.there c o' e1 hx
  tups := fun c xs q => b.tups c xs (a.tups c xs q)
  frzs := fun c ob xs q => b.frzs c ob xs (a.frzs c ob xs q)
  tbls := fun c ps q => by
    obtain ⟨m1, e1⟩ := a.tbls c ps q
    obtain ⟨m2, e2⟩ := b.tbls c _ e1
    exact ⟨m1 ++ m2, by rw [e2, Array.append_assoc]⟩
theorem Un.kept (k : ∀ b u, h.get? b = some u → h'.get? b = some u) : Un fs ex H H h h' :=
  ⟨fun b ob q _ _ _ => k b ob q, fun b ob q _ _ _ => ⟨ob.slots, k b ob q⟩, fun _ _ _ n _ => n, fun b ob q _ => ⟨ob, k b ob q⟩, fun _ _ q => q, fun _ _ _ q => q, fun _ ps q => ⟨#[], by rw [q]; simp⟩⟩
theorem Un.refl : Un fs ex H H h h := Un.kept fun _ _ q => q
theorem Un.laid (k : ∀ b u, h.get? b = some u → h'.get? b = some u) (hp : h.objs.size ≤ a) (hn : H a = none) : Un fs ex H (upd H a o) h h' where
  keep := fun b u q _ _ _ => k b u q
  slot := fun b u q _ _ _ => ⟨u.slots, k b u q⟩
  free := fun b u q n _ => by rw [upd_ne (Nat.ne_of_lt (Nat.lt_of_lt_of_le (Heap.lt_size q) hp))]; exact n
  there := fun b u q _ => ⟨u, k b u q⟩
  tups := fun b xs q => by rw [upd_ne (ne_of_none q hn)]; exact q
  frzs := fun b u xs q => by rw [upd_ne (ne_of_none q hn)]; exact q
  tbls := fun b ps q => ⟨#[], by rw [upd_ne (ne_of_none q hn), q]; simp⟩
theorem Un.write (mu : Mut (H x)) (he : e = x ∨ H e = some (.own x)) (k : ∀ b u, b ≠ e → h.get? b = some u → h'.get? b = some u) (heo : ∃ u, h'.get? e = some u) : Un fs ex H (upd H x o) h h' := by
  have hx : ∀ b, H b = none → b ≠ x := fun b n z => by subst z; rw [n] at mu; exact mu
  have hb : ∀ b, H b = none → b ≠ e := fun b n z => by
    subst z
    rcases he with r | r
    · exact hx b n r
    · rw [n] at r; cases r
  have hm : ∀ b u, H b = some u → ¬ Mut (some u) → b ≠ x := fun b u q nm z => by subst z; rw [q] at mu; exact nm mu
  refine ⟨fun b u q n _ _ => k b u (hb b n) q, fun b u q n _ _ => ⟨u.slots, k b u (hb b n) q⟩, fun b u q n _ => by rw [upd_ne (hx b n)]; exact n, fun b u q _ => ?_,
    fun b xs q => by rw [upd_ne (hm b _ q fun z => z)]; exact q, fun b u xs q => by rw [upd_ne (hm b _ q fun z => z)]; exact q, fun b ps q => ⟨#[], by rw [upd_ne (hm b _ q fun z => z), q]; simp⟩⟩
  by_cases hbe : b = e
  · subst hbe; exact heo
  · exact ⟨u, k b u hbe q⟩
theorem Un.mono (u : Un fs ex H H1 h h1) (hs : ∀ b ∈ fs, b ∈ fs') (hx : ∀ b ∈ ex, b ∈ ex') : Un fs' ex' H H1 h h1 :=
  ⟨fun b ob q n hb he => u.keep b ob q n (fun z => hb (hs b z)) fun z => he (hx b z), fun _ _ q n _ he => u.any q n fun z => he (hx _ z), fun b ob q n he => u.free b ob q n fun z => he (hx b z), fun b ob q he => u.there b ob q fun z => he (hx b z), u.tups, u.frzs, u.tbls⟩
end

/-! ### the heap without what is tracked -/
def trk (h : Heap) (H : Hp) : List Addr := (List.range h.objs.size).filter fun a => (H a).isSome
def hidT (h : Heap) (H : Hp) : Heap := PySem.W.hideAll h (trk h H)
theorem hidT_size (h : Heap) (H : Hp) : (hidT h H).objs.size = h.objs.size := PySem.W.hideAll_size _ _
theorem hidT_get {h : Heap} {H : Hp} {b : Addr} {o : Obj} (e : h.get? b = some o) (n : H b = none) : (hidT h H).get? b = some o :=
  PySem.W.hideAll_get _ e fun hm => by
    have q : (H b).isSome = true := (List.mem_filter.mp hm).2
    rw [n] at q; simp at q
theorem of_hidT {h : Heap} {H : Hp} {b : Addr} {o : Obj} (e : (hidT h H).get? b = some o) : h.get? b = some o ∧ H b = none := by
  have e' : h.get? b = some o := PySem.W.of_hideAll (trk h H) e
  refine ⟨e', ?_⟩
  cases q : H b with
  | none => rfl
  | some x =>
    have hm : b ∈ trk h H := List.mem_filter.mpr ⟨List.mem_range.mpr (Heap.lt_size e'), by simp [q]⟩
    have z : (hidT h H).get? b = none := PySem.W.hideAll_none (trk h H) hm
    rw [z] at e; cases e

/-! ### OpenK's ledger, filled with every new object but one -/
def allNews (g h : Heap) (L : Addr) : List (Addr × Obj) := (List.range h.objs.size).filterMap fun a => if a = L ∨ (g.get? a).isSome = true then none else (h.get? a).map fun o => (a, o)
theorem mem_allNews {g h : Heap} {L a : Addr} {o : Obj} (h1 : a ≠ L) (h2 : g.get? a = none) (h3 : h.get? a = some o) : (a, o) ∈ allNews g h L :=
  List.mem_filterMap.mpr ⟨a, List.mem_range.mpr (Heap.lt_size h3), by simp [h1, h2, h3]⟩
theorem of_mem_allNews {g h : Heap} {L : Addr} {p : Addr × Obj} (hp : p ∈ allNews g h L) : p.1 ≠ L ∧ g.get? p.1 = none ∧ h.get? p.1 = some p.2 := by
  obtain ⟨b, _, e⟩ := List.mem_filterMap.mp hp
  split at e
  · cases e
  · rename_i hn
    cases q : h.get? b with
    | none => rw [q] at e; simp at e
    | some u =>
      rw [q] at e
      simp only [Option.map_some, Option.some.injEq] at e
      subst e
      refine ⟨fun z => hn (.inl z), ?_, q⟩
      show g.get? b = none
      cases r : g.get? b with
      | none => rfl
      | some v => exact (hn (.inr (by simp [r]))).elim
def rest (g h : Heap) (L d : Addr) : List (Addr × Obj) := (allNews g h L).filter fun p => decide (p.1 ≠ d)
theorem rest_ne {g h : Heap} {L d : Addr} : ∀ p ∈ rest g h L d, p.1 ≠ d := fun p hp => of_decide_eq_true (List.mem_filter.mp hp).2
theorem mem_rest {g h : Heap} {L d a : Addr} {o : Obj} (h1 : a ≠ L) (h2 : g.get? a = none) (h3 : h.get? a = some o) (h4 : a ≠ d) : (a, o) ∈ rest g h L d :=
  List.mem_filter.mpr ⟨mem_allNews h1 h2 h3, decide_eq_true h4⟩
theorem news_all {g h : Heap} {L : Addr} : News g L h (allNews g h L) := fun p hp => let ⟨a, b, c⟩ := of_mem_allNews hp; ⟨c, a, b⟩
theorem news_at {g h : Heap} {L d : Addr} {o : Obj} (h1 : d ≠ L) (h2 : g.get? d = none) (h3 : h.get? d = some o) : News g L h ((d, o) :: rest g h L d) := fun p hp => by
  rcases List.mem_cons.mp hp with rfl | hp
  · exact ⟨h3, h1, h2⟩
  · exact news_all p (List.mem_filter.mp hp).1
/-- behind a rule that changed d alone: all else but the frame is kept -/
theorem kept_of_news {g h h' : Heap} {L d : Addr} {m : Str → Option Value} (k : ∀ b o, g.get? b = some o → h.get? b = some o) (F : Fr g L h' m) (N : News g L h' (rest g h L d)) :
    ∀ b o, b ≠ L → b ≠ d → h.get? b = some o → h'.get? b = some o := fun b o h1 h2 e => by
  cases q : g.get? b with
  | some u =>
    have := k b u q
    rw [e] at this; cases this
    exact F.keep b _ q
  | none => exact (N (b, o) (mem_rest h1 q e h2)).1
end L2

namespace L2
open PySem PySem.Spec PyProof.Rows

/-- the module's facts, over the base: the heap at the law's entry without what is tracked there -/
structure Mod (K : PySem.W.Frag) (mg : Str → Option Value) (base : Heap) : Prop where
  kin : K.In base
  glob : base.Ns mainGlobals mg
  blt : ∃ mb, base.Ns builtinsNs mb ∧ ∀ x : Str, x ≠ "__name__" → mb x = bootBuiltins x
  nolimit : base.NoLimit

/-- the context: a def's body (or a comprehension's block) running. base: fixed through the whole law; s₀, H₀: the entry; outer: the frames whose slots others may change (a def's callers); stack: all frames that run;
   ex: iterators that were made ahead of the entry and are walked here (a comprehension's); fn: the names whose cells were made at the entry (a def: all; a comprehension's block: its own); calm: not within an except suite; pn: pins that every state bears; xe: what is wanted of an exception that leaves the code -/
structure Cx where
  prog : Program
  w : World
  K : PySem.W.Frag
  mg : Str → Option Value
  base : Heap
  A : Around
  N : List Str
  s₀ : Shared
  H₀ : Hp
  env : Env
  outer : List Env
  stack : List Env
  ex : List Addr
  fn : Str → Bool
  calm : Bool
  pn : List (Addr × Obj)
  xe : Value → Shared → Prop
/-- the callers' frames -/
def frs (l : List Env) : List Addr := l.filterMap (·.frame)
abbrev Cx.fs (X : Cx) : List Addr := frs X.outer

def Vis (sc : Scope) (x : Str) : Prop := sc.names.lookup x = some .local ∨ sc.names.lookup x = some .cell ∨ sc.names.lookup x = some .free
def Loc (sc : Scope) (x : Str) : Prop := sc.names.lookup x = some .local ∨ sc.names.lookup x = some .cell
def Look (env : Env) (h : Heap) (m : Str → Option Value) (x : Str) (u : Value) : Prop :=
  (env.kindOf x = some .local ∧ m x = some u) ∨ ((env.kindOf x = some .cell ∨ env.kindOf x = some .free) ∧ ∃ c, env.cells.lookup x = some c ∧ h.IsCell c (some u))

structure Cx.Ok (X : Cx) : Prop where
  mod : Mod X.K X.mg X.base
  kind : X.env.scope.kind = .function
  glob : X.env.globals = mainGlobals
  blt : X.env.builtins = builtinsNs
  above : X.s₀.heap.objs.size ≤ X.env.locals
  inj : ∀ x y c, X.env.cells.lookup x = some c → X.env.cells.lookup y = some c → x = y
  has : ∀ x, (X.env.kindOf x = some .cell ∨ X.env.kindOf x = some .free) → ∃ c, X.env.cells.lookup x = some c
  cab : ∀ x c, X.fn x = true → X.env.cells.lookup x = some c → X.s₀.heap.objs.size ≤ c
  hd : X.calm = true → X.A.handled = none
  frames : X.A.frames = some X.stack
  stk : X.stack = X.outer ∨ (X.stack = X.env :: X.outer ∧ X.env.frame = some X.env.locals)
  exf : ∀ b ∈ X.ex, b ≠ X.env.locals ∧ ∀ x c, X.env.cells.lookup x = some c → c ≠ b
  bs : ∀ b o, X.base.get? b = some o → X.s₀.heap.get? b = some o ∧ X.H₀ b = none
  bsz : X.base.objs.size ≤ X.s₀.heap.objs.size
  noex : ∀ b o, X.base.get? b = some o → b ∉ X.ex
  exfs : ∀ b ∈ X.ex, b ∉ X.fs
  funs : X.s₀.heap.FunFrames X.base X.outer
  frf : ∀ b ∈ X.fs, X.H₀ b = none

structure Inv (X : Cx) (pins : List (Addr × Obj)) (σ : List (Option V)) (H : Hp) (s : Shared) : Prop where
  ok : X.Ok
  os : s.os = X.s₀.os
  bare : AllBare s.gens
  base : Un X.fs X.ex X.H₀ H X.s₀.heap s.heap
  loc : ∃ m, s.heap.Ns X.env.locals m ∧ ∀ (i : Nat) (x : Str) (v : V), X.N[i]? = some x → σ[i]? = some (some v) → Vis X.env.scope x → ∃ u, RelV v u ∧ Look X.env s.heap m x u
  cell : ∀ x c, X.env.cells.lookup x = some c → ∃ v, s.heap.IsCell c v
  free : H X.env.locals = none
  freeC : ∀ x c, X.env.cells.lookup x = some c → H c = none
  pin : ∀ p ∈ X.pn ++ pins, s.heap.get? p.1 = some p.2 ∧ H p.1 = none ∧ p.1 ≠ X.env.locals ∧ p.1 ∉ X.fs ∧ ∀ v, p.2.data ≠ .cell v
  hok : HOk X.prog X.w H s.heap
  len : σ.length = X.N.length

section
variable {X : Cx} {pins : List (Addr × Obj)} {σ : List (Option V)} {H H' : Hp} {s : Shared} {h' : Heap}

theorem Cx.Ok.nofr (ok : X.Ok) {b : Addr} {o : Obj} (e : X.base.get? b = some o) : b ∉ X.fs := fun hb => by
  have := (ok.funs.mem hb).1
  rw [e] at this; cases this
theorem Inv.bs (I : Inv X pins σ H s) : ∀ b o, X.base.get? b = some o → s.heap.get? b = some o ∧ H b = none := fun b o e =>
  ⟨I.base.keep b o (I.ok.bs b o e).1 (I.ok.bs b o e).2 (I.ok.nofr e) (I.ok.noex b o e), I.base.free b o (I.ok.bs b o e).1 (I.ok.bs b o e).2 (I.ok.noex b o e)⟩
theorem Inv.bk (I : Inv X pins σ H s) : ∀ b o, X.base.get? b = some o → s.heap.get? b = some o := fun b o e => (I.bs b o e).1
theorem Inv.mod (I : Inv X pins σ H s) : Mod X.K X.mg X.base := I.ok.mod
theorem Inv.kIn (I : Inv X pins σ H s) : X.K.In s.heap := I.ok.mod.kin.keeps I.bk
theorem Inv.nolimit (I : Inv X pins σ H s) : s.heap.NoLimit := I.ok.mod.nolimit.keeps I.bk
/-- the frame over the base: for OpenK's rules (K.In X.base is I.mod.kin) -/
theorem Inv.fr (I : Inv X pins σ H s) : ∃ m, Fr X.base X.env.locals s.heap m :=
  let ⟨m, hn, _⟩ := I.loc
  ⟨m, hn, I.bk, Nat.le_trans I.ok.bsz I.ok.above⟩
theorem Inv.lt (I : Inv X pins σ H s) : X.env.locals < s.heap.objs.size := let ⟨_, hn, _⟩ := I.loc; hn.lt
theorem Inv.sz (I : Inv X pins σ H s) : X.s₀.heap.objs.size ≤ s.heap.objs.size := Nat.le_trans I.ok.above (Nat.le_of_lt I.lt)
theorem Inv.nofs (I : Inv X pins σ H s) {a : Addr} (h : s.heap.objs.size ≤ a) : a ∉ X.fs := fun hb => by
  obtain ⟨_, o, ho, _⟩ := I.ok.funs.mem hb
  exact absurd (Nat.lt_of_lt_of_le (Heap.lt_size ho) (Nat.le_trans I.sz h)) (Nat.lt_irrefl _)
theorem Inv.cne (I : Inv X pins σ H s) : ∀ x c, X.env.cells.lookup x = some c → c ≠ X.env.locals := fun x c e z => by
  obtain ⟨v, o, ho, hd⟩ := I.cell x c e
  obtain ⟨m, ⟨o', es, ep, ho', hd', _⟩, _⟩ := I.loc
  rw [z, ho'] at ho; cases ho; rw [hd'] at hd; cases hd
theorem Inv.funs (I : Inv X pins σ H s) : s.heap.FunFrames X.base X.outer := by
  have all : ∀ (l : List Env), (∀ b ∈ frs l, b ∈ X.fs) → X.s₀.heap.FunFrames X.base l → s.heap.FunFrames X.base l := by
    intro l
    induction l with
    | nil => intro _ _; trivial
    | cons env r ih =>
      intro hs hl
      obtain ⟨hk, ⟨L, o, hf, hn, ho, hd⟩, hr⟩ := hl
      have hL : L ∈ X.fs := hs L (by unfold frs; rw [List.filterMap_cons, hf]; exact List.mem_cons_self)
      obtain ⟨sl, e⟩ := I.base.slot L o ho (I.ok.frf L hL) hL fun z => I.ok.exfs L z hL
      exact ⟨hk, ⟨L, _, hf, hn, e, hd⟩, ih (fun b hb => hs b (by unfold frs; rw [List.filterMap_cons, hf]; exact List.mem_cons_of_mem _ hb)) hr⟩
  exact all X.outer (fun _ hb => hb) I.ok.funs

/-- the frames that run, for a call -/
theorem Inv.stack (I : Inv X pins σ H s) : s.heap.FunFrames X.base X.stack := by
  rcases I.ok.stk with e | ⟨e, hf⟩
  · rw [e]; exact I.funs
  · rw [e]
    obtain ⟨m, hn, _⟩ := I.loc
    refine .cons (by rw [I.ok.kind]; decide) hf hn ?_ I.funs
    exact Heap.get?_none_of_le (Nat.le_trans I.ok.bsz I.ok.above)
theorem Inv.stkSub (I : Inv X pins σ H s) : ∀ b ∈ frs X.stack, b ∈ X.env.locals :: X.fs := fun b hb => by
  rcases I.ok.stk with e | ⟨e, hf⟩
  · rw [e] at hb; exact List.mem_cons_of_mem _ hb
  · rw [e] at hb
    unfold frs at hb
    rw [List.filterMap_cons, hf] at hb
    exact hb
theorem Inv.stkFree (I : Inv X pins σ H s) : ∀ b ∈ frs X.stack, H b = none := fun b hb => by
  rcases List.mem_cons.mp (I.stkSub b hb) with e | hb
  · rw [e]; exact I.free
  · obtain ⟨_, o, ho, _⟩ := I.ok.funs.mem hb
    exact I.base.free b o ho (I.ok.frf b hb) fun z => I.ok.exfs b z hb

/-- THE STEP: the untracked objects but the frame and the records at ch are kept (the callers' frames up to slots), the frame's map is kept, the new abstract heap is held -/
theorem Inv.step {g' : Array GenState} {t' : Nat} {d' : Drawn} {ch : List Addr} (I : Inv X pins σ H s)
    (hch : ∀ b ∈ ch, (b ∈ X.ex ∨ X.s₀.heap.objs.size ≤ b) ∧ b ≠ X.env.locals ∧ (∀ x c, X.env.cells.lookup x = some c → c ≠ b) ∧ ∀ p ∈ X.pn ++ pins, p.1 ≠ b)
    (keep : ∀ b o, b ≠ X.env.locals → b ∉ X.fs → b ∉ ch → s.heap.get? b = some o → H b = none → h'.get? b = some o)
    (slot : ∀ b o, b ≠ X.env.locals → b ∈ X.fs → b ∉ ch → s.heap.get? b = some o → H b = none → ∃ sl, h'.get? b = some { o with slots := sl }) (free : ∀ b o, b ∉ ch → s.heap.get? b = some o → H b = none → H' b = none)
    (there : ∀ b o, b ∉ ch → s.heap.get? b = some o → ∃ o', h'.get? b = some o')
    (tups : ∀ b xs, H b = some (.tup xs) → H' b = some (.tup xs)) (frzs : ∀ b o u, H b = some (.frz o u) → H' b = some (.frz o u)) (tbls : ∀ b ps, H b = some (.tbl ps) → ∃ more, H' b = some (.tbl (ps ++ more)))
    (ns : ∀ m, s.heap.Ns X.env.locals m → h'.Ns X.env.locals m) (hok : HOk X.prog X.w H' h') (hg : AllBare g') :
    Inv X pins σ H' { s with heap := h', gens := g', drawn := d', toks := t' } := by
  have neL : ∀ b o, X.s₀.heap.get? b = some o → b ≠ X.env.locals := fun b o e => Nat.ne_of_lt (Nat.lt_of_lt_of_le (Heap.lt_size e) I.ok.above)
  have neC : ∀ b o, X.s₀.heap.get? b = some o → b ∉ X.ex → b ∉ ch := fun b o e hx hb => by
    rcases (hch b hb).1 with z | z
    · exact hx z
    · exact absurd (Nat.lt_of_lt_of_le (Heap.lt_size e) z) (Nat.lt_irrefl _)
  have cellK : ∀ x c, X.env.cells.lookup x = some c → ∀ v, s.heap.IsCell c v → h'.IsCell c v := fun x c e v ⟨o, ho, hd⟩ => by
    have nch : c ∉ ch := fun z => (hch c z).2.2.1 x c e rfl
    by_cases hc : c ∈ X.fs
    · obtain ⟨sl, q⟩ := slot c o (I.cne x c e) hc nch ho (I.freeC x c e)
      exact ⟨_, q, hd⟩
    · exact ⟨o, keep c o (I.cne x c e) hc nch ho (I.freeC x c e), hd⟩
  refine ⟨I.ok, I.os, hg, ⟨fun b o e n hb hx => ?_, fun b o e n hb hx => ?_, fun b o e n hx => ?_, fun b o e hx => ?_, fun b xs e => tups b xs (I.base.tups b xs e), fun b o xs e => frzs b o xs (I.base.frzs b o xs e), fun b ps e => ?_⟩, ?_, fun x c e => ?_, ?_, fun x c e => ?_, fun p hp => ?_, hok, I.len⟩
  · exact keep b o (neL b o e) hb (neC b o e hx) (I.base.keep b o e n hb hx) (I.base.free b o e n hx)
  · obtain ⟨sl, e1⟩ := I.base.slot b o e n hb hx
    obtain ⟨sl', e2⟩ := slot b _ (neL b o e) hb (neC b o e hx) e1 (I.base.free b o e n hx)
    exact ⟨sl', e2⟩
  · obtain ⟨o', e1⟩ := I.base.there b o e hx
    exact free b o' (neC b o e hx) e1 (I.base.free b o e n hx)
  · obtain ⟨o', e1⟩ := I.base.there b o e hx
    exact there b o' (neC b o e hx) e1
  · obtain ⟨m1, e1⟩ := I.base.tbls b ps e
    obtain ⟨m2, e2⟩ := tbls b _ e1
    exact ⟨m1 ++ m2, by rw [e2, Array.append_assoc]⟩
  · obtain ⟨m, hn, hl⟩ := I.loc
    refine ⟨m, ns m hn, fun i x v e1 e2 e3 => ?_⟩
    obtain ⟨u, r, l⟩ := hl i x v e1 e2 e3
    refine ⟨u, r, ?_⟩
    rcases l with l | ⟨k, c, e, z⟩
    · exact .inl l
    · exact .inr ⟨k, c, e, cellK x c e _ z⟩
  · obtain ⟨v, z⟩ := I.cell x c e
    exact ⟨v, cellK x c e v z⟩
  · obtain ⟨m, ⟨o, _, _, ho, _⟩, _⟩ := I.loc
    exact free _ o (fun z => (hch _ z).2.1 rfl) ho I.free
  · obtain ⟨v, o, ho, hd⟩ := I.cell x c e
    exact free c o (fun z => (hch c z).2.2.1 x c e rfl) ho (I.freeC x c e)
  · obtain ⟨e, n, ne, nf, d⟩ := I.pin p hp
    have nch : p.1 ∉ ch := fun z => (hch p.1 z).2.2.2 p hp rfl
    exact ⟨keep p.1 p.2 ne nf nch e n, free p.1 p.2 nch e n, ne, nf, d⟩
/-- .. where the frame's own object is kept too -/
theorem Inv.un {t' : Nat} (I : Inv X pins σ H s) (u : Un X.fs [] H H' s.heap h') (hok : HOk X.prog X.w H' h') : Inv X pins σ H' { s with heap := h', toks := t' } := by
  obtain ⟨m, ⟨o, es, ep, ho, r⟩, _⟩ := id I.loc
  obtain ⟨sl, hL⟩ := u.any ho I.free (by simp)
  exact I.step (g' := s.gens) (d' := s.drawn) (ch := []) (fun _ z => nomatch z) (fun b o _ hb _ e n => u.keep b o e n hb (by simp)) (fun b o _ hb _ e n => u.slot b o e n hb (by simp)) (fun b o _ e n => u.free b o e n (by simp)) (fun b o _ e => u.there b o e (by simp)) u.tups u.frzs u.tbls (fun m' hm => by
    obtain ⟨o', es', ep', ho', r'⟩ := hm
    rw [ho] at ho'; cases ho'
    exact ⟨_, es', ep', hL, r'⟩) hok I.bare
/-- behind a call (or a comprehension's block): the slots of this frame may have changed too, the records at ch may have turned -/
theorem Inv.call {g' : Array GenState} {t' : Nat} {d' : Drawn} {ch : List Addr} (I : Inv X pins σ H s) (u : Un (frs X.stack) ch H H' s.heap h') (hok : HOk X.prog X.w H' h') (hg : AllBare g')
    (hch : ∀ b ∈ ch, (b ∈ X.ex ∨ X.s₀.heap.objs.size ≤ b) ∧ b ≠ X.env.locals ∧ (∀ x c, X.env.cells.lookup x = some c → c ≠ b) ∧ ∀ p ∈ X.pn ++ pins, p.1 ≠ b) :
    Inv X pins σ H' { s with heap := h', gens := g', drawn := d', toks := t' } := by
  obtain ⟨m, ⟨o, es, ep, ho, r⟩, _⟩ := id I.loc
  obtain ⟨sl, hL⟩ := u.any ho I.free fun z => (hch _ z).2.1 rfl
  exact I.step (ch := ch) hch (fun b o hL hb hc e n => u.keep b o e n (fun z => (List.mem_cons.mp (I.stkSub b z)).elim hL hb) hc) (fun b o _ _ hc e n => u.any e n hc) (fun b o hc e n => u.free b o e n hc) (fun b o hc e => u.there b o e hc) u.tups u.frzs u.tbls (fun m' hm => by
    obtain ⟨o', es', ep', ho', r'⟩ := hm
    rw [ho] at ho'; cases ho'
    exact ⟨_, es', ep', hL, r'⟩) hok hg
/-- an untracked record of ours (an iterator) has turned -/
theorem Inv.turned {t' : Nat} {it : Addr} (I : Inv X pins σ H s) (k : ∀ b o, b ≠ it → s.heap.get? b = some o → h'.get? b = some o) (hn : H it = none) (hL : it ≠ X.env.locals)
    (h1 : it ∈ X.ex ∨ X.s₀.heap.objs.size ≤ it) (h2 : ∀ x c, X.env.cells.lookup x = some c → c ≠ it) (h3 : ∀ p ∈ X.pn ++ pins, p.1 ≠ it) : Inv X pins σ H { s with heap := h', toks := t' } := by
  have nit : ∀ b u, H b = some u → b ≠ it := fun b u e z => by rw [z, hn] at e; cases e
  refine I.step (g' := s.gens) (d' := s.drawn) (ch := [it]) (fun b hb => ?_) (fun b o _ _ hc e _ => k b o (fun z => hc (by simp [z])) e) (fun b o _ _ hc e _ => ⟨o.slots, k b o (fun z => hc (by simp [z])) e⟩) (fun _ _ _ _ n => n)
    (fun b o hc e => ⟨o, k b o (fun z => hc (by simp [z])) e⟩) (fun _ _ e => e) (fun _ _ _ e => e) (fun b ps e => ⟨#[], by rw [e]; simp⟩) (fun m hm => ?_) (fun b u e => ?_) I.bare
  · have e : b = it := by simpa using hb
    subst e
    exact ⟨h1, hL, h2, h3⟩
  · obtain ⟨o, es, ep, ho, r⟩ := hm
    exact ⟨o, es, ep, k _ o (Ne.symm hL) ho, r⟩
  · refine (I.hok b u e).stay (fun c v hc q => k c v ?_ q) (fun _ q => q) fun _ _ q => q
    rcases hc with z | z
    · rw [z]; exact nit b u e
    · exact nit c _ z
theorem Inv.tok (I : Inv X pins σ H s) (t : Nat) : Inv X pins σ H { s with toks := t } := I.un (h' := s.heap) (t' := t) Un.refl I.hok
/-- all objects kept -/
theorem Inv.kept {t' : Nat} (I : Inv X pins σ H s) (k : ∀ b u, s.heap.get? b = some u → h'.get? b = some u) : Inv X pins σ H { s with heap := h', toks := t' } := I.un (Un.kept k) (I.hok.kept k)
/-- a new object laid and tracked -/
theorem Inv.laid {a : Addr} {o : HO} {t' : Nat} (I : Inv X pins σ H s) (k : ∀ b u, s.heap.get? b = some u → h'.get? b = some u) (hp : s.heap.objs.size ≤ a) (new : ObjOk X.prog X.w (upd H a o) h' a o) :
    Inv X pins σ (upd H a o) { s with heap := h', toks := t' } := I.un (Un.laid k hp (I.hok.fresh hp)) (I.hok.laid k hp new)
/-- an object written -/
theorem Inv.write {x e : Addr} {o : HO} {t' : Nat} (I : Inv X pins σ H s) (mu : Mut (H x)) (he : e = x ∨ H e = some (.own x)) (k : ∀ b u, b ≠ e → s.heap.get? b = some u → h'.get? b = some u) (heo : ∃ u, h'.get? e = some u)
    (new : ObjOk X.prog X.w (upd H x o) h' x o) : Inv X pins σ (upd H x o) { s with heap := h', toks := t' } := I.un (Un.write mu he k heo) (I.hok.write mu he k heo new)
/-- forgetting slots, pins -/
theorem Inv.weak {σ' : List (Option V)} (I : Inv X pins σ H s) (hl : σ'.length = σ.length) (w : ∀ (i : Nat) v, σ'[i]? = some (some v) → σ[i]? = some (some v)) : Inv X pins σ' H s :=
  ⟨I.ok, I.os, I.bare, I.base, let ⟨m, hn, hl'⟩ := I.loc; ⟨m, hn, fun i x v e1 e2 e3 => hl' i x v e1 (w i v e2) e3⟩, I.cell, I.free, I.freeC, I.pin, I.hok, hl.trans I.len⟩
theorem Inv.pins_of {pins' : List (Addr × Obj)} (I : Inv X pins σ H s) (h : ∀ p ∈ pins', s.heap.get? p.1 = some p.2 ∧ H p.1 = none ∧ p.1 ≠ X.env.locals ∧ p.1 ∉ X.fs ∧ ∀ v, p.2.data ≠ .cell v) : Inv X pins' σ H s :=
  ⟨I.ok, I.os, I.bare, I.base, I.loc, I.cell, I.free, I.freeC, fun p hp => (List.mem_append.mp hp).elim (fun z => I.pin p (List.mem_append_left _ z)) (h p), I.hok, I.len⟩

theorem nodup_ix {N : List Str} (hN : N.Nodup) {i j : Nat} {x : Str} (a : N[i]? = some x) (b : N[j]? = some x) : i = j := by
  obtain ⟨h1, e1⟩ := List.getElem?_eq_some_iff.mp a
  obtain ⟨h2, e2⟩ := List.getElem?_eq_some_iff.mp b
  exact (List.getElem_inj hN).mp (e1.trans e2.symm)

/-- a name is stored; what changed -/
theorem store_ok2 {M : Model} {A : Around} {E : Value → Shared → Prop} {i : Nat} {x : Str} {v : V} {u : Value} {Q : Unit → Shared → Prop} (I : Inv X pins σ H s) (hN : X.N.Nodup) (hi : X.N[i]? = some x) (hx : Loc X.env.scope x) (r : RelV v u)
    (h : ∀ s', Inv X pins (σ.set i (some v)) H s' → (∃ a, Heap.SameBut a s.heap s'.heap ∧ (a = X.env.locals ∨ X.env.cells.lookup x = some a)) → Q () s') (hf : X.fn x = true ∨ X.env.scope.names.lookup x = some .local := by first | exact .inl rfl | exact .inr rfl | assumption) : wpAny M A (storeName X.env x u) Q E s := by
  obtain ⟨m, hn, hl⟩ := id I.loc
  have hcls : (X.env.scope.kind == .class || (X.env.scope.kind == .module && X.env.locals != X.env.globals)) = false := by rw [I.ok.kind]; rfl
  have hiσ : i < σ.length := by rw [I.len]; exact (List.getElem?_eq_some_iff.mp hi).1
  have cne := I.cne
  have tracked : ∀ {a : Addr} {h' : Heap}, (∃ o, s.heap.get? a = some o ∧ H a = none) → Heap.SameBut a s.heap h' → HOk X.prog X.w H h' := fun {a h'} ha hs b ob e => by
    obtain ⟨_, _, hfree⟩ := ha
    refine (I.hok b ob e).stay (fun c w' hc q => (hs.2 c ?_).trans q) (fun _ q => q) fun _ _ q => q
    rintro rfl
    rcases hc with rfl | hc
    · rw [hfree] at e; cases e
    · rw [hfree] at hc; cases hc
  rcases hx with hk | hk
  · refine wpAny_storeName_local hk hn (fun h' hn' hs => ?_) hcls
    obtain ⟨oL, _, _, hoL, _⟩ := id hn
    refine h _ ⟨I.ok, I.os, I.bare, ⟨fun b o e n hb hx => ?_, fun b o e n hb hx => ?_, I.base.free, fun b o e hx => ?_, I.base.tups, I.base.frzs, I.base.tbls⟩, ⟨_, hn', fun j y v' e1 e2 e3 => ?_⟩, fun y c e => ?_, I.free, I.freeC, fun p hp => ?_, tracked ⟨oL, hoL, I.free⟩ hs, by simpa using I.len⟩ ⟨_, hs, .inl rfl⟩
    · exact (hs.2 b (Nat.ne_of_lt (Nat.lt_of_lt_of_le (Heap.lt_size e) I.ok.above))).trans (I.base.keep b o e n hb hx)
    · obtain ⟨sl, e1⟩ := I.base.slot b o e n hb hx
      exact ⟨sl, (hs.2 b (Nat.ne_of_lt (Nat.lt_of_lt_of_le (Heap.lt_size e) I.ok.above))).trans e1⟩
    · obtain ⟨o', e1⟩ := I.base.there b o e hx
      exact ⟨o', (hs.2 b (Nat.ne_of_lt (Nat.lt_of_lt_of_le (Heap.lt_size e) I.ok.above))).trans e1⟩
    · by_cases hj : j = i
      · subst hj
        rw [hi] at e1; cases e1
        rw [List.getElem?_set_self hiσ] at e2
        cases e2
        exact ⟨u, r, .inl ⟨hk, by simp⟩⟩
      · rw [List.getElem?_set_ne (Ne.symm hj)] at e2
        obtain ⟨u', r', q⟩ := hl j y v' e1 e2 e3
        refine ⟨u', r', ?_⟩
        rcases q with ⟨k, e⟩ | ⟨k, c, e, z⟩
        · refine .inl ⟨k, ?_⟩
          have : y ≠ x := fun e => hj (nodup_ix hN e1 (e ▸ hi))
          simp [this, e]
        · exact .inr ⟨k, c, e, z.sameBut hs (cne y c e)⟩
    · obtain ⟨w', z⟩ := I.cell y c e
      exact ⟨w', z.sameBut hs (cne y c e)⟩
    · obtain ⟨e, n, ne, nf, d⟩ := I.pin p hp
      exact ⟨(hs.2 p.1 ne).trans e, n, ne, nf, d⟩
  · have hfn : X.fn x = true := by
      rcases hf with z | z
      · exact z
      · rw [z] at hk; cases hk
    obtain ⟨c, hc⟩ := I.ok.has x (.inl hk)
    obtain ⟨w', z⟩ := I.cell x c hc
    refine wpAny_storeName_cell I.ok.kind hk hc z (fun h' hc' hs => ?_)
    obtain ⟨oc, hoc, hocd⟩ := id z
    refine h { s with heap := h' } ⟨I.ok, I.os, I.bare, ⟨fun b o e n hb hx => ?_, fun b o e n hb hx => ?_, I.base.free, fun b o e hx => ?_, I.base.tups, I.base.frzs, I.base.tbls⟩, ⟨m, hn.sameBut hs (Ne.symm (cne x c hc)), fun j y v' e1 e2 e3 => ?_⟩, fun y c' e => ?_, I.free, I.freeC, fun p hp => ?_, tracked ⟨oc, hoc, I.freeC x c hc⟩ hs, by simpa using I.len⟩ ⟨c, hs, .inr hc⟩
    · exact (hs.2 b (Nat.ne_of_lt (Nat.lt_of_lt_of_le (Heap.lt_size e) (I.ok.cab x c hfn hc)))).trans (I.base.keep b o e n hb hx)
    · obtain ⟨sl, e1⟩ := I.base.slot b o e n hb hx
      exact ⟨sl, (hs.2 b (Nat.ne_of_lt (Nat.lt_of_lt_of_le (Heap.lt_size e) (I.ok.cab x c hfn hc)))).trans e1⟩
    · obtain ⟨o', e1⟩ := I.base.there b o e hx
      exact ⟨o', (hs.2 b (Nat.ne_of_lt (Nat.lt_of_lt_of_le (Heap.lt_size e) (I.ok.cab x c hfn hc)))).trans e1⟩
    · by_cases hj : j = i
      · subst hj
        rw [hi] at e1; cases e1
        rw [List.getElem?_set_self hiσ] at e2
        cases e2
        exact ⟨u, r, .inr ⟨.inl hk, c, hc, hc'⟩⟩
      · rw [List.getElem?_set_ne (Ne.symm hj)] at e2
        obtain ⟨u', r', q⟩ := hl j y v' e1 e2 e3
        refine ⟨u', r', ?_⟩
        rcases q with q | ⟨k, c', e, z'⟩
        · exact .inl q
        · refine .inr ⟨k, c', e, z'.sameBut hs ?_⟩
          rintro rfl
          exact hj (nodup_ix hN e1 (I.ok.inj _ _ _ e hc ▸ hi))
    · by_cases hcc : c' = c
      · subst hcc; exact ⟨_, hc'⟩
      · obtain ⟨w2, z2⟩ := I.cell y c' e
        exact ⟨w2, z2.sameBut hs hcc⟩
    · obtain ⟨e, n, ne, nf, d⟩ := I.pin p hp
      refine ⟨(hs.2 p.1 ?_).trans e, n, ne, nf, d⟩
      intro q
      rw [q, hoc] at e
      have q' : oc = p.2 := Option.some.inj e
      exact d w' (by rw [← q']; exact hocd)
theorem store_ok {M : Model} {A : Around} {E : Value → Shared → Prop} {i : Nat} {x : Str} {v : V} {u : Value} {Q : Unit → Shared → Prop} (I : Inv X pins σ H s) (hN : X.N.Nodup) (hi : X.N[i]? = some x) (hx : Loc X.env.scope x) (r : RelV v u)
    (h : ∀ s', Inv X pins (σ.set i (some v)) H s' → Q () s') (hf : X.fn x = true ∨ X.env.scope.names.lookup x = some .local := by first | exact .inl rfl | exact .inr rfl | assumption) : wpAny M A (storeName X.env x u) Q E s :=
  store_ok2 I hN hi hx r (fun s' I' _ => h s' I') hf
/-- behind a call or a block, the state as it is -/
theorem Inv.call' {s' : Shared} {ch : List Addr} (I : Inv X pins σ H s) (ho : s'.os = s.os) (u : Un (frs X.stack) ch H H' s.heap s'.heap) (hok : HOk X.prog X.w H' s'.heap) (hg : AllBare s'.gens)
    (hch : ∀ b ∈ ch, (b ∈ X.ex ∨ X.s₀.heap.objs.size ≤ b) ∧ b ≠ X.env.locals ∧ (∀ x c, X.env.cells.lookup x = some c → c ≠ b) ∧ ∀ p ∈ X.pn ++ pins, p.1 ≠ b) : Inv X pins σ H' s' := by
  obtain ⟨h', g', d', t', o'⟩ := s'
  have e : o' = s.os := ho
  subst e
  exact I.call (g' := g') (t' := t') (d' := d') u hok hg hch
end

/-! ### the judgements -/
/-- an exception: its class, its own dict's address (where it has one), the abstract heap behind it -/
abbrev XK := Value → Option Addr → Hp → Prop
abbrev St := List (Option V)
abbrev VK := V → Hp → Prop
/-- an expression's reading; a test's; an argument list's -/
abbrev TE := St → Hp → VK → Prop
abbrev TT := St → Hp → (Bool → Hp → Prop) → Prop
abbrev TA := St → Hp → (List V → Hp → Prop) → Prop
/-- what is wanted behind a statement -/
structure Ends where
  nx : St → Hp → Prop
  rt : VK
  bk : St → Hp → Prop := fun _ _ => False
  ct : St → Hp → Prop := fun _ _ => False
abbrev TS := Ends → St → Hp → Prop

def EP (X : Cx) (pins : List (Addr × Obj)) (σ : St) (Q : VK) (u : Value) (s' : Shared) : Prop := ∃ v H', Inv X pins σ H' s' ∧ RelV v u ∧ Q v H'
def TP (X : Cx) (pins : List (Addr × Obj)) (σ : St) (Q : Bool → Hp → Prop) (b : Bool) (s' : Shared) : Prop := ∃ H', Inv X pins σ H' s' ∧ Q b H'
def AP (X : Cx) (pins : List (Addr × Obj)) (σ : St) (Q : List V → Hp → Prop) (us : List Value) (s' : Shared) : Prop := ∃ vs H', Inv X pins σ H' s' ∧ Vals vs us ∧ Q vs H'
def SP (X : Cx) (pins : List (Addr × Obj)) (D : Ends) (f : Flow) (s' : Shared) : Prop :=
  match f with
  | .next => ∃ σ' H', Inv X pins σ' H' s' ∧ D.nx σ' H'
  | .brk => ∃ σ' H', Inv X pins σ' H' s' ∧ D.bk σ' H'
  | .cont => ∃ σ' H', Inv X pins σ' H' s' ∧ D.ct σ' H'
  | .ret u => ∃ v σ' H', Inv X pins σ' H' s' ∧ RelV v u ∧ D.rt v H'

def PE (X : Cx) (e : Expr) (t : TE) : Prop :=
  ∀ (pins : List (Addr × Obj)) (s : Shared) (σ : St) (H : Hp) (Q : VK), Inv X pins σ H s → t σ H Q → wpAny (model X.prog X.w) X.A (eval e X.env) (EP X pins σ Q) X.xe s
def PT (X : Cx) (e : Expr) (t : TT) : Prop :=
  ∀ (pins : List (Addr × Obj)) (s : Shared) (σ : St) (H : Hp) (Q : Bool → Hp → Prop), Inv X pins σ H s → t σ H Q → wpAny (model X.prog X.w) X.A (isTrue e X.env (eval e X.env)) (TP X pins σ Q) X.xe s
/-- a test whatever its 'whole' is (and, or) -/
def PW (X : Cx) (e : Expr) (t : TT) : Prop :=
  ∀ (whole : Sem Value) (pins : List (Addr × Obj)) (s : Shared) (σ : St) (H : Hp) (Q : Bool → Hp → Prop), Inv X pins σ H s → t σ H Q → wpAny (model X.prog X.w) X.A (isTrue e X.env whole) (TP X pins σ Q) X.xe s
theorem PW.pt {X : Cx} {e : Expr} {t : TT} (h : PW X e t) : PT X e t := h _
/-- an argument list (no star), from the left -/
def PA (X : Cx) (es : List Expr) (t : TA) : Prop :=
  ∀ (pos : Pos) (pins : List (Addr × Obj)) (s : Shared) (σ : St) (H : Hp) (Q : List V → Hp → Prop), Inv X pins σ H s → t σ H Q → wpAny (model X.prog X.w) X.A (spliced (backTo pos (starEach es X.env))) (AP X pins σ Q) X.xe s
def PS (X : Cx) (st : Stmt) (t : TS) : Prop :=
  ∀ (pins : List (Addr × Obj)) (s : Shared) (σ : St) (H : Hp) (D : Ends), Inv X pins σ H s → t D σ H → wpAny (model X.prog X.w) X.A (exec st X.env) (SP X pins D) X.xe s
def PSs (X : Cx) (st : List Stmt) (t : TS) : Prop :=
  ∀ (pins : List (Addr × Obj)) (s : Shared) (σ : St) (H : Hp) (D : Ends), Inv X pins σ H s → t D σ H → wpAny (model X.prog X.w) X.A (execs st X.env) (SP X pins D) X.xe s
/-- weaken the end -/
theorem thn {α : Type} {t : Sem α} {Q Q' : α → Shared → Prop} {M : Model} {A : Around} {E : Value → Shared → Prop} {s : Shared} (h : wpAny M A t Q E s) (hQ : ∀ a s, Q a s → Q' a s) : wpAny M A t Q' E s := wpAny_mono h hQ fun _ _ x => x
end L2

namespace L2
open PySem PySem.Spec PyProof.Rows
section
variable {X : Cx}

/-- two expressions in a row -/
theorem bin {a b : Expr} {ta tb : TE} (ha : PE X a ta) (hb : PE X b tb) {pins : List (Addr × Obj)} {s : Shared} {σ : St} {H : Hp} {R : V → V → Hp → Prop} (I : Inv X pins σ H s) (h : ta σ H fun x H1 => tb σ H1 fun y H2 => R x y H2)
    {α : Type} {Q : α → Shared → Prop} {f : Value → Value → Sem α}
    (hf : ∀ v u s2 x y H2, Inv X pins σ H2 s2 → RelV x v → RelV y u → R x y H2 → wpAny (model X.prog X.w) X.A (f v u) Q X.xe s2) :
    wpAny (model X.prog X.w) X.A (eval a X.env) (fun v s₁ => wpAny (model X.prog X.w) X.A (eval b X.env) (fun u s₂ => wpAny (model X.prog X.w) X.A (f v u) Q X.xe s₂) X.xe s₁) X.xe s := by
  refine thn (ha pins s σ H _ I h) fun v s1 ⟨x, H1, I1, r1, q1⟩ => ?_
  refine thn (hb pins s1 σ H1 _ I1 q1) fun u s2 ⟨y, H2, I2, r2, q2⟩ => ?_
  exact hf v u s2 x y H2 I2 r1 r2 q2

/-! ### names and constants -/
def tVar (i : Nat) : TE := fun σ H Q => ∃ v, σ[i]? = some (some v) ∧ Q v H
def tC (v : V) : TE := fun _ H Q => Q v H
theorem pe_var {i : Nat} {x : Str} {pos : Pos} (hN : X.N[i]? = some x) (hv : Vis X.env.scope x) (hd : (x == ("__debug__" : Str)) = false := by decide) (hcd : (x == ("__classdict__" : Str)) = false := by decide) : PE X (.Name x pos) (tVar i) := by
  intro pins s σ H Q I h
  obtain ⟨v, e, h⟩ := h
  obtain ⟨m, hn, hl⟩ := I.loc
  obtain ⟨u, r, l⟩ := hl i x v hN e hv
  have fin : EP X pins σ Q u s := ⟨v, H, I, r, h⟩
  rcases l with ⟨hk, hm⟩ | ⟨hk, c, hc, hcell⟩
  · exact wpAny_Name (wpAny_loadName_local I.ok.kind hk hn hm fin) hd
  · rcases hk with hk | hk
    · exact wpAny_Name (wpAny_loadName_cell I.ok.kind hk hc hcell fin) hd
    · exact wpAny_Name (wpAny_loadName_free I.ok.kind hk hc hcell fin hcd) hd
theorem pe_int {i j pos} : PE X (.Constant (.int i) j pos) (tC (.int i)) := fun _ _ _ H _ I h => wpAny_Constant_int ⟨.int i, H, I.tok _, ⟨_, rfl⟩, h⟩
theorem pe_bl {b j pos} : PE X (.Constant (.bool b) j pos) (tC (.bl b)) := fun _ _ _ H _ I h => Constant_bool ⟨.bl b, H, I, rfl, h⟩
theorem pe_non {j pos} : PE X (.Constant .none j pos) (tC .non) := fun _ _ _ H _ I h => Constant_none ⟨.non, H, I, rfl, h⟩
theorem pe_str {x j pos} : PE X (.Constant (.str x) j pos) (tC (.str x)) := fun _ _ _ H _ I h => Calls.Constant_str ⟨.str x, H, I.tok _, ⟨_, rfl⟩, h⟩

/-- a global name of the def -/
def Gl (X : Cx) (x : Str) : Prop := X.env.kindOf x = some .globalImplicit
theorem ld_glob {E : Value → Shared → Prop} {pins : List (Addr × Obj)} {s : Shared} {σ : St} {H : Hp} {x : Str} {u : Value} {pos : Pos} {Q : Value → Shared → Prop} (I : Inv X pins σ H s) (hg : Gl X x) (hm : X.mg x = some u) (h : Q u s)
    (hd : (x == ("__debug__" : Str)) = false := by decide) : wpAny (model X.prog X.w) X.A (eval (.Name x pos) X.env) Q E s :=
  Calls.Name_function_global I.ok.kind hg (Calls.loadGlobal_global (by rw [I.ok.glob]; exact I.mod.glob.keeps I.bk) hm h) hd
theorem ld_blt {E : Value → Shared → Prop} {pins : List (Addr × Obj)} {s : Shared} {σ : St} {H : Hp} {x : Str} {u : Value} {pos : Pos} {Q : Value → Shared → Prop} (I : Inv X pins σ H s) (hg : Gl X x) (hm : X.mg x = none) (hv : bootBuiltins x = some u) (h : Q u s)
    (hn : x ≠ "__name__" := by decide) (hd : (x == ("__debug__" : Str)) = false := by decide) : wpAny (model X.prog X.w) X.A (eval (.Name x pos) X.env) Q E s := by
  obtain ⟨mb, h1, h2⟩ := I.mod.blt
  exact Calls.Name_function_global I.ok.kind hg (Calls.loadGlobal_builtin (by rw [I.ok.glob]; exact I.mod.glob.keeps I.bk) hm (by rw [I.ok.blt]; exact h1.keeps I.bk) ((h2 x hn).trans hv) h) hd
/-- a module's constant, a class, a function, as a value -/
theorem pe_glob {x : Str} {v : V} {u : Value} {pos : Pos} (hg : Gl X x) (hm : X.mg x = some u) (r : RelV v u) (hd : (x == ("__debug__" : Str)) = false := by decide) : PE X (.Name x pos) (tC v) :=
  fun _ _ _ H _ I h => ld_glob I hg hm ⟨v, H, I, r, h⟩ hd
theorem pe_bltn {x : Str} {v : V} {u : Value} {pos : Pos} (hg : Gl X x) (hm : X.mg x = none) (hv : bootBuiltins x = some u) (r : RelV v u) (hn : x ≠ "__name__" := by decide) (hd : (x == ("__debug__" : Str)) = false := by decide) : PE X (.Name x pos) (tC v) :=
  fun _ _ _ H _ I h => ld_blt I hg hm hv ⟨v, H, I, r, h⟩ hn hd

/-! ### arithmetic -/
/-- two ints -/
def t2I (ta tb : TE) (k : Int → Int → Hp → Prop) : St → Hp → Prop := fun σ H => ta σ H fun x H1 => tb σ H1 fun y H2 => ∃ i j, x = .int i ∧ y = .int j ∧ k i j H2
def tAdd (ta tb : TE) : TE := fun σ H Q => t2I ta tb (fun i j H2 => Q (.int (i + j)) H2) σ H
def tSub (ta tb : TE) : TE := fun σ H Q => t2I ta tb (fun i j H2 => Q (.int (i - j)) H2) σ H
/-- the left factor below 2^64 -/
def tMul (ta tb : TE) : TE := fun σ H Q => t2I ta tb (fun i j H2 => (-(2 ^ 64) < i ∧ i < 2 ^ 64) ∧ Q (.int (i * j)) H2) σ H
variable {a b : Expr} {ta tb : TE} {pos : Pos}
theorem pe_add (ha : PE X a ta) (hb : PE X b tb) : PE X (.BinOp a .Add b pos) (tAdd ta tb) := by
  intro pins s σ H Q I h
  refine wpAny_BinOp (bin ha hb I h fun v u s2 x y H2 I2 rx ry q => ?_)
  obtain ⟨i, j, rfl, rfl, q⟩ := q
  obtain ⟨t, rfl⟩ := rx
  obtain ⟨t', rfl⟩ := ry
  exact add_int ⟨.int _, H2, I2.tok _, ⟨_, rfl⟩, q⟩
theorem pe_sub (ha : PE X a ta) (hb : PE X b tb) : PE X (.BinOp a .Sub b pos) (tSub ta tb) := by
  intro pins s σ H Q I h
  refine wpAny_BinOp (bin ha hb I h fun v u s2 x y H2 I2 rx ry q => ?_)
  obtain ⟨i, j, rfl, rfl, q⟩ := q
  obtain ⟨t, rfl⟩ := rx
  obtain ⟨t', rfl⟩ := ry
  exact sub_int ⟨.int _, H2, I2.tok _, ⟨_, rfl⟩, q⟩
theorem pe_mul (ha : PE X a ta) (hb : PE X b tb) : PE X (.BinOp a .Mult b pos) (tMul ta tb) := by
  intro pins s σ H Q I h
  refine wpAny_BinOp (bin ha hb I h fun v u s2 x y H2 I2 rx ry q => ?_)
  obtain ⟨i, j, rfl, rfl, ⟨q1, q2⟩, q⟩ := q
  obtain ⟨t, rfl⟩ := rx
  obtain ⟨t', rfl⟩ := ry
  exact mul_int ⟨.int _, H2, I2.tok _, ⟨_, rfl⟩, q⟩ (.of_left (intBits_le_64 q1 q2))

/-! ### comparisons -/
def PC (X : Cx) (op : CmpOp) (a b : Expr) (t : TE) : Prop :=
  ∀ (pins : List (Addr × Obj)) (s : Shared) (σ : St) (H : Hp) (Q : VK), Inv X pins σ H s → t σ H Q →
    wpAny (model X.prog X.w) X.A (eval a X.env) (fun v s₁ => wpAny (model X.prog X.w) X.A (eval b X.env) (fun u s₂ => wpAny (model X.prog X.w) X.A (compareOp op v u) (EP X pins σ Q) X.xe s₂) X.xe s₁) X.xe s
theorem nobehind (b : Expr) {op : CmpOp} (h : op ≠ .In) (h2 : op ≠ .NotIn) : behindInMarks op b = false := by
  have e1 : (op == CmpOp.In) = false := by cases op <;> first | rfl | exact absurd rfl h
  have e2 : (op == CmpOp.NotIn) = false := by cases op <;> first | rfl | exact absurd rfl h2
  cases b <;> simp [behindInMarks, e1, e2]
def tCmp (p : Int → Int → Bool) (ta tb : TE) : TE := fun σ H Q => t2I ta tb (fun i j H2 => Q (.bl (p i j)) H2) σ H
abbrev tLt : TE → TE → TE := tCmp fun i j => decide (i < j)
abbrev tLe : TE → TE → TE := tCmp fun i j => decide (i ≤ j)
abbrev tGt : TE → TE → TE := tCmp fun i j => decide (j < i)
abbrev tGe : TE → TE → TE := tCmp fun i j => decide (j ≤ i)
abbrev tEqI : TE → TE → TE := tCmp fun i j => decide (i = j)
abbrev tNeI : TE → TE → TE := tCmp fun i j => !decide (i = j)
/-- a comparison of two ints, by its rule -/
theorem pc_int {op : CmpOp} {p : Int → Int → Bool} (ha : PE X a ta) (hb : PE X b tb)
    (rule : ∀ (i j : Int) (t u : Tok) (Q : Value → Shared → Prop) (s : Shared), Q (.bool (p i j)) s → wpAny (model X.prog X.w) X.A (compareOp op (.int i t) (.int j u)) Q X.xe s) : PC X op a b (tCmp p ta tb) := by
  intro pins s σ H Q I h
  refine bin ha hb I h fun v u s2 x y H2 I2 rx ry q => ?_
  obtain ⟨i, j, rfl, rfl, q⟩ := q
  obtain ⟨t, rfl⟩ := rx
  obtain ⟨t', rfl⟩ := ry
  exact rule i j t t' _ s2 ⟨.bl _, H2, I2, rfl, q⟩
theorem pc_lt (ha : PE X a ta) (hb : PE X b tb) : PC X .Lt a b (tLt ta tb) := pc_int ha hb fun _ _ _ _ _ _ h => lt_int h
theorem pc_le (ha : PE X a ta) (hb : PE X b tb) : PC X .LtE a b (tLe ta tb) := pc_int ha hb fun _ _ _ _ _ _ h => le_int h
theorem pc_gt (ha : PE X a ta) (hb : PE X b tb) : PC X .Gt a b (tGt ta tb) := pc_int ha hb fun _ _ _ _ _ _ h => gt_int h
theorem pc_ge (ha : PE X a ta) (hb : PE X b tb) : PC X .GtE a b (tGe ta tb) := pc_int ha hb fun _ _ _ _ _ _ h => ge_int h
theorem pc_eqI (ha : PE X a ta) (hb : PE X b tb) : PC X .Eq a b (tEqI ta tb) := pc_int ha hb fun _ _ _ _ _ _ h => eq_int (by rw [Bool.beq_eq_decide_eq]; exact h)
theorem pc_neI (ha : PE X a ta) (hb : PE X b tb) : PC X .NotEq a b (tNeI ta tb) := pc_int ha hb fun _ _ _ _ _ _ h => ne_int (by rw [bne, Bool.beq_eq_decide_eq]; exact h)
/-- is None -/
def tIsN (ta : TE) : TE := fun σ H Q => ta σ H fun x H1 => Q (.bl (decide (x = .non))) H1
def tNotN (ta : TE) : TE := fun σ H Q => ta σ H fun x H1 => Q (.bl (!decide (x = .non))) H1
theorem RelV.none_iff {x : V} {v : Value} (r : RelV x v) : (v == Value.none) = decide (x = .non) := by
  cases x with
  | non => cases r; rfl
  | bl _ => cases r; rfl
  | int _ => obtain ⟨t, rfl⟩ := r; rfl
  | str _ => obtain ⟨t, rfl⟩ := r; rfl
  | byt _ => obtain ⟨t, rfl⟩ := r; rfl
  | flt _ => obtain ⟨t, rfl⟩ := r; rfl
  | ref _ => cases r; rfl
  | ty _ => cases r; rfl
theorem pc_isN {j pos'} (ha : PE X a ta) : PC X .Is a (.Constant .none j pos') (tIsN ta) := by
  intro pins s σ H Q I h
  refine thn (ha pins s σ H _ I h) fun v s1 ⟨x, H1, I1, r1, q1⟩ => ?_
  exact Constant_none (is_none_gen ⟨.bl _, H1, I1, by rw [r1.none_iff]; rfl, q1⟩)
theorem pc_notN {j pos'} (ha : PE X a ta) : PC X .IsNot a (.Constant .none j pos') (tNotN ta) := by
  intro pins s σ H Q I h
  refine thn (ha pins s σ H _ I h) fun v s1 ⟨x, H1, I1, r1, q1⟩ => ?_
  exact Constant_none (isnot_none_gen ⟨.bl _, H1, I1, by rw [r1.none_iff]; rfl, q1⟩)
/-- a comparison as a value, as a test -/
def tB (t : TE) : TT := fun σ H Q => t σ H fun x H1 => ∃ c, x = .bl c ∧ Q c H1
theorem pe_cmp {op : CmpOp} {t : TE} (h : PC X op a b t) (h1 : behindInMarks op b = false := by first | exact nobehind _ (by decide) (by decide) | rfl) : PE X (.Compare a [op] [b] pos) t := fun pins s σ H Q I hw => wpAny_Compare1 (h pins s σ H Q I hw) h1
theorem pt_cmp {op : CmpOp} {t : TE} (h : PC X op a b t) (h1 : behindInMarks op b = false := by first | exact nobehind _ (by decide) (by decide) | rfl) : PT X (.Compare a [op] [b] pos) (tB t) := by
  intro pins s σ H Q I hw
  refine wpAny_isTrue_Compare1 (thn (h pins s σ H _ I hw) fun v s1 h1 => thn h1 fun u s2 h2 => thn h2 fun c s3 ⟨x, H1, I1, r1, q1⟩ => ?_) h1
  obtain ⟨d, rfl, q⟩ := q1
  cases r1
  exact wpAny_truthy_bool ⟨H1, I1, q⟩
/-- an expression whose value is a bool, as a test -/
theorem pt_val {e : Expr} {t : TE} (h : PE X e t) (he : ∀ whole, isTrue e X.env whole = (do let v ← whole; standAt e.pos; holding [v] (truthy v)) := by intro _; rfl) : PT X e (tB t) := by
  intro pins s σ H Q I hw
  refine isTrue_plain (thn (h pins s σ H _ I hw) fun v s1 ⟨x, H1, I1, r1, q1⟩ => ?_) (he _)
  obtain ⟨d, rfl, q⟩ := q1
  cases r1
  exact wpAny_truthy_bool ⟨H1, I1, q⟩

/-! ### and, or, not -/
variable {tA tB' : TT} {rest : List Expr}
def tAnd (t u : TT) : TT := fun σ H Q => t σ H fun c H1 => if c = true then u σ H1 Q else Q false H1
def tOr (t u : TT) : TT := fun σ H Q => t σ H fun c H1 => if c = true then Q true H1 else u σ H1 Q
def tNot (t : TT) : TT := fun σ H Q => t σ H fun c H1 => Q (!c) H1
theorem pw_and1 (ha : PT X a tA) : PW X (.BoolOp .And [a] pos) tA := by
  intro wh pins s σ H Q I h
  refine isTrue_and (thn (ha pins s σ H Q I h) fun c s1 e => ?_)
  cases c with
  | true => exact isTrue_and_nil e
  | false => exact e
theorem pw_or1 (ha : PT X a tA) : PW X (.BoolOp .Or [a] pos) tA := by
  intro wh pins s σ H Q I h
  refine isTrue_or (thn (ha pins s σ H Q I h) fun c s1 e => ?_)
  cases c with
  | false => exact isTrue_or_nil e
  | true => exact e
theorem pw_and (ha : PT X a tA) (hb : PW X (.BoolOp .And (b :: rest) pos) tB') : PW X (.BoolOp .And (a :: b :: rest) pos) (tAnd tA tB') := by
  intro wh pins s σ H Q I h
  refine isTrue_and (thn (ha pins s σ H _ I h) fun c s1 ⟨H1, I1, q1⟩ => ?_)
  cases c with
  | true => exact hb wh pins s1 σ H1 Q I1 q1
  | false => exact ⟨H1, I1, q1⟩
theorem pw_or (ha : PT X a tA) (hb : PW X (.BoolOp .Or (b :: rest) pos) tB') : PW X (.BoolOp .Or (a :: b :: rest) pos) (tOr tA tB') := by
  intro wh pins s σ H Q I h
  refine isTrue_or (thn (ha pins s σ H _ I h) fun c s1 ⟨H1, I1, q1⟩ => ?_)
  cases c with
  | true => exact ⟨H1, I1, q1⟩
  | false => exact hb wh pins s1 σ H1 Q I1 q1
theorem pt_not (ha : PT X a tA) : PT X (.UnaryOp .Not a pos) (tNot tA) := by
  intro pins s σ H Q I h
  exact isTrue_not (ha pins s σ H (fun c H1 => Q (!c) H1) I h)
/-- .. as values (bools) -/
def tAndV (ta tb : TE) : TE := fun σ H Q => ta σ H fun x H1 => ∃ c, x = .bl c ∧ if c = true then tb σ H1 Q else Q (.bl false) H1
def tOrV (ta tb : TE) : TE := fun σ H Q => ta σ H fun x H1 => ∃ c, x = .bl c ∧ if c = true then Q (.bl true) H1 else tb σ H1 Q
def tNotV (ta : TE) : TE := fun σ H Q => ta σ H fun x H1 => ∃ c, x = .bl c ∧ Q (.bl (!c)) H1
theorem pe_one {op} {t : TE} (h : PE X a t) : PE X (.BoolOp op [a] pos) t := fun pins s σ H Q I hw => BoolOp_one (h pins s σ H Q I hw)
theorem pe_and (ha : PE X a ta) (hb : PE X (.BoolOp .And (b :: rest) pos) tb) : PE X (.BoolOp .And (a :: b :: rest) pos) (tAndV ta tb) := by
  intro pins s σ H Q I h
  refine BoolOp_and (thn (ha pins s σ H _ I h) fun v s1 ⟨x, H1, I1, r1, q1⟩ => ?_)
  obtain ⟨c, rfl, q1⟩ := q1
  cases r1
  refine wpAny_truthy_bool ?_
  cases c with
  | true => exact hb pins s1 σ H1 Q I1 q1
  | false => exact ⟨.bl false, H1, I1, rfl, q1⟩
theorem pe_or (ha : PE X a ta) (hb : PE X (.BoolOp .Or (b :: rest) pos) tb) : PE X (.BoolOp .Or (a :: b :: rest) pos) (tOrV ta tb) := by
  intro pins s σ H Q I h
  refine BoolOp_or (thn (ha pins s σ H _ I h) fun v s1 ⟨x, H1, I1, r1, q1⟩ => ?_)
  obtain ⟨c, rfl, q1⟩ := q1
  cases r1
  refine wpAny_truthy_bool ?_
  cases c with
  | false => exact hb pins s1 σ H1 Q I1 q1
  | true => exact ⟨.bl true, H1, I1, rfl, q1⟩
theorem pe_not (ha : PE X a ta) : PE X (.UnaryOp .Not a pos) (tNotV ta) := by
  intro pins s σ H Q I h
  refine UnaryOp_ (thn (ha pins s σ H _ I h) fun v s1 ⟨x, H1, I1, r1, q1⟩ => ?_)
  obtain ⟨c, rfl, q1⟩ := q1
  cases r1
  exact not_of (wpAny_truthy_bool ⟨.bl (!c), H1, I1, rfl, q1⟩)
/-- a if t else b -/
def tIf (t : TT) (ta tb : TE) : TE := fun σ H Q => t σ H fun c H1 => if c = true then ta σ H1 Q else tb σ H1 Q
theorem pe_ifExp {c : Expr} (hc : PT X c tA) (ha : PE X a ta) (hb : PE X b tb) : PE X (.IfExp c a b pos) (tIf tA ta tb) := by
  intro pins s σ H Q I h
  refine wpAny_IfExp (thn (hc pins s σ H _ I h) fun d s1 ⟨H1, I1, q1⟩ => ?_)
  cases d with
  | true => exact ha pins s1 σ H1 Q I1 q1
  | false => exact hb pins s1 σ H1 Q I1 q1
end
end L2

namespace L2
open PySem PySem.Spec PyProof.Rows

/-! ### a list, a tuple that is read: tracked, frozen, or an object of the module -/
def SqL (K : PySem.W.Frag) (H : Hp) (a : Addr) (xs : List V) : Prop :=
  Rd H a (.lst xs) ∨
    ∃ (o : Obj) (its : Array Value) (n : Nat), K.lookup a = some o ∧ o.cls = .type "list" ∧ o.dict = none ∧ o.data = .seq its n ∧ its.size ≤ sizeLine ∧ Vals xs its.toList
def SqT (K : PySem.W.Frag) (H : Hp) (a : Addr) (xs : List V) : Prop :=
  Rd H a (.tup xs) ∨
    ∃ (o : Obj) (its : Array Value) (n : Nat), K.lookup a = some o ∧ o.cls = .type "tuple" ∧ o.data = .seq its n ∧ its.size ≤ sizeLine ∧ Vals xs its.toList
def absV : Value → Option V
  | .none => some .non
  | .bool b => some (.bl b)
  | .int i _ => some (.int i)
  | .str x _ => some (.str x)
  | .bytes b _ => some (.byt b)
  | .float b _ => some (.flt b)
  | .ref a => some (.ref a)
  | .type n => some (.ty n)
  | _ => none
theorem RelV.abs {x : V} {u : Value} (r : RelV x u) : absV u = some x := by
  cases x with
  | non => cases r; rfl
  | bl _ => cases r; rfl
  | int _ => obtain ⟨t, rfl⟩ := r; rfl
  | str _ => obtain ⟨t, rfl⟩ := r; rfl
  | byt _ => obtain ⟨t, rfl⟩ := r; rfl
  | flt _ => obtain ⟨t, rfl⟩ := r; rfl
  | ref _ => cases r; rfl
  | ty _ => cases r; rfl
theorem RelV.inj {x y : V} {u : Value} (r : RelV x u) (q : RelV y u) : x = y := Option.some.inj (r.abs.symm.trans q.abs)
theorem Vals.inj : ∀ {xs ys : List V} {us : List Value}, Vals xs us → Vals ys us → xs = ys
  | _, _, _, .nil, .nil => rfl
  | _, _, _, .cons r t, .cons r' t' => by rw [r.inj r', Vals.inj t t']
section
variable {X : Cx} {pins : List (Addr × Obj)} {σ : St} {H : Hp} {s : Shared} {a : Addr} {xs ys : List V}
theorem SqL.of {K : PySem.W.Frag} (h : H a = some (.lst xs)) : SqL K H a xs := .inl (.inl h)
theorem SqT.of {K : PySem.W.Frag} (h : H a = some (.tup xs)) : SqT K H a xs := .inl (.inl h)
theorem Inv.list (I : Inv X pins σ H s) (h : SqL X.K H a xs) : ∃ its : List Value, Vals xs its ∧ PlainL s.heap a its.toArray ∧ xs.length ≤ sizeLine := by
  rcases h with h | ⟨o, its, n, hk, hc, hd, hs, hz, r⟩
  · obtain ⟨z, its, n, r, e⟩ := h.ok I.hok
    exact ⟨its, r, ⟨_, n, e, rfl, rfl, rfl⟩, z⟩
  · refine ⟨its.toList, r, ⟨o, n, I.kIn a o hk, hc, hd, by simpa using hs⟩, ?_⟩
    have e := r.length
    simp only [Array.length_toList] at e
    omega
theorem Inv.tuple (I : Inv X pins σ H s) (h : SqT X.K H a xs) : ∃ its : List Value, Vals xs its ∧ IsTup s.heap a its.toArray ∧ xs.length ≤ sizeLine := by
  rcases h with h | ⟨o, its, n, hk, hc, hs, hz, r⟩
  · obtain ⟨z, its, r, p⟩ := h.ok I.hok
    exact ⟨its, r, p, z⟩
  · refine ⟨its.toList, r, ⟨o, I.kIn a o hk, hc, n, by simpa using hs⟩, ?_⟩
    have e := r.length
    simp only [Array.length_toList] at e
    omega
theorem Inv.list_inj (I : Inv X pins σ H s) (h : SqL X.K H a xs) (h' : SqL X.K H a ys) : xs = ys := by
  obtain ⟨its, r, ⟨o, n, e, _, _, d⟩, _⟩ := I.list h
  obtain ⟨its', r', ⟨o', n', e', _, _, d'⟩, _⟩ := I.list h'
  rw [e] at e'; cases e'
  rw [d] at d'
  injection d' with d1 _
  have : its = its' := by simpa using congrArg Array.toList d1
  subst this
  exact r.inj r'
theorem Inv.tuple_inj (I : Inv X pins σ H s) (h : SqT X.K H a xs) (h' : SqT X.K H a ys) : xs = ys := by
  obtain ⟨its, r, ⟨o, e, _, n, d⟩, _⟩ := I.tuple h
  obtain ⟨its', r', ⟨o', e', _, n', d'⟩, _⟩ := I.tuple h'
  rw [e] at e'; cases e'
  rw [d] at d'
  injection d' with d1 _
  have : its = its' := by simpa using congrArg Array.toList d1
  subst this
  exact r.inj r'
end

/-! ### another wish about exceptions -/
abbrev Cx.wish (X : Cx) (E : Value → Shared → Prop) : Cx := { X with xe := E }
/-- no exception leaves -/
abbrev Cx.nox (X : Cx) : Cx := X.wish fun _ _ => False
theorem Cx.Ok.wish {X : Cx} (ok : X.Ok) (E : Value → Shared → Prop) : (X.wish E).Ok :=
  ⟨ok.mod, ok.kind, ok.glob, ok.blt, ok.above, ok.inj, ok.has, ok.cab, ok.hd, ok.frames, ok.stk, ok.exf, ok.bs, ok.bsz, ok.noex, ok.exfs, ok.funs, ok.frf⟩
theorem Cx.Ok.unwish {X : Cx} {E : Value → Shared → Prop} (ok : (X.wish E).Ok) : X.Ok :=
  ⟨ok.mod, ok.kind, ok.glob, ok.blt, ok.above, ok.inj, ok.has, ok.cab, ok.hd, ok.frames, ok.stk, ok.exf, ok.bs, ok.bsz, ok.noex, ok.exfs, ok.funs, ok.frf⟩
section
variable {X : Cx} {pins : List (Addr × Obj)} {σ : St} {H : Hp} {s : Shared} {E : Value → Shared → Prop}
theorem Inv.wish (I : Inv X pins σ H s) (E : Value → Shared → Prop) : Inv (X.wish E) pins σ H s := ⟨I.ok.wish E, I.os, I.bare, I.base, I.loc, I.cell, I.free, I.freeC, I.pin, I.hok, I.len⟩
theorem Inv.unwish (I : Inv (X.wish E) pins σ H s) : Inv X pins σ H s := ⟨I.ok.unwish, I.os, I.bare, I.base, I.loc, I.cell, I.free, I.freeC, I.pin, I.hok, I.len⟩
theorem SP.unwish {D : Ends} {f : Flow} {s' : Shared} (h : SP (X.wish E) pins D f s') : SP X pins D f s' := by
  cases f with
  | next => obtain ⟨σ', H', I, q⟩ := h; exact ⟨σ', H', I.unwish, q⟩
  | brk => obtain ⟨σ', H', I, q⟩ := h; exact ⟨σ', H', I.unwish, q⟩
  | cont => obtain ⟨σ', H', I, q⟩ := h; exact ⟨σ', H', I.unwish, q⟩
  | ret u => obtain ⟨v, σ', H', I, r, q⟩ := h; exact ⟨v, σ', H', I.unwish, r, q⟩
theorem PE.nox {e : Expr} {t : TE} (h : PE X.nox e t) : PE X e t := fun pins s σ H Q I hw =>
  wpAny_mono (h pins s σ H Q (I.wish _) hw) (fun _ _ ⟨v, H', I', r, q⟩ => ⟨v, H', I'.unwish, r, q⟩) fun _ _ z => False.elim z
theorem PT.nox {e : Expr} {t : TT} (h : PT X.nox e t) : PT X e t := fun pins s σ H Q I hw =>
  wpAny_mono (h pins s σ H Q (I.wish _) hw) (fun _ _ ⟨H', I', q⟩ => ⟨H', I'.unwish, q⟩) fun _ _ z => False.elim z
theorem PSs.nox {st : List Stmt} {t : TS} (h : PSs X.nox st t) : PSs X st t := fun pins s σ H D I hw =>
  wpAny_mono (h pins s σ H D (I.wish _) hw) (fun _ _ q => q.unwish) fun _ _ z => False.elim z
end

/-! ### blocks and small statements -/
section
variable {X : Cx} {st : Stmt} {rest : List Stmt} {t u : TS} {e : Expr} {te : TE} {pos : Pos}
def tNext : TS := fun D σ H => D.nx σ H
def tSeq (t u : TS) : TS := fun D σ H => t { D with nx := u D } σ H
theorem pss_nil : PSs X [] tNext := fun _ _ σ H _ I h => wpAny_execs_nil ⟨σ, H, I, h⟩
theorem pss_cons (h1 : PS X st t) (h2 : PSs X rest u) : PSs X (st :: rest) (tSeq t u) := by
  intro pins s σ H D I h
  refine wpAny_execs_cons (thn (h1 pins s σ H { D with nx := u D } I h) fun f s1 q => ?_)
  cases f with
  | next =>
    obtain ⟨σ', H', I', q⟩ := q
    exact h2 pins s1 σ' H' D I' q
  | ret v => exact q
  | brk => exact q
  | cont => exact q
theorem pss_one (h1 : PS X st t) : PSs X [st] t := by
  intro pins s σ H D I h
  refine wpAny_execs_cons (thn (h1 pins s σ H D I h) fun f s1 q => ?_)
  cases f with
  | next => exact wpAny_execs_nil q
  | ret v => exact q
  | brk => exact q
  | cont => exact q
def tBreak : TS := fun D σ H => D.bk σ H
def tCont : TS := fun D σ H => D.ct σ H
theorem ps_pass : PS X (.Pass pos) tNext := fun _ _ σ H _ I h => wpAny_Pass ⟨σ, H, I, h⟩
theorem ps_break : PS X (.Break pos) tBreak := fun _ _ σ H _ I h => wpAny_Break ⟨σ, H, I, h⟩
theorem ps_continue : PS X (.Continue pos) tCont := fun _ _ σ H _ I h => wpAny_Continue ⟨σ, H, I, h⟩
/-- in a def's body nothing is shown -/
theorem Inv.quiet {pins : List (Addr × Obj)} {σ : St} {H : Hp} {s : Shared} (I : Inv X pins σ H s) : interactive X.env = false := by simp [interactive, I.ok.kind]
/-- a docstring -/
theorem ps_doc {x j pos pos'} : PS X (.Expr (.Constant (.str x) j pos) pos') tNext := fun _ s σ H _ I h => wpAny_Expr (Calls.Constant_str (show SP X _ _ .next { s with toks := s.toks + 1 } from ⟨σ, H, I.tok _, h⟩)) I.quiet
/-- an expression whose value is dropped -/
def tDrop (te : TE) : TS := fun D σ H => te σ H fun _ H1 => D.nx σ H1
theorem ps_expr (he : PE X e te) (hs : swapsWith e none pos.line X.env = pure false := by rfl) : PS X (.Expr e pos) (tDrop te) := by
  intro pins s σ H D I h
  exact wpAny_Expr_any (thn (he pins s σ H _ I h) fun v s1 ⟨x, H1, I1, r1, q1⟩ => ⟨σ, H1, I1, q1⟩) I.quiet hs
def tRet (te : TE) : TS := fun D σ H => te σ H D.rt
theorem ps_ret (he : PE X e te) : PS X (.Return (some e) pos) (tRet te) := by
  intro pins s σ H D I h
  exact wpAny_Return_some (thn (he pins s σ H _ I h) fun v s1 ⟨x, H1, I1, r1, q1⟩ => ⟨x, σ, H1, I1, r1, q1⟩)
def tRetN : TS := fun D _ H => D.rt .non H
theorem ps_retN : PS X (.Return none pos) tRetN := fun _ _ σ H _ I h => wpAny_Return_none ⟨.non, σ, H, I, rfl, h⟩
def tIfS (c : TT) (t u : TS) : TS := fun D σ H => c σ H fun b H1 => if b = true then t D σ H1 else u D σ H1
theorem ps_if {c : Expr} {a b : List Stmt} {tc : TT} (hc : PT X c tc) (ha : PSs X a t) (hb : PSs X b u) : PS X (.If c a b pos) (tIfS tc t u) := by
  intro pins s σ H D I h
  refine wpAny_If (thn (hc pins s σ H _ I h) fun d s1 ⟨H1, I1, q1⟩ => ?_)
  cases d with
  | true => exact ha pins s1 σ H1 D I1 q1
  | false => exact hb pins s1 σ H1 D I1 q1
/-- code that the proof never comes to -/
def tNever : TS := fun _ _ _ => False
theorem ps_never : PS X st tNever := fun _ _ _ _ _ _ h => h.elim
theorem pss_never {sts : List Stmt} : PSs X sts tNever := fun _ _ _ _ _ _ h => h.elim
end

/-! ### targets -/
abbrev TG := V → St → Hp → (St → Hp → Prop) → Prop
abbrev TGs := List V → St → Hp → (St → Hp → Prop) → Prop
def PG (X : Cx) (target : Expr) (t : TG) : Prop :=
  ∀ (pins : List (Addr × Obj)) (s : Shared) (σ : St) (H : Hp) (v : V) (u : Value) (Q : St → Hp → Prop), Inv X pins σ H s → RelV v u → t v σ H Q →
    wpAny (model X.prog X.w) X.A (assign target X.env u) (fun _ s' => ∃ σ' H', Inv X pins σ' H' s' ∧ Q σ' H') X.xe s
/-- several targets, one after another -/
def PGs (X : Cx) (ts : List Expr) (t : TGs) : Prop :=
  ∀ (pins : List (Addr × Obj)) (s : Shared) (σ : St) (H : Hp) (vs : List V) (us : List Value) (Q : St → Hp → Prop), Inv X pins σ H s → Vals vs us → t vs σ H Q →
    wpAny (model X.prog X.w) X.A (assignInOrder ((assignEach ts X.env).map (·.2)) us) (fun _ s' => ∃ σ' H', Inv X pins σ' H' s' ∧ Q σ' H') X.xe s
/-- o[i] = v, by values -/
abbrev TSet := V → V → V → Hp → (Hp → Prop) → Prop
def PSet (X : Cx) (t : TSet) : Prop :=
  ∀ (pins : List (Addr × Obj)) (s : Shared) (σ : St) (H : Hp) (o i v : V) (ov iv u : Value) (Q : Hp → Prop), Inv X pins σ H s → RelV o ov → RelV i iv → RelV v u → t o i v H Q →
    wpAny (model X.prog X.w) X.A (setItem ov iv u) (fun _ s' => ∃ H', Inv X pins σ H' s' ∧ Q H') X.xe s
/-- a op= b, by values -/
abbrev TIp := V → V → Hp → VK → Prop
def PIp (X : Cx) (op : Operator) (t : TIp) : Prop :=
  ∀ (pins : List (Addr × Obj)) (s : Shared) (σ : St) (H : Hp) (x y : V) (v u : Value) (Q : VK), Inv X pins σ H s → RelV x v → RelV y u → t x y H Q →
    wpAny (model X.prog X.w) X.A (inplaceOp op v u) (EP X pins σ Q) X.xe s
section
variable {X : Cx} {pos : Pos}
def gName (i : Nat) : TG := fun v σ H Q => Q (σ.set i (some v)) H
theorem pg_name {i : Nat} {x : Str} (hN : X.N.Nodup) (hi : X.N[i]? = some x) (hx : Loc X.env.scope x) (hf : X.fn x = true ∨ X.env.scope.names.lookup x = some .local := by first | exact .inl rfl | exact .inr rfl | assumption) : PG X (.Name x pos) (gName i) := by
  intro pins s σ H v u Q I r h
  exact wpAny_assign_Name (store_ok I hN hi hx r (fun s' I' => ⟨_, H, I', h⟩) hf)
def gNil : TGs := fun vs σ H Q => vs = [] ∧ Q σ H
def gCons (t : TG) (u : TGs) : TGs := fun vs σ H Q => ∃ v r, vs = v :: r ∧ t v σ H fun σ' H' => u r σ' H' Q
theorem pgs_nil : PGs X [] gNil := by
  intro pins s σ H vs us Q I r h
  obtain ⟨e, h⟩ := h
  subst e
  cases r
  exact assignInOrder_nil ⟨σ, H, I, h⟩
theorem pgs_cons {e : Expr} {es : List Expr} {t : TG} {u : TGs} (h1 : PG X e t) (h2 : PGs X es u)
    (hs : (assignEach (e :: es) X.env).map (·.2) = assign e X.env :: (assignEach es X.env).map (·.2) := by rfl) : PGs X (e :: es) (gCons t u) := by
  intro pins s σ H vs us Q I r h
  obtain ⟨v, vr, e1, h⟩ := h
  subst e1
  cases r with
  | cons r rr =>
    rw [hs]
    refine assignInOrder_cons (thn (h1 pins s σ H _ _ _ I r h) fun _ s1 ⟨σ1, H1, I1, q1⟩ => ?_)
    exact h2 pins s1 σ1 H1 _ _ Q I1 rr q1
/-- (a, b, ..) = a tuple of that length -/
def gTup (K : PySem.W.Frag) (n : Nat) (t : TGs) : TG := fun v σ H Q => ∃ a xs, v = .ref a ∧ SqT K H a xs ∧ xs.length = n ∧ t xs σ H Q
theorem pg_tup {es : List Expr} {k : Nat} {t : TGs} {n : Nat} (hc : X.calm = true) (h : PGs X es t)
    (hn : (assignEach es X.env).length = n := by rfl) (hst : (assignEach es X.env).findIdx? (·.1) = none := by rfl) : PG X (.Tuple es k pos) (gTup X.K n t) := by
  intro pins s σ H v u Q I r hw
  obtain ⟨a, xs, e1, hq, hl, hw⟩ := hw
  subst e1
  cases r
  obtain ⟨its, rv, ht, hz⟩ := I.tuple hq
  refine assign_Tuple_tuple (I.ok.hd hc) ht (by simp [hn, ← hl, rv.length]) hst fun h' hx => ?_
  have I1 : Inv X pins σ H { s with heap := h' } := I.kept (t' := s.toks) fun b o e => hx b o (Nat.ne_of_lt (Heap.lt_size e)) e
  exact h pins _ σ H xs _ Q I1 (by simpa using rv) hw
/-- o[i] = .. -/
def gSub (to ti : TE) (t : TSet) : TG := fun v σ H Q => to σ H fun o H1 => ti σ H1 fun i H2 => t o i v H2 fun H3 => Q σ H3
theorem pg_sub {o i : Expr} {to ti : TE} {t : TSet} (ho : PE X o to) (hi : PE X i ti) (hs : PSet X t)
    (ha : ∀ v, assign (.Subscript o i pos) X.env v = (do
      let ov ← holding [v] (eval o X.env)
      let iv ← holding [v, ov] (eval i X.env)
      standAt pos
      holding [v, ov, iv] (setItem ov iv v)
      release [v, ov, iv] []) := by intro _; rfl) : PG X (.Subscript o i pos) (gSub to ti t) := by
  intro pins s σ H v u Q I r h
  rw [ha]
  refine wpAny_bind (wpAny_holding (thn (ho pins s σ H _ I h) fun ov s1 ⟨x, H1, I1, r1, q1⟩ => ?_))
  refine wpAny_bind (wpAny_holding (thn (hi pins s1 σ H1 _ I1 q1) fun iv s2 ⟨y, H2, I2, r2, q2⟩ => ?_))
  refine wpAny_bind (wpAny_standAt (wpAny_bind (wpAny_holding (thn (hs pins s2 σ H2 x y v ov iv u _ I2 r1 r2 r q2) fun _ s3 ⟨H3, I3, q3⟩ => ?_))))
  exact wpAny_release ⟨σ, H3, I3, q3⟩
/-- target = value -/
def tAsg (te : TE) (g : TG) : TS := fun D σ H => te σ H fun x H1 => g x σ H1 D.nx
theorem ps_asg {tg e : Expr} {te : TE} {g : TG} (he : PE X e te) (hg : PG X tg g) (hs : swapsWithSole [tg] e pos.line X.env = pure false := by rfl) (hw : swappedStores [tg] e X.env = pure none := by rfl)
    (h1 : (assignEach [tg] X.env).map (·.2) = [assign tg X.env] := by rfl) : PS X (.Assign [tg] e pos) (tAsg te g) := by
  intro pins s σ H D I h
  refine wpAny_Assign_stores (thn (he pins s σ H _ I h) fun v s1 ⟨x, H1, I1, r1, q1⟩ => ?_) hs hw
  rw [h1]
  exact thn (hg pins s1 σ H1 x v _ I1 r1 q1) fun _ s2 q => q
/-- name = value -/
theorem ps_set {i : Nat} {x : Str} {e : Expr} {te : TE} {pos' : Pos} (hN : X.N.Nodup) (hi : X.N[i]? = some x) (hx : Loc X.env.scope x) (he : PE X e te) (hs : swapsWith e (some (.Name x pos')) pos.line X.env = pure false := by rfl) (hf : X.fn x = true ∨ X.env.scope.names.lookup x = some .local := by first | exact .inl rfl | exact .inr rfl | assumption) :
    PS X (.Assign [.Name x pos'] e pos) (tAsg te (gName i)) := by
  intro pins s σ H D I h
  refine wpAny_Assign_Name (thn (he pins s σ H _ I h) fun v s1 ⟨y, H1, I1, r1, q1⟩ => ?_) hs
  exact store_ok I1 hN hi hx r1 (fun s2 I2 => ⟨_, H1, I2, q1⟩) hf
/-- a, b = x, y with plain local names: stored from the right; the pair itself is not tracked (the opening rows as in PyProof/Rows/TupAssign.lean:23) -/
def tPar (i j : Nat) (ta : TA) : TS := fun D σ H => ta σ H fun vs H1 => ∃ v w, vs = [v, w] ∧ D.nx ((σ.set i (some v)).set j (some w)) H1
theorem ps_par {i j : Nat} {x y : Str} {a b : Expr} {ta : TA} {px py pt : Pos} {kt k2 pt2} (hc : X.calm = true) (hN : X.N.Nodup) (hi : X.N[i]? = some x) (hj : X.N[j]? = some y) (hij : i ≠ j)
    (hx : X.env.scope.names.lookup x = some .local) (hy : X.env.scope.names.lookup y = some .local) (ha : PA X [a, b] ta)
    (hw : swappedStores [.Tuple [.Name x px, .Name y py] kt pt] (.Tuple [a, b] k2 pt2) X.env = pure (some [x, y]))
    (hs : swapsWithSole [.Tuple [.Name x px, .Name y py] kt pt] (.Tuple [a, b] k2 pt2) pos.line X.env = pure false := by rfl) :
    PS X (.Assign [.Tuple [.Name x px, .Name y py] kt pt] (.Tuple [a, b] k2 pt2) pos) (tPar i j ta) := by
  intro pins s σ H D I h
  rw [exec_Assign_arm]
  refine wpAny_bind (wpAny_standAt ?_)
  rw [hs]
  refine wpAny_bind (wpAny_pure ?_)
  rw [if_neg (by decide)]
  refine wpAny_bind (Tuple_ (thn (ha _ pins s σ H _ I h) fun us s1 ⟨vs, H1, I1, r1, q1⟩ => ?_))
  obtain ⟨v, w, e1, q1⟩ := q1
  subst e1
  obtain ⟨u1, u2, rfl, rv, rw'⟩ : ∃ u1 u2, us = [u1, u2] ∧ RelV v u1 ∧ RelV w u2 := by
    cases r1 with
    | cons p q =>
      cases q with
      | cons p' q' =>
        cases q'
        exact ⟨_, _, rfl, p, p'⟩
  refine wpAny_newObj_type ?_ (by show 2 ≤ sizeLine; decide)
  have I2 : Inv X pins σ H1 { s1 with heap := s1.heap.push { cls := .type "tuple", data := .seq [u1, u2].toArray } } := I1.kept (t' := s1.toks) fun b o e => Heap.get?_push_of_some _ e
  rw [hw]
  refine wpAny_bind (wpAny_pure ?_)
  show wpAny (model X.prog X.w) X.A (do rule "assign.swapped-stores"; let items ← unpackItems (.ref s1.heap.objs.size) 2 none; assignInOrder [fun v => bindName X.env y v, fun v => bindName X.env x v] items.reverse; pure Flow.next) _ _ _
  refine wpAny_bind (wpAny_rule (wpAny_bind (unpackItems_tuple (items := #[u1, u2]) (I.ok.hd hc) (IsTup.new s1.heap _) fun h' hx' => ?_)))
  have I3 := I2.kept (h' := h') (t' := s1.toks) fun b o e => hx' b o (Nat.ne_of_lt (Heap.lt_size e)) e
  show wpAny _ _ (assignInOrder [fun v => bindName X.env y v, fun v => bindName X.env x v] [u2, u1] >>= fun _ => pure Flow.next) _ _ _
  refine wpAny_bind (assignInOrder_cons (wpAny_bindName (store_ok I3 hN hj (.inl hy) rw' (fun s2 I4 => ?_) (.inr hy))))
  refine assignInOrder_cons (wpAny_bindName (store_ok I4 hN hi (.inl hx) rv (fun s3 I5 => assignInOrder_nil (wpAny_pure ?_)) (.inr hx)))
  rw [List.set_comm _ _ (Ne.symm hij)] at I5
  exact ⟨_, H1, I5, q1⟩
/-- name op= e -/
def tAug (i : Nat) (te : TE) (ti : TIp) : TS := fun D σ H => ∃ x, σ[i]? = some (some x) ∧ te σ H fun y H1 => ti x y H1 fun z H2 => D.nx (σ.set i (some z)) H2
theorem ps_aug {i : Nat} {x : Str} {e : Expr} {te : TE} {op : Operator} {ti : TIp} {pos' : Pos} (hN : X.N.Nodup) (hi : X.N[i]? = some x) (hx : Loc X.env.scope x) (he : PE X e te) (ho : PIp X op ti) (hf : X.fn x = true ∨ X.env.scope.names.lookup x = some .local := by first | exact .inl rfl | exact .inr rfl | assumption) :
    PS X (.AugAssign (.Name x pos') op e pos) (tAug i te ti) := by
  intro pins s σ H D I h
  obtain ⟨v, e1, h⟩ := h
  obtain ⟨m, hn, hl⟩ := I.loc
  have vis : Vis X.env.scope x := by rcases hx with k | k; exact .inl k; exact .inr (.inl k)
  obtain ⟨u, r, l⟩ := hl i x v hi e1 vis
  refine wpAny_AugAssign_Name ?_
  have go : wpAny (model X.prog X.w) X.A (eval e X.env) (fun w s₂ => wpAny (model X.prog X.w) X.A (inplaceOp op u w) (fun r s₃ => wpAny (model X.prog X.w) X.A (storeName X.env x r) (fun _ => SP X pins D .next) X.xe s₃) X.xe s₂) X.xe s := by
    refine thn (he pins s σ H _ I h) fun w s1 ⟨y, H1, I1, r1, q1⟩ => ?_
    refine thn (ho pins s1 σ H1 v y u w _ I1 r r1 q1) fun z s2 ⟨zv, H2, I2, r2, q2⟩ => ?_
    exact store_ok I2 hN hi hx r2 (fun s3 I3 => ⟨_, H2, I3, q2⟩) hf
  rcases l with ⟨hk, hm⟩ | ⟨hk, c, hc, hcell⟩
  · exact wpAny_loadName_local I.ok.kind hk hn hm go
  · rcases hk with hk | hk
    · exact wpAny_loadName_cell I.ok.kind hk hc hcell go
    · rcases hx with k | k
      · have : X.env.scope.names.lookup x = some .free := hk
        rw [k] at this; cases this
      · have : X.env.scope.names.lookup x = some .free := hk
        rw [k] at this; cases this
/-- o[i] op= e -/
def tAugS (to ti te : TE) (tget : V → V → Hp → VK → Prop) (tip : TIp) (tset : TSet) : TS := fun D σ H => to σ H fun o H1 => ti σ H1 fun i H2 => tget o i H2 fun x H3 => te σ H3 fun y H4 => tip x y H4 fun z H5 => tset o i z H5 fun H6 => D.nx σ H6
/-- o[i], by values -/
def PGet (X : Cx) (t : V → V → Hp → VK → Prop) : Prop :=
  ∀ (pins : List (Addr × Obj)) (s : Shared) (σ : St) (H : Hp) (o i : V) (ov iv : Value) (Q : VK), Inv X pins σ H s → RelV o ov → RelV i iv → t o i H Q →
    wpAny (model X.prog X.w) X.A (getItem ov iv) (EP X pins σ Q) X.xe s
theorem ps_augS {o i e : Expr} {to ti te : TE} {tget : V → V → Hp → VK → Prop} {tip : TIp} {tset : TSet} {op : Operator} {tpos : Pos} (ho : PE X o to) (hi : PE X i ti) (hg : PGet X tget) (he : PE X e te) (hp : PIp X op tip) (hs : PSet X tset)
    (ha : ∀ ov iv new, augStore i ov iv new = (do holding [new, ov, iv] (setItem ov iv new); release [new, ov, iv] []; pure .next) := by intros; rfl) : PS X (.AugAssign (.Subscript o i tpos) op e pos) (tAugS to ti te tget tip tset) := by
  intro pins s σ H D I h
  refine wpAny_AugAssign_SubscriptAny (thn (ho pins s σ H _ I h) fun ov s1 ⟨x1, H1, I1, r1, q1⟩ => ?_) ha
  refine thn (hi pins s1 σ H1 _ I1 q1) fun iv s2 ⟨x2, H2, I2, r2, q2⟩ => ?_
  refine thn (hg pins s2 σ H2 x1 x2 ov iv _ I2 r1 r2 q2) fun old s3 ⟨x3, H3, I3, r3, q3⟩ => ?_
  refine thn (he pins s3 σ H3 _ I3 q3) fun v s4 ⟨x4, H4, I4, r4, q4⟩ => ?_
  refine thn (hp pins s4 σ H4 x3 x4 old v _ I4 r3 r4 q4) fun new s5 ⟨x5, H5, I5, r5, q5⟩ => ?_
  exact thn (hs pins s5 σ H5 x1 x2 x5 ov iv new _ I5 r1 r2 r5 q5) fun _ s6 ⟨H6, I6, q6⟩ => ⟨σ, H6, I6, q6⟩
/-- ints -/
def ipI (f : Int → Int → Int) : TIp := fun x y H Q => ∃ i j, x = .int i ∧ y = .int j ∧ Q (.int (f i j)) H
theorem ip_add : PIp X .Add (ipI fun i j => i + j) := by
  intro pins s σ H x y v u Q I r1 r2 h
  obtain ⟨i, j, e1, e2, q⟩ := h
  subst e1; subst e2
  obtain ⟨t, rfl⟩ := r1
  obtain ⟨t', rfl⟩ := r2
  exact iadd_int ⟨.int _, H, I.tok _, ⟨_, rfl⟩, q⟩
theorem ip_sub : PIp X .Sub (ipI fun i j => i - j) := by
  intro pins s σ H x y v u Q I r1 r2 h
  obtain ⟨i, j, e1, e2, q⟩ := h
  subst e1; subst e2
  obtain ⟨t, rfl⟩ := r1
  obtain ⟨t', rfl⟩ := r2
  exact isub_int ⟨.int _, H, I.tok _, ⟨_, rfl⟩, q⟩
end

/-! ### while -/
section
variable {X : Cx} {pos : Pos}
/-- the invariant W with its measure -/
def tWhile (c : TT) (tb : TS) : TS := fun D σ H => ∃ W : Nat → St → Hp → Prop, (∃ m, W m σ H) ∧ ∀ m σ H, W m σ H →
  c σ H fun b H1 => if b = true then ∃ N : St → Hp → Prop, (∀ σ' H', N σ' H' → ∃ m', m' < m ∧ W m' σ' H') ∧ tb { D with nx := N, ct := N, bk := D.nx } σ H1 else D.nx σ H1
theorem ps_while {c : Expr} {body : List Stmt} {tc : TT} {tb : TS} (hp : PassesOwn (model X.prog X.w) X.A X.env X.xe) (hc : PT X c tc) (hb : PSs X body tb) : PS X (.While c body [] pos) (tWhile tc tb) := by
  intro pins s σ H D I h
  obtain ⟨W, ⟨m0, w0⟩, turn⟩ := h
  refine wpAny_While (codeAny_whileLoop (fun n s' => ∃ σ' H', Inv X pins σ' H' s' ∧ W n σ' H') ?_ m0 ⟨σ, H, I, w0⟩)
  rintro n s1 ⟨σ1, H1, I1, w1⟩
  refine wpAny_passesOwn hp (thn (hc pins s1 σ1 H1 _ I1 (turn n σ1 H1 w1)) fun b s2 ⟨H2, I2, q2⟩ => ?_)
  cases b with
  | true =>
    obtain ⟨N, hN, q2⟩ := q2
    rw [if_pos rfl]
    refine wpAny_passesOwn hp (thn (hb pins s2 σ1 H2 _ I2 q2) fun f s3 q3 => ?_)
    cases f with
    | next =>
      obtain ⟨σ3, H3, I3, n3⟩ := q3
      obtain ⟨m', hm, w3⟩ := hN σ3 H3 n3
      exact ⟨m', hm, σ3, H3, I3, w3⟩
    | cont =>
      obtain ⟨σ3, H3, I3, n3⟩ := q3
      obtain ⟨m', hm, w3⟩ := hN σ3 H3 n3
      exact ⟨m', hm, σ3, H3, I3, w3⟩
    | brk => exact q3
    | ret v => exact q3
  | false =>
    rw [if_neg Bool.false_ne_true]
    exact wpAny_execs_nil ⟨σ1, H2, I2, q2⟩
end

/-! ### what a loop or a comprehension walks -/
/-- at turn i: it yields x (the heap may grow), or it stops -/
structure It where
  go : Nat → Hp → Prop
  yld : Nat → Hp → V → Hp → Prop
  stop : Nat → Hp → Prop
/-- the iterator's own objects may turn: they are not the frame's, not pinned, younger than the entry (or a comprehension's own) -/
def FpOk (X : Cx) (pins : List (Addr × Obj)) (H : Hp) (b : Addr) : Prop :=
  H b = none ∧ b ≠ X.env.locals ∧ b ∉ X.fs ∧ (b ∈ X.ex ∨ X.s₀.heap.objs.size ≤ b) ∧ (∀ x c, X.env.cells.lookup x = some c → c ≠ b) ∧ ∀ p ∈ X.pn ++ pins, p.1 ≠ b
theorem Inv.fpOk {X : Cx} {pins : List (Addr × Obj)} {σ : St} {H H' : Hp} {s : Shared} {b : Addr} (I : Inv X pins σ H s) (hb : s.heap.objs.size ≤ b) (hn : H' b = none) : FpOk X pins H' b := by
  refine ⟨hn, Nat.ne_of_gt (Nat.lt_of_lt_of_le I.lt hb), I.nofs hb, .inr (Nat.le_trans I.sz hb), fun x c e z => ?_, fun p hp z => ?_⟩
  · obtain ⟨v, q⟩ := I.cell x c e
    exact absurd (Nat.lt_of_lt_of_le q.lt (by rw [z]; exact hb)) (Nat.lt_irrefl _)
  · exact absurd (Nat.lt_of_lt_of_le (Heap.lt_size (I.pin p hp).1) (by rw [z]; exact hb)) (Nat.lt_irrefl _)
structure Turn (P : Program) (w : World) (K : PySem.W.Frag) (tg : Expr) (J : It) (fp : List Addr) (it : Addr) (tn : Nat → Heap → Prop) : Prop where
  mem : it ∈ fp
  obj : ∀ i h, tn i h → ∀ b ∈ fp, ∃ o, h.get? b = some o ∧ ∀ v, o.data ≠ .cell v
  keep : ∀ i h h', tn i h → (∀ b ∈ fp, ∀ o, h.get? b = some o → h'.get? b = some o) → tn i h'
  item : ∀ (X : Cx), X.prog = P → X.w = w → X.K = K → X.calm = true → ∀ (i : Nat) (pins : List (Addr × Obj)) (s : Shared) (σ : St) (H : Hp) (E : Value → Shared → Prop), Inv X pins σ H s → (∀ b ∈ fp, FpOk X pins H b) → tn i s.heap → J.go i H →
    wpAny (model P w) X.A (pyNext (.ref it)) (fun r s1 => ∃ u, r = some u ∧
      wpAny (model P w) X.A (letOwnedTupleGo tg (.ref it) u) (fun _ s2 => ∃ x H', Inv X pins σ H' s2 ∧ RelV x u ∧ J.yld i H x H' ∧ tn (i + 1) s2.heap ∧ ∀ b ∈ fp, H' b = none) E s1) E s
  done : ∀ (X : Cx), X.prog = P → X.w = w → X.K = K → X.calm = true → ∀ (i : Nat) (pins : List (Addr × Obj)) (s : Shared) (σ : St) (H : Hp) (E : Value → Shared → Prop), Inv X pins σ H s → (∀ b ∈ fp, FpOk X pins H b) → tn i s.heap → J.stop i H →
    wpAny (model P w) X.A (pyNext (.ref it)) (fun r s1 => r = none ∧ Inv X pins σ H s1) E s
  self : ∀ (A : Around) (i : Nat) (s : Shared) (Q : Value → Shared → Prop) (E : Value → Shared → Prop), tn i s.heap → Q (.ref it) s → wpAny (model P w) A (pyIter (.ref it)) Q E s
abbrev TI := St → Hp → (It → Hp → Prop) → Prop
/-- an iterator has come -/
def PIE (X : Cx) (pins : List (Addr × Obj)) (σ : St) (tg : Expr) (R : It → Hp → Prop) (itv : Value) (s2 : Shared) : Prop :=
  ∃ (it : Addr) (fp : List Addr) (tn : Nat → Heap → Prop) (J : It) (H' : Hp), itv = .ref it ∧ Inv X pins σ H' s2 ∧ Turn X.prog X.w X.K tg J fp it tn ∧ tn 0 s2.heap ∧ (∀ b ∈ fp, FpOk X pins H' b) ∧ R J H'
def PI (X : Cx) (tg iter : Expr) (wi : TI) : Prop :=
  ∀ (pins : List (Addr × Obj)) (s : Shared) (σ : St) (H : Hp) (R : It → Hp → Prop), Inv X pins σ H s → wi σ H R →
    wpAny (model X.prog X.w) X.A (eval iter X.env) (fun v s1 => wpAny (model X.prog X.w) X.A (pyIter v) (PIE X pins σ tg R) X.xe s1) X.xe s

/-- the step ahead of the store is nothing for an iterator that keeps no tuple -/
theorem go_of {M : Model} {A : Around} {E : Value → Shared → Prop} {s : Shared} {tg : Expr} {it : Addr} {u : Value} {o : Obj} {n : String} {vs : Array Value} {Q : Unit → Shared → Prop} (ho : s.heap.get? it = some o) (hc : o.cls = .type n) (hd : o.data = .fields vs)
    (hn : ["enumerate", "zip", "dict_itemiterator", "dict_reverseitemiterator", "odict_iterator", "itertools.zip_longest", "itertools.pairwise"].contains n = false) (hQ : Q () s) : wpAny M A (letOwnedTupleGo tg (.ref it) u) Q E s := by
  unfold letOwnedTupleGo
  cases tg <;> first
    | exact wpAny_pure hQ
    | (cases u <;> first
        | exact wpAny_pure hQ
        | (refine wpAny_bind (wpAny_load ho ?_)
           rw [hc, hd]
           show wpAny M A (if (["enumerate", "zip", "dict_itemiterator", "dict_reverseitemiterator", "odict_iterator", "itertools.zip_longest", "itertools.pairwise"].contains n && vs[0]? == some (rawInt _)) = true then _ else _) Q E s
           rw [if_neg (by intro h; rw [hn, Bool.false_and] at h; cases h)]
           exact wpAny_pure hQ))

/-- the list at a, as it stands at each turn (a loop may append to it) -/
def Itl (K : PySem.W.Frag) (a : Addr) : It :=
  ⟨fun i H => ∃ xs x, SqL K H a xs ∧ xs[i]? = some x, fun i H x H' => H' = H ∧ ∀ xs, SqL K H a xs → xs[i]? = some x, fun i H => ∃ xs, SqL K H a xs ∧ xs.length ≤ i⟩
def Itt (K : PySem.W.Frag) (a : Addr) : It :=
  ⟨fun i H => ∃ xs x, SqT K H a xs ∧ xs[i]? = some x, fun i H x H' => H' = H ∧ ∀ xs, SqT K H a xs → xs[i]? = some x, fun i H => ∃ xs, SqT K H a xs ∧ xs.length ≤ i⟩
/-- lo, lo + 1, .. (n of them) -/
def Itr (lo : Int) (n : Nat) : It := ⟨fun i _ => i < n, fun i H x H' => H' = H ∧ x = .int (lo + i), fun i _ => n ≤ i⟩
theorem turn_list {P : Program} {w : World} {K : PySem.W.Frag} {tg : Expr} (a it : Addr) : Turn P w K tg (Itl K a) [it] it (fun i h => h.IsListIter it a i) where
  mem := by simp
  obj := fun i h st b hb => by
    have e : b = it := by simpa using hb
    subst e
    obtain ⟨o, e, c, d⟩ := st
    exact ⟨o, e, fun v z => by rw [d] at z; cases z⟩
  keep := fun i h h' st k => st.at fun o e => k it (by simp) o e
  item := by
    intro X hP hw hK hc i pins s σ H E I hf st hg
    subst hP hw hK
    obtain ⟨xs, x, hq, hx⟩ := hg
    obtain ⟨its, rv, p, hz⟩ := I.list hq
    obtain ⟨u, hu, ru⟩ := rv.get hx
    obtain ⟨f0, f1, f2, f3, f4, f5⟩ := hf it (by simp)
    refine wpAny_pyNext_list_item st p.isList (x := u) (by simpa using hu) fun h' st' sb => ?_
    have I1 : Inv X pins σ H { s with heap := h' } := I.turned (t' := s.toks) (fun b o hb e => (sb.2 b hb).trans e) f0 f1 f3 f4 f5
    obtain ⟨o, e, c, d⟩ := id st'
    exact ⟨u, rfl, go_of (s := { s with heap := h' }) e c d (by decide) ⟨x, H, I1, ru, ⟨rfl, fun ys hy => by rw [I.list_inj hy hq]; exact hx⟩, st', fun b hb => (hf b hb).1⟩⟩
  done := by
    intro X hP hw hK hc i pins s σ H E I hf st hg
    subst hP hw hK
    obtain ⟨xs, hq, hx⟩ := hg
    obtain ⟨its, rv, p, hz⟩ := I.list hq
    obtain ⟨f0, f1, f2, f3, f4, f5⟩ := hf it (by simp)
    have hl := rv.length
    exact wpAny_pyNext_list_end (I.ok.hd hc) st p.isList (by simp; omega) fun h' eb => ⟨rfl, I.turned (t' := s.toks) (fun b o hb e => eb b o hb e) f0 f1 f3 f4 f5⟩
  self := fun _ _ _ _ _ st h => wpAny_pyIter_listiter st h
theorem turn_tuple {P : Program} {w : World} {K : PySem.W.Frag} {tg : Expr} (a it : Addr) : Turn P w K tg (Itt K a) [it] it (fun i h => h.IsTupleIter it a i) where
  mem := by simp
  obj := fun i h st b hb => by
    have e : b = it := by simpa using hb
    subst e
    obtain ⟨o, e, c, d⟩ := st
    exact ⟨o, e, fun v z => by rw [d] at z; cases z⟩
  keep := fun i h h' st k => st.at fun o e => k it (by simp) o e
  item := by
    intro X hP hw hK hc i pins s σ H E I hf st hg
    subst hP hw hK
    obtain ⟨xs, x, hq, hx⟩ := hg
    obtain ⟨its, rv, p, hz⟩ := I.tuple hq
    obtain ⟨u, hu, ru⟩ := rv.get hx
    obtain ⟨f0, f1, f2, f3, f4, f5⟩ := hf it (by simp)
    refine wpAny_pyNext_tuple_item st (show s.heap.IsTuple a its.toArray from p) (x := u) (by simpa using hu) fun h' st' sb => ?_
    have I1 : Inv X pins σ H { s with heap := h' } := I.turned (t' := s.toks) (fun b o hb e => (sb.2 b hb).trans e) f0 f1 f3 f4 f5
    obtain ⟨o, e, c, d⟩ := id st'
    exact ⟨u, rfl, go_of (s := { s with heap := h' }) e c d (by decide) ⟨x, H, I1, ru, ⟨rfl, fun ys hy => by rw [I.tuple_inj hy hq]; exact hx⟩, st', fun b hb => (hf b hb).1⟩⟩
  done := by
    intro X hP hw hK hc i pins s σ H E I hf st hg
    subst hP hw hK
    obtain ⟨xs, hq, hx⟩ := hg
    obtain ⟨its, rv, p, hz⟩ := I.tuple hq
    obtain ⟨f0, f1, f2, f3, f4, f5⟩ := hf it (by simp)
    have hl := rv.length
    exact wpAny_pyNext_tuple_end (I.ok.hd hc) st (show s.heap.IsTuple a its.toArray from p) (by simp; omega) fun h' eb => ⟨rfl, I.turned (t' := s.toks) (fun b o hb e => eb b o hb e) f0 f1 f3 f4 f5⟩
  self := fun _ _ _ _ _ st h => wpAny_pyIter_tupleiter st h
theorem turn_range {P : Program} {w : World} {K : PySem.W.Frag} {tg : Expr} (it : Addr) (lo : Int) (n : Nat) : Turn P w K tg (Itr lo n) [it] it (fun i h => IsRangeIter h it (lo + (i : Nat) * 1) ((n : Int) - (i : Nat)) 1) where
  mem := by simp
  obj := fun i h st b hb => by
    have e : b = it := by simpa using hb
    subst e
    exact ⟨_, st, fun v z => by
      have z' : Data.fields _ = Data.cell v := z
      cases z'⟩
  keep := fun i h h' st k => k it (by simp) _ st
  item := by
    intro X hP hw hK hc i pins s σ H E I hf st hg
    subst hP hw hK
    obtain ⟨f0, f1, f2, f3, f4, f5⟩ := hf it (by simp)
    have W := Walks.range (prog := X.prog) (w := X.w) (I.ok.hd hc) it lo 1 n
    refine W.item i s _ _ hg st fun v h' tk hv st' kk => ?_
    obtain ⟨t, rfl⟩ := hv
    have I1 : Inv X pins σ H { s with heap := h', toks := tk } := I.turned (fun b o hb e => kk b o (by simpa using hb) e) f0 f1 f3 f4 f5
    refine ⟨_, rfl, go_of (s := { s with heap := h', toks := tk }) (n := "range_iterator") st' rfl rfl (by decide) ⟨.int (lo + i), H, I1, ⟨t, ?_⟩, ⟨rfl, rfl⟩, st', fun b hb => (hf b hb).1⟩⟩
    rw [Int.mul_one]
  done := by
    intro X hP hw hK hc i pins s σ H E I hf st hg
    subst hP hw hK
    obtain ⟨f0, f1, f2, f3, f4, f5⟩ := hf it (by simp)
    exact wpAny_pyNext_range_end (I.ok.hd hc) st (by have : n ≤ i := hg; omega) fun h' eb => ⟨rfl, I.turned (t' := s.toks) (fun b o hb e => eb b o hb e) f0 f1 f3 f4 f5⟩
  self := fun _ _ _ _ _ st h => wpAny_pyIter_rangeiter st h
end L2

namespace L2
open PySem PySem.Spec PyProof.Rows
section
variable {X : Cx} {tg : Expr}
def iList (K : PySem.W.Frag) (tl : TE) : TI := fun σ H R => tl σ H fun x H1 => ∃ a, x = .ref a ∧ (∃ xs, SqL K H1 a xs) ∧ R (Itl K a) H1
def iTup (K : PySem.W.Frag) (tl : TE) : TI := fun σ H R => tl σ H fun x H1 => ∃ a, x = .ref a ∧ (∃ xs, SqT K H1 a xs) ∧ R (Itt K a) H1
theorem pi_list {l : Expr} {tl : TE} (hl : PE X l tl) : PI X tg l (iList X.K tl) := by
  intro pins s σ H R I h
  refine thn (hl pins s σ H _ I h) fun v s1 ⟨x, H1, I1, r1, q1⟩ => ?_
  obtain ⟨a, e, ⟨xs, hq⟩, q⟩ := q1
  subst e
  cases r1
  obtain ⟨its, rv, p, hz⟩ := I1.list hq
  refine wpAny_pyIter_list p.isList ?_
  refine ⟨s1.heap.objs.size, [s1.heap.objs.size], _, _, H1, rfl, I1.kept (t' := s1.toks) fun b o e => Heap.get?_push_of_some _ e, turn_list a _, ⟨_, Heap.get?_push_size _ rfl, rfl, rfl⟩, fun b hb => ?_, q⟩
  have e : b = s1.heap.objs.size := by simpa using hb
  subst e
  exact I1.fpOk (Nat.le_refl _) (I1.hok.fresh (Nat.le_refl _))
theorem pi_tup {l : Expr} {tl : TE} (hl : PE X l tl) : PI X tg l (iTup X.K tl) := by
  intro pins s σ H R I h
  refine thn (hl pins s σ H _ I h) fun v s1 ⟨x, H1, I1, r1, q1⟩ => ?_
  obtain ⟨a, e, ⟨xs, hq⟩, q⟩ := q1
  subst e
  cases r1
  obtain ⟨its, rv, p, hz⟩ := I1.tuple hq
  refine wpAny_pyIter_tuple (show s1.heap.IsTuple a its.toArray from p) ?_
  refine ⟨s1.heap.objs.size, [s1.heap.objs.size], _, _, H1, rfl, I1.kept (t' := s1.toks) fun b o e => Heap.get?_push_of_some _ e, turn_tuple a _, ⟨_, Heap.get?_push_size _ rfl, rfl, rfl⟩, fun b hb => ?_, q⟩
  have e : b = s1.heap.objs.size := by simpa using hb
  subst e
  exact I1.fpOk (Nat.le_refl _) (I1.hok.fresh (Nat.le_refl _))
/-- a range object just made, walked -/
theorem range_it {pins : List (Addr × Obj)} {σ : St} {H : Hp} {s : Shared} {R : It → Hp → Prop} {E : Value → Shared → Prop} {lo hi : Int} {t u v : Tok} {tk : Nat} (I : Inv X pins σ H s) (h1 : -(2 ^ 62) ≤ lo) (h2 : lo < 2 ^ 62) (h3 : -(2 ^ 62) ≤ hi) (h4 : hi < 2 ^ 62)
    (q : R (Itr lo (hi - lo).toNat) H) : wpAny (model X.prog X.w) X.A (pyIter (.ref s.heap.objs.size)) (PIE X pins σ tg R) E { s with heap := s.heap.push { cls := .type "range", data := .fields #[.int lo t, .int hi u, .int 1 v] }, toks := tk } := by
  refine wpAny_pyIter_range (IsRange.new ..) (small_one h1 h2 h3 h4) ?_
  have I1 : Inv X pins σ H { s with heap := s.heap.push { cls := .type "range", data := .fields #[.int lo t, .int hi u, .int 1 v] }, toks := tk } := I.kept fun b o e => Heap.get?_push_of_some _ e
  refine ⟨(s.heap.push { cls := .type "range", data := .fields #[.int lo t, .int hi u, .int 1 v] }).objs.size, [(s.heap.push { cls := .type "range", data := .fields #[.int lo t, .int hi u, .int 1 v] }).objs.size], _, _, H, rfl,
    I1.kept (t' := tk) fun b o e => Heap.get?_push_of_some _ e, turn_range _ lo (hi - lo).toNat, ?_, fun b hb => ?_, q⟩
  · have e1 : lo + ((0 : Nat) : Int) * 1 = lo := by simp
    have e2 : (((hi - lo).toNat : Nat) : Int) - ((0 : Nat) : Int) = Builtin.Range.rangeSize lo hi 1 := by rw [rangeSize_one]; split <;> omega
    show IsRangeIter _ _ (lo + ((0 : Nat) : Int) * 1) ((((hi - lo).toNat : Nat) : Int) - ((0 : Nat) : Int)) 1
    rw [e1, e2]
    exact Heap.get?_push_size _ rfl
  · have e : b = (s.heap.push { cls := .type "range", data := .fields #[.int lo t, .int hi u, .int 1 v] }).objs.size := by simpa using hb
    subst e
    exact I1.fpOk (Nat.le_refl _) (I1.hok.fresh (Nat.le_refl _))
def iRng1 (ta : TA) : TI := fun σ H R => ta σ H fun vs H1 => ∃ j : Int, vs = [.int j] ∧ -(2 ^ 62) ≤ j ∧ j < 2 ^ 62 ∧ R (Itr 0 j.toNat) H1
def iRng2 (ta : TA) : TI := fun σ H R => ta σ H fun vs H1 => ∃ i j : Int, vs = [.int i, .int j] ∧ (-(2 ^ 62) ≤ i ∧ i < 2 ^ 62 ∧ -(2 ^ 62) ≤ j ∧ j < 2 ^ 62) ∧ R (Itr i (j - i).toNat) H1
theorem pi_range1 {a : Expr} {ta : TA} {p pos : Pos} (hg : Gl X "range") (hm : X.mg "range" = none) (ha : PA X [a] ta) (hs : starEach [a] X.env = [(false, eval a X.env)] := by rfl) : PI X tg (.Call (.Name "range" p) [a] [] pos) (iRng1 ta) := by
  intro pins s σ H R I h
  refine Call_ (ld_blt I hg hm boot_range (PyProof.Rows.callWith_type1 (thn (ha pos pins s σ H _ I h) fun us s1 ⟨vs, H1, I1, r1, q1⟩ => ?_) hs rfl))
  obtain ⟨j, e, q1, q2, q⟩ := q1
  subst e
  cases r1 with
  | cons r rr =>
    cases rr
    obtain ⟨t, rfl⟩ := r
    exact call_range_1 (range_it I1 (by omega) (by omega) q1 q2 (by simpa using q))
theorem pi_range2 {a b : Expr} {ta : TA} {p pos : Pos} (hg : Gl X "range") (hm : X.mg "range" = none) (ha : PA X [a, b] ta) (hs : starEach [a, b] X.env = [(false, eval a X.env), (false, eval b X.env)] := by rfl) (hs2 : starEach [b] X.env = [(false, eval b X.env)] := by rfl) :
    PI X tg (.Call (.Name "range" p) [a, b] [] pos) (iRng2 ta) := by
  intro pins s σ H R I h
  refine Call_ (ld_blt I hg hm boot_range (PyProof.Rows.callWith_type1 (thn (ha pos pins s σ H _ I h) fun us s1 ⟨vs, H1, I1, r1, q1⟩ => ?_) (by rw [hs, hs2]) (by rw [hs2]; rfl)))
  obtain ⟨i, j, e, ⟨q1, q2, q3, q4⟩, q⟩ := q1
  subst e
  cases r1 with
  | cons r rr =>
    cases rr with
    | cons r' rr =>
      cases rr
      obtain ⟨t, rfl⟩ := r
      obtain ⟨t', rfl⟩ := r'
      exact call_range_2 (range_it I1 q1 q2 q3 q4 q)

/-! ### for -/
/-- W: the invariant by the turn and a measure; N: what the body is to reach -/
def tFor (wi : TI) (g : TG) (tb : TS) : TS := fun D σ H => wi σ H fun J H1 => ∃ W : Nat → Nat → St → Hp → Prop, (∃ m, W 0 m σ H1) ∧ ∀ i m σ H, W i m σ H →
  (J.stop i H ∧ D.nx σ H) ∨ (J.go i H ∧ ∃ N : St → Hp → Prop, (∀ σ' H', N σ' H' → ∃ m', m' < m ∧ W (i + 1) m' σ' H') ∧ ∀ x H', J.yld i H x H' → g x σ H' fun σ2 H2 => tb { D with nx := N, ct := N, bk := D.nx } σ2 H2)
/-- the records at fp as they stand -/
def pinsAt (fp : List Addr) (h : Heap) : List (Addr × Obj) := fp.filterMap fun b => (h.get? b).map fun o => (b, o)
theorem mem_pinsAt {fp : List Addr} {h : Heap} {b : Addr} {o : Obj} (hb : b ∈ fp) (e : h.get? b = some o) : (b, o) ∈ pinsAt fp h := List.mem_filterMap.mpr ⟨b, hb, by rw [e]; rfl⟩
theorem of_pinsAt {fp : List Addr} {h : Heap} {p : Addr × Obj} (hp : p ∈ pinsAt fp h) : p.1 ∈ fp ∧ h.get? p.1 = some p.2 := by
  obtain ⟨b, hb, e⟩ := List.mem_filterMap.mp hp
  cases q : h.get? b with
  | none => rw [q] at e; cases e
  | some o =>
    rw [q] at e
    have e' : (b, o) = p := Option.some.inj e
    subst e'
    exact ⟨hb, q⟩
theorem Inv.pinned {pins : List (Addr × Obj)} {σ : St} {H : Hp} {s : Shared} {fp : List Addr} (I : Inv X pins σ H s) (hf : ∀ b ∈ fp, FpOk X pins H b) (ho : ∀ b ∈ fp, ∃ o, s.heap.get? b = some o ∧ ∀ v, o.data ≠ .cell v) : Inv X (pins ++ pinsAt fp s.heap) σ H s :=
  I.pins_of fun p hp => (List.mem_append.mp hp).elim (fun z => I.pin p (List.mem_append_right _ z)) fun z => by
    obtain ⟨hb, e⟩ := of_pinsAt z
    obtain ⟨f0, f1, f2, _⟩ := hf p.1 hb
    obtain ⟨o, e', d⟩ := ho p.1 hb
    rw [e] at e'; cases e'
    exact ⟨e, f0, f1, f2, d⟩
theorem Inv.unpinned {pins pl : List (Addr × Obj)} {σ : St} {H : Hp} {s : Shared} (I : Inv X (pins ++ pl) σ H s) : Inv X pins σ H s := I.pins_of fun p hp => I.pin p (List.mem_append_right _ (List.mem_append_left _ hp))
theorem ps_for {iter : Expr} {body : List Stmt} {wi : TI} {g : TG} {tb : TS} {pos : Pos} (hp : PassesOwn (model X.prog X.w) X.A X.env X.xe) (hc : X.calm = true) (hi : PI X tg iter wi) (hg : PG X tg g) (hb : PSs X body tb)
    (hs : ∀ x, foldedSetIterable iter X.env x = pure x := by intro _; rfl) : PS X (.For tg iter body [] pos) (tFor wi g tb) := by
  intro pins s σ H D I h
  refine wpAny_For (thn (hi pins s σ H _ I h) fun v s1 h1 => thn h1 fun itv s2 h2 => ?_) hs
  obtain ⟨it, fp, tn, J, H2, e, I2, T, st2, f2, W, ⟨m0, w0⟩, turn⟩ := h2
  subst e
  -- what stays true of the iterator's objects through the loop
  have stat : ∀ {H' : Hp}, (∀ b ∈ fp, H' b = none) → ∀ b ∈ fp, FpOk X pins H' b := fun hn b hb => ⟨hn b hb, (f2 b hb).2⟩
  refine codeAny_forLoop_any (fun n s' => ∃ i σ' H', Inv X pins σ' H' s' ∧ tn i s'.heap ∧ (∀ b ∈ fp, H' b = none) ∧ W i n σ' H') ?_ m0 ⟨0, σ, H2, I2, st2, fun b hb => (f2 b hb).1, w0⟩
  rintro n s3 ⟨i, σ3, H3, I3, st3, fr3, w3⟩
  rcases turn i n σ3 H3 w3 with ⟨stop, qn⟩ | ⟨go, N, hN, step⟩
  · refine wpAny_passesOwn hp (thn (T.done X rfl rfl rfl hc i pins s3 σ3 H3 X.xe I3 (stat fr3) st3 stop) fun r s4 ⟨hr, I4⟩ => ?_)
    subst hr
    exact wpAny_execs_nil ⟨σ3, H3, I4, qn⟩
  · refine wpAny_passesOwn hp (thn (T.item X rfl rfl rfl hc i pins s3 σ3 H3 X.xe I3 (stat fr3) st3 go) fun r s4 ⟨u, hr, h4⟩ => ?_)
    subst hr
    refine wpAny_passesOwn hp (thn h4 fun _ s5 ⟨x, H5, I5, r5, y5, st5, fr5⟩ => ?_)
    have I5' := I5.pinned (stat fr5) (T.obj _ _ st5)
    refine wpAny_passesOwn hp (thn (hg _ s5 σ3 H5 x u _ I5' r5 (step x H5 y5)) fun _ s6 ⟨σ6, H6, I6, q6⟩ => ?_)
    refine wpAny_passesOwn hp (thn (hb _ s6 σ6 H6 _ I6 q6) fun f s7 q7 => ?_)
    have again : ∀ {σ7 : St} {H7 : Hp}, Inv X (pins ++ pinsAt fp s5.heap) σ7 H7 s7 → N σ7 H7 → ∃ m, m < n ∧ ∃ i σ' H', Inv X pins σ' H' s7 ∧ tn i s7.heap ∧ (∀ b ∈ fp, H' b = none) ∧ W i m σ' H' := fun {σ7 H7} I7 n7 => by
      obtain ⟨m', hm, w7⟩ := hN σ7 H7 n7
      refine ⟨m', hm, i + 1, σ7, H7, I7.unpinned, T.keep _ _ _ st5 fun b hb o e => (I7.pin (b, o) (List.mem_append_right _ (List.mem_append_right _ (mem_pinsAt hb e)))).1, fun b hb => ?_, w7⟩
      obtain ⟨o, e, d⟩ := T.obj _ _ st5 b hb
      exact (I7.pin (b, o) (List.mem_append_right _ (List.mem_append_right _ (mem_pinsAt hb e)))).2.1
    cases f with
    | next => obtain ⟨σ7, H7, I7, n7⟩ := q7; exact again I7 n7
    | cont => obtain ⟨σ7, H7, I7, n7⟩ := q7; exact again I7 n7
    | brk => obtain ⟨σ7, H7, I7, q7⟩ := q7; exact ⟨σ7, H7, I7.unpinned, q7⟩
    | ret v => obtain ⟨x7, σ7, H7, I7, r7, q7⟩ := q7; exact ⟨x7, σ7, H7, I7.unpinned, r7, q7⟩
end

/-! ### the forms one uses -/
/-- over a list that the body leaves as it is -/
theorem for_list {K : PySem.W.Frag} {a : Addr} {xs : List V} {g : TG} {tb : TS} {D : Ends} {σ : St} {H : Hp} (Pv : Nat → St → Hp → Prop) (h0 : Pv 0 σ H) (hl : ∀ i σ H, i ≤ xs.length → Pv i σ H → SqL K H a xs)
    (hs : ∀ i x σ H, xs[i]? = some x → Pv i σ H → g x σ H fun σ2 H2 => tb { D with nx := Pv (i + 1), ct := Pv (i + 1), bk := D.nx } σ2 H2) (hd : ∀ σ H, Pv xs.length σ H → D.nx σ H) :
    ∃ W : Nat → Nat → St → Hp → Prop, (∃ m, W 0 m σ H) ∧ ∀ i m σ H, W i m σ H →
      ((Itl K a).stop i H ∧ D.nx σ H) ∨ ((Itl K a).go i H ∧ ∃ N : St → Hp → Prop, (∀ σ' H', N σ' H' → ∃ m', m' < m ∧ W (i + 1) m' σ' H') ∧ ∀ x H', (Itl K a).yld i H x H' → g x σ H' fun σ2 H2 => tb { D with nx := N, ct := N, bk := D.nx } σ2 H2) := by
  refine ⟨fun i m σ H => m = xs.length - i ∧ i ≤ xs.length ∧ Pv i σ H, ⟨xs.length, by simp, Nat.zero_le _, h0⟩, ?_⟩
  rintro i m σ H ⟨rfl, hi, p⟩
  have q := hl i σ H hi p
  by_cases hlt : i < xs.length
  · refine .inr ⟨⟨xs, xs[i], q, by simp [hlt]⟩, Pv (i + 1), fun σ' H' p' => ⟨xs.length - (i + 1), by omega, rfl, hlt, p'⟩, fun x H' y => ?_⟩
    obtain ⟨e, y⟩ := y
    subst e
    exact hs i x σ _ (y xs q) p
  · have e : i = xs.length := by omega
    subst e
    exact .inl ⟨⟨xs, q, Nat.le_refl _⟩, hd σ H p⟩
theorem for_tup {K : PySem.W.Frag} {a : Addr} {xs : List V} {g : TG} {tb : TS} {D : Ends} {σ : St} {H : Hp} (Pv : Nat → St → Hp → Prop) (h0 : Pv 0 σ H) (hl : ∀ i σ H, i ≤ xs.length → Pv i σ H → SqT K H a xs)
    (hs : ∀ i x σ H, xs[i]? = some x → Pv i σ H → g x σ H fun σ2 H2 => tb { D with nx := Pv (i + 1), ct := Pv (i + 1), bk := D.nx } σ2 H2) (hd : ∀ σ H, Pv xs.length σ H → D.nx σ H) :
    ∃ W : Nat → Nat → St → Hp → Prop, (∃ m, W 0 m σ H) ∧ ∀ i m σ H, W i m σ H →
      ((Itt K a).stop i H ∧ D.nx σ H) ∨ ((Itt K a).go i H ∧ ∃ N : St → Hp → Prop, (∀ σ' H', N σ' H' → ∃ m', m' < m ∧ W (i + 1) m' σ' H') ∧ ∀ x H', (Itt K a).yld i H x H' → g x σ H' fun σ2 H2 => tb { D with nx := N, ct := N, bk := D.nx } σ2 H2) := by
  refine ⟨fun i m σ H => m = xs.length - i ∧ i ≤ xs.length ∧ Pv i σ H, ⟨xs.length, by simp, Nat.zero_le _, h0⟩, ?_⟩
  rintro i m σ H ⟨rfl, hi, p⟩
  have q := hl i σ H hi p
  by_cases hlt : i < xs.length
  · refine .inr ⟨⟨xs, xs[i], q, by simp [hlt]⟩, Pv (i + 1), fun σ' H' p' => ⟨xs.length - (i + 1), by omega, rfl, hlt, p'⟩, fun x H' y => ?_⟩
    obtain ⟨e, y⟩ := y
    subst e
    exact hs i x σ _ (y xs q) p
  · have e : i = xs.length := by omega
    subst e
    exact .inl ⟨⟨xs, q, Nat.le_refl _⟩, hd σ H p⟩
theorem for_range {lo : Int} {n : Nat} {g : TG} {tb : TS} {D : Ends} {σ : St} {H : Hp} (Pv : Nat → St → Hp → Prop) (h0 : Pv 0 σ H)
    (hs : ∀ i σ H, i < n → Pv i σ H → g (.int (lo + i)) σ H fun σ2 H2 => tb { D with nx := Pv (i + 1), ct := Pv (i + 1), bk := D.nx } σ2 H2) (hd : ∀ σ H, Pv n σ H → D.nx σ H) :
    ∃ W : Nat → Nat → St → Hp → Prop, (∃ m, W 0 m σ H) ∧ ∀ i m σ H, W i m σ H →
      ((Itr lo n).stop i H ∧ D.nx σ H) ∨ ((Itr lo n).go i H ∧ ∃ N : St → Hp → Prop, (∀ σ' H', N σ' H' → ∃ m', m' < m ∧ W (i + 1) m' σ' H') ∧ ∀ x H', (Itr lo n).yld i H x H' → g x σ H' fun σ2 H2 => tb { D with nx := N, ct := N, bk := D.nx } σ2 H2) := by
  refine ⟨fun i m σ H => m = n - i ∧ i ≤ n ∧ Pv i σ H, ⟨n, by simp, Nat.zero_le _, h0⟩, ?_⟩
  rintro i m σ H ⟨rfl, hi, p⟩
  by_cases hlt : i < n
  · refine .inr ⟨hlt, Pv (i + 1), fun σ' H' p' => ⟨n - (i + 1), by omega, rfl, hlt, p'⟩, fun x H' y => ?_⟩
    obtain ⟨e, y⟩ := y
    subst e y
    exact hs i σ _ hlt p
  · have e : i = n := by omega
    subst e
    exact .inl ⟨Nat.le_refl _, hd σ H p⟩
/-- while, by a word and a measure of the state -/
theorem while_by {c : TT} {tb : TS} {D : Ends} {σ : St} {H : Hp} (Pv : St → Hp → Prop) (μ : St → Hp → Nat) (h0 : Pv σ H)
    (hs : ∀ σ H, Pv σ H → c σ H fun b H1 => if b = true then tb { D with nx := fun σ' H' => Pv σ' H' ∧ μ σ' H' < μ σ H, ct := fun σ' H' => Pv σ' H' ∧ μ σ' H' < μ σ H, bk := D.nx } σ H1 else D.nx σ H1)
    (mono : ∀ σ H Q Q', (∀ b H1, Q b H1 → Q' b H1) → c σ H Q → c σ H Q') : tWhile c tb D σ H := by
  refine ⟨fun m σ H => m = μ σ H ∧ Pv σ H, ⟨_, rfl, h0⟩, ?_⟩
  rintro m σ H ⟨rfl, p⟩
  refine mono σ H _ _ (fun b H1 q => ?_) (hs σ H p)
  cases b with
  | true => exact ⟨_, fun σ' H' ⟨p', l⟩ => ⟨_, l, rfl, p'⟩, q⟩
  | false => exact q
end L2

namespace L2
open PySem PySem.Spec PyProof.Rows

abbrev R2 := V → V → Hp → VK → Prop
/-- a two-place operation on values: f is binaryOp op, inplaceOp op or compareOp op -/
def OpR (X : Cx) (f : Value → Value → Sem Value) (r : R2) : Prop :=
  ∀ (pins : List (Addr × Obj)) (s : Shared) (σ : St) (H : Hp) (x y : V) (v u : Value) (Q : VK), Inv X pins σ H s → RelV x v → RelV y u → r x y H Q →
    wpAny (model X.prog X.w) X.A (f v u) (EP X pins σ Q) X.xe s
/-- a one-place operation -/
def UnR (X : Cx) (f : Value → Sem Value) (r : V → Hp → VK → Prop) : Prop :=
  ∀ (pins : List (Addr × Obj)) (s : Shared) (σ : St) (H : Hp) (x : V) (v : Value) (Q : VK), Inv X pins σ H s → RelV x v → r x H Q →
    wpAny (model X.prog X.w) X.A (f v) (EP X pins σ Q) X.xe s
/-- a call of a value that is known (a builtin, a type) with values -/
def CallR (X : Cx) (f : Value) (r : List V → Hp → VK → Prop) : Prop :=
  ∀ (pins : List (Addr × Obj)) (s : Shared) (σ : St) (H : Hp) (xs : List V) (us : List Value) (Q : VK), Inv X pins σ H s → Vals xs us → r xs H Q →
    wpAny (model X.prog X.w) X.A (call f us) (EP X pins σ Q) X.xe s
/-- a value's truth -/
def TruR (X : Cx) (r : V → Hp → (Bool → Hp → Prop) → Prop) : Prop :=
  ∀ (pins : List (Addr × Obj)) (s : Shared) (σ : St) (H : Hp) (x : V) (v : Value) (Q : Bool → Hp → Prop), Inv X pins σ H s → RelV x v → r x H Q →
    wpAny (model X.prog X.w) X.A (truthy v) (TP X pins σ Q) X.xe s

def tOp (r : R2) (ta tb : TE) : TE := fun σ H Q => ta σ H fun x H1 => tb σ H1 fun y H2 => r x y H2 Q
def tUn (r : V → Hp → VK → Prop) (ta : TE) : TE := fun σ H Q => ta σ H fun x H1 => r x H1 Q
/-- ints in, under C, and a value out -/
def rI (C : Int → Int → Prop) (g : Int → Int → V) : R2 := fun x y H Q => ∃ i j, x = .int i ∧ y = .int j ∧ C i j ∧ Q (g i j) H
def rI0 (g : Int → Int → V) : R2 := fun x y H Q => ∃ i j, x = .int i ∧ y = .int j ∧ Q (g i j) H
def rU (g : Int → V) : V → Hp → VK → Prop := fun x H Q => ∃ i, x = .int i ∧ Q (g i) H

section
variable {X : Cx} {a b c : Expr} {ta tb tc : TE} {pos : Pos}

theorem binT (ha : PE X a ta) (hb : PE X b tb) {pins : List (Addr × Obj)} {s : Shared} {σ : St} {H : Hp} {R : V → V → Hp → Prop} (I : Inv X pins σ H s)
    (h : ta σ H fun x H1 => tb σ H1 fun y H2 => R x y H2) {Q : Value → Shared → Prop} {f : Value → Value → Sem Value}
    (hf : ∀ v u s2 x y H2, Inv X pins σ H2 s2 → RelV x v → RelV y u → R x y H2 → wpAny (model X.prog X.w) X.A (f v u) Q X.xe s2) :
    wpAny (model X.prog X.w) X.A (eval a X.env) (fun v s₁ => wpAny (model X.prog X.w) X.A (eval b X.env) (fun u s₂ => wpAny (model X.prog X.w) X.A (f v u) Q X.xe s₂) X.xe s₁) X.xe s := by
  refine thn (ha pins s σ H _ I h) fun v s1 ⟨x, H1, I1, r1, q1⟩ => ?_
  refine thn (hb pins s1 σ H1 _ I1 q1) fun u s2 ⟨y, H2, I2, r2, q2⟩ => ?_
  exact hf v u s2 x y H2 I2 r1 r2 q2

theorem pe_op {op : Operator} {r : R2} (ho : OpR X (binaryOp op) r) (ha : PE X a ta) (hb : PE X b tb) : PE X (.BinOp a op b pos) (tOp r ta tb) := by
  intro pins s σ H Q I h
  exact wpAny_BinOp (binT ha hb I h fun v u s2 x y H2 I2 rx ry q => ho pins s2 σ H2 x y v u Q I2 rx ry q)
theorem pe_un {op : UnaryOp} {r : V → Hp → VK → Prop} (ho : UnR X (unaryOp op) r) (ha : PE X a ta) : PE X (.UnaryOp op a pos) (tUn r ta) := by
  intro pins s σ H Q I h
  exact UnaryOp_ (thn (ha pins s σ H _ I h) fun v s1 ⟨x, H1, I1, r1, q1⟩ => ho pins s1 σ H1 x v Q I1 r1 q1)
/-- a op= e at a name: the name's slot i -/
theorem augR {op : Operator} {r : R2} (ho : OpR X (inplaceOp op) r) {pins : List (Addr × Obj)} {s : Shared} {σ : St} {H : Hp} {x y : V} {v u : Value} {Q : VK} (I : Inv X pins σ H s)
    (rx : RelV x v) (ry : RelV y u) (q : r x y H Q) : wpAny (model X.prog X.w) X.A (inplaceOp op v u) (EP X pins σ Q) X.xe s := ho pins s σ H x y v u Q I rx ry q

/-! ### ints -/
theorem opI {f : Value → Value → Sem Value} {C : Int → Int → Prop} {g : Int → Int → Int}
    (rule : ∀ (i j : Int) (t u : Tok) (s : Shared) (Q : Value → Shared → Prop) (E : Value → Shared → Prop), C i j → Q (.int (g i j) s.toks) { s with toks := s.toks + 1 } → wpAny (model X.prog X.w) X.A (f (.int i t) (.int j u)) Q E s) :
    OpR X f (rI C fun i j => .int (g i j)) := by
  intro pins s σ H x y v u Q I rx ry h
  obtain ⟨i, j, rfl, rfl, hc, q⟩ := h
  obtain ⟨t, rfl⟩ := rx
  obtain ⟨t', rfl⟩ := ry
  exact rule i j t t' s _ _ hc ⟨.int (g i j), H, I.tok _, ⟨_, rfl⟩, q⟩
theorem opI0 {f : Value → Value → Sem Value} {g : Int → Int → Int}
    (rule : ∀ (i j : Int) (t u : Tok) (s : Shared) (Q : Value → Shared → Prop) (E : Value → Shared → Prop), Q (.int (g i j) s.toks) { s with toks := s.toks + 1 } → wpAny (model X.prog X.w) X.A (f (.int i t) (.int j u)) Q E s) :
    OpR X f (rI0 fun i j => .int (g i j)) := by
  intro pins s σ H x y v u Q I rx ry h
  obtain ⟨i, j, rfl, rfl, q⟩ := h
  obtain ⟨t, rfl⟩ := rx
  obtain ⟨t', rfl⟩ := ry
  exact rule i j t t' s _ _ ⟨.int (g i j), H, I.tok _, ⟨_, rfl⟩, q⟩
theorem opB0 {f : Value → Value → Sem Value} {g : Int → Int → Bool}
    (rule : ∀ (i j : Int) (t u : Tok) (s : Shared) (Q : Value → Shared → Prop) (E : Value → Shared → Prop), Q (.bool (g i j)) s → wpAny (model X.prog X.w) X.A (f (.int i t) (.int j u)) Q E s) :
    OpR X f (rI0 fun i j => .bl (g i j)) := by
  intro pins s σ H x y v u Q I rx ry h
  obtain ⟨i, j, rfl, rfl, q⟩ := h
  obtain ⟨t, rfl⟩ := rx
  obtain ⟨t', rfl⟩ := ry
  exact rule i j t t' s _ _ ⟨.bl (g i j), H, I, rfl, q⟩

def CDiv (i j : Int) : Prop := 0 < j ∧ j < 1073741824
def CDivN (i j : Int) : Prop := j ≠ 0 ∧ j.natAbs < 1073741824
def CPow (i j : Int) : Prop := 0 ≤ j ∧ j ≤ 1000000 ∧ i.natAbs < 2 ^ 64
def CMul (i j : Int) : Prop := (-(2 ^ 64) < i ∧ i < 2 ^ 64) ∨ (-(2 ^ 64) < j ∧ j < 2 ^ 64)
theorem CMul.ok {i j : Int} (h : CMul i j) : IntMulOk i j := by
  rcases h with ⟨h1, h2⟩ | ⟨h1, h2⟩
  · exact .of_left (intBits_le_64 h1 h2)
  · exact .of_right (intBits_le_64 h1 h2)
theorem two_pow_nn (k : Nat) : (0 : Int) ≤ 2 ^ k := by
  rw [two_pow_cast]
  exact Int.natCast_nonneg _

theorem op_add : OpR X (binaryOp .Add) (rI0 fun i j => .int (i + j)) := opI0 fun _ _ _ _ _ _ _ q => add_int q
theorem op_sub : OpR X (binaryOp .Sub) (rI0 fun i j => .int (i - j)) := opI0 fun _ _ _ _ _ _ _ q => sub_int q
theorem op_mul : OpR X (binaryOp .Mult) (rI CMul fun i j => .int (i * j)) := opI fun _ _ _ _ _ _ _ hc q => mul_int q hc.ok
/-- // by a positive divisor -/
theorem op_fdiv : OpR X (binaryOp .FloorDiv) (rI CDiv fun i j => .int (i / j)) := opI fun i j _ _ _ _ _ hc q => by
  have h1 : (0 : Int) < j := hc.1
  have h2 : j < 1073741824 := hc.2
  exact floordiv_int (by omega) (by rw [Int.fdiv_eq_ediv_of_nonneg i (by omega)]; exact q) (.inl (PyProof.noPylong_small (by omega)))
theorem op_fdivN : OpR X (binaryOp .FloorDiv) (rI CDivN fun i j => .int (i.fdiv j)) := opI fun _ _ _ _ _ _ _ hc q => floordiv_int hc.1 q (.inl (PyProof.noPylong_small hc.2))
/-- % by a positive divisor of any size -/
theorem op_mod : OpR X (binaryOp .Mod) (rI (fun _ j => 0 < j) fun i j => .int (i % j)) := opI fun i j _ _ _ _ _ hc q => by
  have h1 : (0 : Int) < j := hc
  exact mod_int' (by omega) (by rw [Int.fmod_eq_emod_of_nonneg i (by omega)]; exact q)
theorem op_modN : OpR X (binaryOp .Mod) (rI (fun _ j => j ≠ 0) fun i j => .int (i.fmod j)) := opI fun _ _ _ _ _ _ _ hc q => mod_int' hc q
theorem op_pow : OpR X (binaryOp .Pow) (rI CPow fun i j => .int (i ^ j.toNat)) := opI fun _ _ _ _ _ _ _ hc q => pow_int_small hc.1 hc.2.1 hc.2.2 q
theorem op_shl : OpR X (binaryOp .LShift) (rI CPow fun i j => .int (i * 2 ^ j.toNat)) := opI fun _ _ _ _ _ _ _ hc q => lshift_int_small hc.1 hc.2.1 hc.2.2 q
theorem op_shr : OpR X (binaryOp .RShift) (rI (fun _ j => 0 ≤ j) fun i j => .int (i / 2 ^ j.toNat)) := opI fun i j _ _ _ _ _ hc q =>
  rshift_int hc (by rw [Int.fdiv_eq_ediv_of_nonneg i (two_pow_nn _)]; exact q)
theorem op_and : OpR X (binaryOp .BitAnd) (rI0 fun i j => .int (Builtin.bitAnd i j)) := opI0 fun _ _ _ _ _ _ _ q => and_int q
theorem op_or : OpR X (binaryOp .BitOr) (rI0 fun i j => .int (Builtin.bitOr i j)) := opI0 fun _ _ _ _ _ _ _ q => or_int q
theorem op_xor : OpR X (binaryOp .BitXor) (rI0 fun i j => .int (Builtin.bitXor i j)) := opI0 fun _ _ _ _ _ _ _ q => xor_int q

theorem iop_add : OpR X (inplaceOp .Add) (rI0 fun i j => .int (i + j)) := opI0 fun _ _ _ _ _ _ _ q => iadd_int q
theorem iop_sub : OpR X (inplaceOp .Sub) (rI0 fun i j => .int (i - j)) := opI0 fun _ _ _ _ _ _ _ q => isub_int q
theorem iop_mul : OpR X (inplaceOp .Mult) (rI CMul fun i j => .int (i * j)) := opI fun _ _ _ _ _ _ _ hc q => imul_int q hc.ok
theorem iop_fdiv : OpR X (inplaceOp .FloorDiv) (rI CDiv fun i j => .int (i / j)) := opI fun i j _ _ _ _ _ hc q => by
  have h1 : (0 : Int) < j := hc.1
  have h2 : j < 1073741824 := hc.2
  exact ifloordiv_int (by omega) (by rw [Int.fdiv_eq_ediv_of_nonneg i (by omega)]; exact q) (.inl (PyProof.noPylong_small (by omega)))
theorem iop_mod : OpR X (inplaceOp .Mod) (rI (fun _ j => 0 < j) fun i j => .int (i % j)) := opI fun i j _ _ _ _ _ hc q => by
  have h1 : (0 : Int) < j := hc
  exact imod_int (by omega) (by rw [Int.fmod_eq_emod_of_nonneg i (by omega)]; exact q)
theorem iop_shl : OpR X (inplaceOp .LShift) (rI CPow fun i j => .int (i * 2 ^ j.toNat)) := opI fun _ _ _ _ _ _ _ hc q => ilshift_int_small hc.1 hc.2.1 hc.2.2 q
theorem iop_shr : OpR X (inplaceOp .RShift) (rI (fun _ j => 0 ≤ j) fun i j => .int (i / 2 ^ j.toNat)) := opI fun i j _ _ _ _ _ hc q =>
  irshift_int hc (by rw [Int.fdiv_eq_ediv_of_nonneg i (two_pow_nn _)]; exact q)
theorem iop_and : OpR X (inplaceOp .BitAnd) (rI0 fun i j => .int (Builtin.bitAnd i j)) := opI0 fun _ _ _ _ _ _ _ q => iand_int q
theorem iop_or : OpR X (inplaceOp .BitOr) (rI0 fun i j => .int (Builtin.bitOr i j)) := opI0 fun _ _ _ _ _ _ _ q => ior_int q
theorem iop_xor : OpR X (inplaceOp .BitXor) (rI0 fun i j => .int (Builtin.bitXor i j)) := opI0 fun _ _ _ _ _ _ _ q => ixor_int q

theorem unI {f : Value → Sem Value} {g : Int → Int}
    (rule : ∀ (i : Int) (t : Tok) (s : Shared) (Q : Value → Shared → Prop) (E : Value → Shared → Prop), Q (.int (g i) s.toks) { s with toks := s.toks + 1 } → wpAny (model X.prog X.w) X.A (f (.int i t)) Q E s) :
    UnR X f (rU fun i => .int (g i)) := by
  intro pins s σ H x v Q I rx h
  obtain ⟨i, rfl, q⟩ := h
  obtain ⟨t, rfl⟩ := rx
  exact rule i t s _ _ ⟨.int (g i), H, I.tok _, ⟨_, rfl⟩, q⟩
theorem un_neg : UnR X (unaryOp .USub) (rU fun i => .int (-i)) := unI fun _ _ _ _ _ q => neg_int q
theorem un_inv : UnR X (unaryOp .Invert) (rU fun i => .int (Builtin.bitNot i)) := unI fun _ _ _ _ _ q => invert_int q

/-! ### bools among ints: n += (a < b) -/
theorem op_add_ib : OpR X (binaryOp .Add) (fun x y H Q => ∃ i k, x = .int i ∧ y = .bl k ∧ Q (.int (i + b2i k)) H) := by
  intro pins s σ H x y v u Q I rx ry h
  obtain ⟨i, k, rfl, rfl, q⟩ := h
  obtain ⟨t, rfl⟩ := rx
  cases ry
  exact add_int_bool ⟨.int (i + b2i k), H, I.tok _, ⟨_, rfl⟩, q⟩
end

/-! ### comparisons -/
/-- the scalars that == tells apart as data does -/
def scal : V → V → Bool
  | .non, .non => true | .non, .int _ => true | .int _, .non => true | .non, .bl _ => true | .bl _, .non => true | .non, .str _ => true | .str _, .non => true
  | .int _, .int _ => true | .bl _, .bl _ => true | .str _, .str _ => true | .byt _, .byt _ => true
  | .int _, .str _ => true | .str _, .int _ => true | .bl _, .str _ => true | .str _, .bl _ => true
  | _, _ => false
def rEq : R2 := fun x y H Q => scal x y = true ∧ Q (.bl (decide (x = y))) H
def rNe : R2 := fun x y H Q => scal x y = true ∧ Q (.bl (!decide (x = y))) H

theorem dec_int {i j : Int} : decide (V.int i = V.int j) = (i == j) := by
  rw [Bool.eq_iff_iff]
  simp
theorem dec_bl {i j : Bool} : decide (V.bl i = V.bl j) = (i == j) := by
  rw [Bool.eq_iff_iff]
  simp
theorem dec_str {i j : Str} : decide (V.str i = V.str j) = (i == j) := by
  rw [Bool.eq_iff_iff]
  simp
theorem dec_byt {i j : Array UInt8} : decide (V.byt i = V.byt j) = (i.toList == j.toList) := by
  rw [Bool.eq_iff_iff]
  cases i
  cases j
  simp

section
variable {X : Cx} {a b c : Expr} {ta tb tc : TE} {pos : Pos}
theorem fin_bl {pins : List (Addr × Obj)} {σ : St} {H : Hp} {s : Shared} {Q : VK} {k k' : Bool} (I : Inv X pins σ H s) (q : Q (.bl k) H) (e : k = k') : EP X pins σ Q (.bool k') s := by
  subst e
  exact ⟨.bl k, H, I, rfl, q⟩
theorem op_eq : OpR X (compareOp .Eq) rEq := by
  intro pins s σ H x y v u Q I rx ry h
  obtain ⟨hs, q⟩ := h
  cases x with
  | non =>
    cases rx
    cases y with
    | non => cases ry; exact PySem.EqNone.eq_none_none (fin_bl I q (by simp))
    | bl j => cases ry; exact PySem.EqNone.eq_none_bool (fin_bl I q (by simp))
    | int j => obtain ⟨t', rfl⟩ := ry; exact PySem.EqNone.eq_none_int (fin_bl I q (by simp))
    | str j => obtain ⟨t', rfl⟩ := ry; exact PySem.EqNone.eq_none_str (fin_bl I q (by simp))
    | _ => exact absurd (show false = true from hs) Bool.false_ne_true
  | bl i =>
    cases rx
    cases y with
    | non => cases ry; exact PySem.EqNone.eq_bool_none (fin_bl I q (by simp))
    | bl j => cases ry; exact eq_bool (fin_bl I q dec_bl)
    | str j => obtain ⟨t', rfl⟩ := ry; exact PySem.EqMixed.eq_bool_str (fin_bl I q (by simp))
    | _ => exact absurd (show false = true from hs) Bool.false_ne_true
  | int i =>
    obtain ⟨t, rfl⟩ := rx
    cases y with
    | non => cases ry; exact PySem.EqNone.eq_int_none (fin_bl I q (by simp))
    | int j => obtain ⟨t', rfl⟩ := ry; exact eq_int (fin_bl I q dec_int)
    | str j => obtain ⟨t', rfl⟩ := ry; exact PySem.EqMixed.eq_int_str (fin_bl I q (by simp))
    | _ => exact absurd (show false = true from hs) Bool.false_ne_true
  | str i =>
    obtain ⟨t, rfl⟩ := rx
    cases y with
    | non => cases ry; exact PySem.EqNone.eq_str_none (fin_bl I q (by simp))
    | bl j => cases ry; exact PySem.EqMixed.eq_str_bool (fin_bl I q (by simp))
    | int j => obtain ⟨t', rfl⟩ := ry; exact PySem.EqMixed.eq_str_int (fin_bl I q (by simp))
    | str j => obtain ⟨t', rfl⟩ := ry; exact eq_str (fin_bl I q dec_str)
    | _ => exact absurd (show false = true from hs) Bool.false_ne_true
  | byt i =>
    obtain ⟨t, rfl⟩ := rx
    cases y with
    | byt j => obtain ⟨t', rfl⟩ := ry; exact PySem.W.eq_bytes (fin_bl I q dec_byt)
    | _ => exact absurd (show false = true from hs) Bool.false_ne_true
  | _ => cases y <;> exact absurd (show false = true from hs) Bool.false_ne_true
theorem op_ne : OpR X (compareOp .NotEq) rNe := by
  intro pins s σ H x y v u Q I rx ry h
  obtain ⟨hs, q⟩ := h
  cases x with
  | non =>
    cases rx
    cases y with
    | non => cases ry; exact PySem.EqNone.ne_none_none (fin_bl I q (by simp))
    | bl j => cases ry; exact PySem.EqNone.ne_none_bool (fin_bl I q (by simp))
    | int j => obtain ⟨t', rfl⟩ := ry; exact PySem.EqNone.ne_none_int (fin_bl I q (by simp))
    | str j => obtain ⟨t', rfl⟩ := ry; exact PySem.EqNone.ne_none_str (fin_bl I q (by simp))
    | _ => exact absurd (show false = true from hs) Bool.false_ne_true
  | bl i =>
    cases rx
    cases y with
    | non => cases ry; exact PySem.EqNone.ne_bool_none (fin_bl I q (by simp))
    | bl j => cases ry; exact ne_bool (fin_bl I q (congrArg not dec_bl))
    | str j => obtain ⟨t', rfl⟩ := ry; exact PySem.EqMixed.ne_bool_str (fin_bl I q (by simp))
    | _ => exact absurd (show false = true from hs) Bool.false_ne_true
  | int i =>
    obtain ⟨t, rfl⟩ := rx
    cases y with
    | non => cases ry; exact PySem.EqNone.ne_int_none (fin_bl I q (by simp))
    | int j => obtain ⟨t', rfl⟩ := ry; exact ne_int (fin_bl I q (congrArg not dec_int))
    | str j => obtain ⟨t', rfl⟩ := ry; exact PySem.EqMixed.ne_int_str (fin_bl I q (by simp))
    | _ => exact absurd (show false = true from hs) Bool.false_ne_true
  | str i =>
    obtain ⟨t, rfl⟩ := rx
    cases y with
    | non => cases ry; exact PySem.EqNone.ne_str_none (fin_bl I q (by simp))
    | bl j => cases ry; exact PySem.EqMixed.ne_str_bool (fin_bl I q (by simp))
    | int j => obtain ⟨t', rfl⟩ := ry; exact PySem.EqMixed.ne_str_int (fin_bl I q (by simp))
    | str j => obtain ⟨t', rfl⟩ := ry; exact ne_str (fin_bl I q (congrArg not dec_str))
    | _ => exact absurd (show false = true from hs) Bool.false_ne_true
  | byt i =>
    obtain ⟨t, rfl⟩ := rx
    cases y with
    | byt j => obtain ⟨t', rfl⟩ := ry; exact PySem.W.ne_bytes (fin_bl I q (congrArg not dec_byt))
    | _ => exact absurd (show false = true from hs) Bool.false_ne_true
  | _ => cases y <;> exact absurd (show false = true from hs) Bool.false_ne_true

theorem op_lt : OpR X (compareOp .Lt) (rI0 fun i j => .bl (decide (i < j))) := opB0 fun _ _ _ _ _ _ _ q => lt_int q
theorem op_le : OpR X (compareOp .LtE) (rI0 fun i j => .bl (decide (i ≤ j))) := opB0 fun _ _ _ _ _ _ _ q => le_int q
theorem op_gt : OpR X (compareOp .Gt) (rI0 fun i j => .bl (decide (j < i))) := opB0 fun _ _ _ _ _ _ _ q => gt_int q
theorem op_ge : OpR X (compareOp .GtE) (rI0 fun i j => .bl (decide (j ≤ i))) := opB0 fun _ _ _ _ _ _ _ q => ge_int q
theorem op_lt_str : OpR X (compareOp .Lt) (fun x y H Q => ∃ i j, x = .str i ∧ y = .str j ∧ Q (.bl (decide (i.cps.toList < j.cps.toList))) H) := by
  intro pins s σ H x y v u Q I rx ry h
  obtain ⟨i, j, rfl, rfl, q⟩ := h
  obtain ⟨t, rfl⟩ := rx
  obtain ⟨t', rfl⟩ := ry
  exact lt_str (fin_bl I q rfl)
/-- the one string within the other -/
theorem op_in_str : OpR X (compareOp .In) (fun x y H Q => ∃ i j, x = .str i ∧ y = .str j ∧ Q (.bl (!(Builtin.Str.occurrences j i 0 j.length 1).isEmpty)) H) := by
  intro pins s σ H x y v u Q I rx ry h
  obtain ⟨i, j, rfl, rfl, q⟩ := h
  obtain ⟨t, rfl⟩ := rx
  obtain ⟨t', rfl⟩ := ry
  exact in_str (fin_bl I q rfl)

/-- is None, is not None: the right side a value none -/
theorem op_isN : OpR X (compareOp .Is) (fun x y H Q => y = .non ∧ Q (.bl (decide (x = .non))) H) := by
  intro pins s σ H x y v u Q I rx ry h
  obtain ⟨rfl, q⟩ := h
  cases ry
  refine is_none_gen (fin_bl I q ?_)
  cases x <;> first
    | (cases rx; rfl)
    | (obtain ⟨t, rfl⟩ := rx; rfl)
theorem op_notN : OpR X (compareOp .IsNot) (fun x y H Q => y = .non ∧ Q (.bl (!decide (x = .non))) H) := by
  intro pins s σ H x y v u Q I rx ry h
  obtain ⟨rfl, q⟩ := h
  cases ry
  refine isnot_none_gen (fin_bl I q ?_)
  cases x <;> first
    | (cases rx; rfl)
    | (obtain ⟨t, rfl⟩ := rx; rfl)

theorem op_notin_str : OpR X (compareOp .NotIn) (fun x y H Q => ∃ i j, x = .str i ∧ y = .str j ∧ Q (.bl (!(!(Builtin.Str.occurrences j i 0 j.length 1).isEmpty))) H) := by
  intro pins s σ H x y v u Q I rx ry h
  obtain ⟨i, j, rfl, rfl, q⟩ := h
  obtain ⟨t, rfl⟩ := rx
  obtain ⟨t', rfl⟩ := ry
  exact notIn_str (fin_bl I q rfl)
/-- is, is not of two objects that are tracked lists or instances -/
def isObj : HO → Bool
  | .lst _ => true
  | .ins _ _ _ => true
  | _ => false
theorem obj_there {pins : List (Addr × Obj)} {s : Shared} {σ : St} {H : Hp} {a : Addr} {o : HO} (I : Inv X pins σ H s) (h : H a = some o) (p : isObj o = true) : ∃ ob, s.heap.get? a = some ob ∧ ob.cls ≠ .type "tuple" := by
  cases o with
  | lst xs =>
    obtain ⟨_, its, n, _, e⟩ : xs.length ≤ sizeLine ∧ ∃ (its : List Value) (n : Nat), Vals xs its ∧ s.heap.get? a = some { cls := .type "list", data := .seq its.toArray n } := I.hok a _ h
    exact ⟨_, e, (by show Value.type "list" ≠ .type "tuple"; decide +kernel)⟩
  | ins C dx fs =>
    have x := I.hok a _ h
    obtain ⟨_, _, _, e, _⟩ := x
    exact ⟨_, e, (by show Value.ref C ≠ .type "tuple"; exact fun z => by cases z)⟩
  | _ => exact absurd (show false = true from p) Bool.false_ne_true
theorem op_is_ref : OpR X (compareOp .Is) (fun x y H Q => ∃ a b oa ob, x = .ref a ∧ y = .ref b ∧ H a = some oa ∧ isObj oa = true ∧ H b = some ob ∧ isObj ob = true ∧ Q (.bl (decide (a = b))) H) := by
  intro pins s σ H x y v u Q I rx ry h
  obtain ⟨a, b, oa, ob, rfl, rfl, ha, pa, hb, pb, q⟩ := h
  cases rx
  cases ry
  obtain ⟨o1, e1, n1⟩ := obj_there I ha pa
  obtain ⟨o2, e2, _⟩ := obj_there I hb pb
  by_cases z : a = b
  · subst z
    exact wpAny_is_ref_self (fin_bl I q (by simp))
  · exact wpAny_is_ref_other z e1 e2 n1 (fin_bl I q (by simp [z]))
theorem op_isnot_ref : OpR X (compareOp .IsNot) (fun x y H Q => ∃ a b oa ob, x = .ref a ∧ y = .ref b ∧ H a = some oa ∧ isObj oa = true ∧ H b = some ob ∧ isObj ob = true ∧ Q (.bl (!decide (a = b))) H) := by
  intro pins s σ H x y v u Q I rx ry h
  obtain ⟨a, b, oa, ob, rfl, rfl, ha, pa, hb, pb, q⟩ := h
  cases rx
  cases ry
  obtain ⟨o1, e1, n1⟩ := obj_there I ha pa
  obtain ⟨o2, e2, _⟩ := obj_there I hb pb
  by_cases z : a = b
  · subst z
    exact wpAny_isNot_ref_self (fin_bl I q (by simp))
  · exact wpAny_isNot_ref_other z e1 e2 n1 (fin_bl I q (by simp [z]))

/-- two rules for one operation: by cases -/
theorem OpR.or {f : Value → Value → Sem Value} {r r' : R2} (h : OpR X f r) (h' : OpR X f r') : OpR X f (fun x y H Q => r x y H Q ∨ r' x y H Q) := by
  intro pins s σ H x y v u Q I rx ry q
  rcases q with q | q
  · exact h pins s σ H x y v u Q I rx ry q
  · exact h' pins s σ H x y v u Q I rx ry q

theorem nomark (b : Expr) {op : CmpOp} (h : op ≠ .In := by decide) (h2 : op ≠ .NotIn := by decide) : behindInMarks op b = false := by
  have e1 : (op == CmpOp.In) = false := by cases op <;> first | rfl | exact absurd rfl h
  have e2 : (op == CmpOp.NotIn) = false := by cases op <;> first | rfl | exact absurd rfl h2
  cases b <;> simp [behindInMarks, e1, e2]
/-- a comparison as a value; hm: nomark b, or (for in, not in) by with_unfolding_all rfl -/
theorem pe_cmpR {op : CmpOp} {r : R2} (ho : OpR X (compareOp op) r) (ha : PE X a ta) (hb : PE X b tb) (hm : behindInMarks op b = false) : PE X (.Compare a [op] [b] pos) (tOp r ta tb) := by
  intro pins s σ H Q I h
  exact wpAny_Compare1 (binT ha hb I h fun v u s2 x y H2 I2 rx ry q => ho pins s2 σ H2 x y v u Q I2 rx ry q) hm
/-- a reading of a value as a test -/
def tTest (t : TE) : TT := fun σ H Q => t σ H fun x H' => ∃ k, x = .bl k ∧ Q k H'
theorem pt_cmpR {op : CmpOp} {r : R2} (ho : OpR X (compareOp op) r) (ha : PE X a ta) (hb : PE X b tb) (hm : behindInMarks op b = false) : PT X (.Compare a [op] [b] pos) (tTest (tOp r ta tb)) := by
  intro pins s σ H Q I h
  refine wpAny_isTrue_Compare1 (thn (ha pins s σ H _ I h) fun v s1 ⟨x, H1, I1, r1, q1⟩ => thn (hb pins s1 σ H1 _ I1 q1) fun u s2 ⟨y, H2, I2, r2, q2⟩ =>
    thn (ho pins s2 σ H2 x y v u _ I2 r1 r2 q2) fun c s3 ⟨z, H3, I3, r3, k, e, q3⟩ => ?_) hm
  subst e
  cases r3
  exact wpAny_truthy_bool ⟨H3, I3, q3⟩
/-- a op1 b op2 c -/
def tChain (r r' : R2) (ta tb tc : TE) : TE := fun σ H Q => ta σ H fun x H1 => tb σ H1 fun y H2 => r x y H2 fun z H3 => ∃ k, z = .bl k ∧
  (if k = true then tc σ H3 fun w' H4 => r' y w' H4 Q else Q (.bl false) H3)
theorem pe_chain {op op' : CmpOp} {r r' : R2} (ho : OpR X (compareOp op) r) (ho' : OpR X (compareOp op') r') (ha : PE X a ta) (hb : PE X b tb) (hc : PE X c tc)
    (hm : lastMarks [op, op'] [b, c] = false := by with_unfolding_all rfl) : PE X (.Compare a [op, op'] [b, c] pos) (tChain r r' ta tb tc) := by
  intro pins s σ H Q I h
  refine Compare_chain (thn (ha pins s σ H _ I h) fun v s1 ⟨x, H1, I1, r1, q1⟩ => chain_link (thn (hb pins s1 σ H1 _ I1 q1) fun u s2 ⟨y, H2, I2, r2, q2⟩ =>
    thn (ho pins s2 σ H2 x y v u _ I2 r1 r2 q2) fun d s3 ⟨z, H3, I3, r3, k, e, q3⟩ => ?_)) hm
  subst e
  cases r3
  refine wpAny_truthy_bool ?_
  cases k with
  | false => exact ite_ff ⟨.bl false, H3, I3, rfl, q3⟩
  | true => exact ite_tt (chain_last (thn (hc pins s3 σ H3 _ I3 q3) fun w' s4 ⟨z', H4, I4, r4, q4⟩ => ho' pins s4 σ H4 y z' u w' Q I4 r2 r4 q4))
theorem pt_chain {op op' : CmpOp} {r r' : R2} (ho : OpR X (compareOp op) r) (ho' : OpR X (compareOp op') r') (ha : PE X a ta) (hb : PE X b tb) (hc : PE X c tc)
    (hm : lastMarks [op, op'] [b, c] = false := by with_unfolding_all rfl) : PT X (.Compare a [op, op'] [b, c] pos) (tTest (tChain r r' ta tb tc)) := by
  intro pins s σ H Q I h
  refine isTrue_chain (thn (ha pins s σ H _ I h) fun v s1 ⟨x, H1, I1, r1, q1⟩ => test_link (thn (hb pins s1 σ H1 _ I1 q1) fun u s2 ⟨y, H2, I2, r2, q2⟩ =>
    thn (ho pins s2 σ H2 x y v u _ I2 r1 r2 q2) fun d s3 ⟨z, H3, I3, r3, k, e, q3⟩ => ?_)) hm
  subst e
  cases r3
  refine wpAny_truthy_bool ?_
  cases k with
  | false =>
    obtain ⟨k', e', q'⟩ := q3
    cases e'
    exact ite_ff ⟨H3, I3, q'⟩
  | true =>
    refine ite_tt (test_last (thn (hc pins s3 σ H3 _ I3 q3) fun w' s4 ⟨z', H4, I4, r4, q4⟩ => thn (ho' pins s4 σ H4 y z' u w' _ I4 r2 r4 q4) fun d' s5 ⟨z2, H5, I5, r5, k2, e2, q5⟩ => ?_))
    subst e2
    cases r5
    exact wpAny_truthy_bool ⟨H5, I5, q5⟩

/-! ### truth -/
/-- a value's truth by the abstract heap -/
def TruV (K : PySem.W.Frag) (x : V) (H : Hp) (k : Bool) : Prop :=
  match x with
  | .non => k = false
  | .bl b => k = b
  | .int i => k = (i != 0)
  | .str y => y.length ≤ sizeLine ∧ k = ((y.length : Int) != 0)
  | .byt y => y.size ≤ sizeLine ∧ k = ((y.size : Int) != 0)
  | .ref p => (∃ xs, SqL K H p xs ∧ k = !xs.isEmpty) ∨ (∃ xs, SqT K H p xs ∧ k = !xs.isEmpty) ∨ ∃ kvs, H p = some (.dK kvs) ∧ k = !kvs.isEmpty
  | _ => False
theorem isEmpty_kv {κ : Type} {kvs : List (κ × V)} {vs : List (κ × Value)} (r : KV kvs vs) : (!vs.isEmpty) = !kvs.isEmpty := by
  cases r <;> rfl
theorem isEmpty_of {xs : List V} {its : List Value} (r : Vals xs its) : (!its.toArray.isEmpty) = !xs.isEmpty := by
  cases r <;> simp
theorem line63 : (sizeLine : Nat) < 2 ^ 63 := by rw [sizeLine_eq]; decide
theorem tru_ok : TruR X (fun x H Q => ∃ k, TruV X.K x H k ∧ Q k H) := by
  intro pins s σ H x v Q I rx h
  obtain ⟨k, e, q⟩ := h
  have hl := line63
  have hs : sizeLine = 16777216 := sizeLine_eq
  cases x with
  | non =>
    cases rx
    have e' : k = false := e
    subst e'
    exact truthy_none ⟨H, I, q⟩
  | bl b =>
    cases rx
    have e' : k = b := e
    subst e'
    exact wpAny_truthy_bool ⟨H, I, q⟩
  | int i =>
    obtain ⟨t, rfl⟩ := rx
    have e' : k = (i != 0) := e
    subst e'
    exact PySem.P.truthy_int ⟨H, I, q⟩
  | str y =>
    obtain ⟨t, rfl⟩ := rx
    obtain ⟨hy, e'⟩ : y.length ≤ sizeLine ∧ k = ((y.length : Int) != 0) := e
    subst e'
    exact PySem.P.truthy_str (by omega) ⟨H, I.tok _, q⟩
  | byt y =>
    obtain ⟨t, rfl⟩ := rx
    obtain ⟨hy, e'⟩ : y.size ≤ sizeLine ∧ k = ((y.size : Int) != 0) := e
    subst e'
    exact PySem.W.truthy_bytes (by omega) ⟨H, I.tok _, q⟩
  | ref p =>
    cases rx
    have e' : (∃ xs, SqL X.K H p xs ∧ k = !xs.isEmpty) ∨ (∃ xs, SqT X.K H p xs ∧ k = !xs.isEmpty) ∨ ∃ kvs, H p = some (.dK kvs) ∧ k = !kvs.isEmpty := e
    rcases e' with ⟨xs, hx, e'⟩ | ⟨xs, hx, e'⟩ | ⟨kvs, hx, e'⟩
    · subst e'
      obtain ⟨its, r, pl, hz⟩ := I.list hx
      have hlen := r.length
      exact wpAny_truthy_list pl.isList (by simp only [List.size_toArray]; omega) ⟨H, I.tok _, by rw [isEmpty_of r]; exact q⟩
    · subst e'
      obtain ⟨its, r, pl, hz⟩ := I.tuple hx
      have hlen := r.length
      exact truthy_tuple pl (by simp only [List.size_toArray]; omega) ⟨H, I.tok _, by rw [isEmpty_of r]; exact q⟩
    · subst e'
      obtain ⟨hz, hS, vs, r, m⟩ : kvs.length ≤ sizeLine ∧ (p == sysModules) = false ∧ ∃ vs, KV kvs vs ∧ s.heap.DictOf (mixKind X.prog X.w) p vs := I.hok p _ hx
      have hlen : kvs.length = vs.length := Paired.length r
      exact wpAny_truthy_dict hS m (by omega) ⟨H, I.tok _, by rw [isEmpty_kv r]; exact q⟩
  | _ => exact (show False from e).elim
/-- any expression whose test is its value's truth (a name, a call, a subscript, a field ..: he by fun _ => rfl) -/
theorem pt_truth (ha : PE X a ta) (he : ∀ whole, isTrue a X.env whole = (do let v ← whole; standAt a.pos; holding [v] (truthy v))) :
    PT X a (fun σ H Q => ta σ H fun x H' => ∃ k, TruV X.K x H' k ∧ Q k H') := by
  intro pins s σ H Q I h
  exact isTrue_plain (thn (ha pins s σ H _ I h) fun v s1 ⟨x, H1, I1, r1, q1⟩ => tru_ok pins s1 σ H1 x v Q I1 r1 q1) (he _)

/-! ### strs and bytes -/
theorem pe_byt {x : List UInt8} {k : Nat} : PE X (.Constant (.bytes x) k pos) (fun _ H Q => Q (.byt x.toArray) H) := fun _ _ _ H _ I h => PySem.W.Constant_bytes ⟨.byt x.toArray, H, I.tok _, ⟨_, rfl⟩, h⟩
theorem op_add_str : OpR X (binaryOp .Add) (fun x y H Q => ∃ i j, x = .str i ∧ y = .str j ∧ i.length + j.length ≤ sizeLine ∧ Q (.str (i ++ j)) H) := by
  intro pins s σ H x y v u Q I rx ry h
  obtain ⟨i, j, rfl, rfl, hz, q⟩ := h
  obtain ⟨t, rfl⟩ := rx
  obtain ⟨t', rfl⟩ := ry
  exact add_str (fun t' tk => ⟨.str (i ++ j), H, I.tok _, ⟨_, rfl⟩, q⟩) hz
theorem iop_add_str : OpR X (inplaceOp .Add) (fun x y H Q => ∃ i j, x = .str i ∧ y = .str j ∧ i.length + j.length ≤ sizeLine ∧ Q (.str (i ++ j)) H) := by
  intro pins s σ H x y v u Q I rx ry h
  obtain ⟨i, j, rfl, rfl, hz, q⟩ := h
  obtain ⟨t, rfl⟩ := rx
  obtain ⟨t', rfl⟩ := ry
  exact iadd_str (fun t' tk => ⟨.str (i ++ j), H, I.tok _, ⟨_, rfl⟩, q⟩) hz
theorem op_add_byt : OpR X (binaryOp .Add) (fun x y H Q => ∃ i j, x = .byt i ∧ y = .byt j ∧ i.size + j.size ≤ 16777216 ∧ Q (.byt (i ++ j)) H) := by
  intro pins s σ H x y v u Q I rx ry h
  obtain ⟨i, j, rfl, rfl, hz, q⟩ := h
  obtain ⟨t, rfl⟩ := rx
  obtain ⟨t', rfl⟩ := ry
  exact PySem.W.KBy.add_bytes hz (fun t' tk => ⟨.byt (i ++ j), H, I.tok _, ⟨_, rfl⟩, q⟩)

def PlainIxT (b : Expr) : Prop := ∀ o i, subscripted b false o i = operate [o, i] (getItem o i)
/-- s[i], 0 ≤ i < len -/
theorem pe_item_str (ha : PE X a ta) (hb : PE X b tb) (hs : PlainIxT b) :
    PE X (.Subscript a b pos) (tOp (fun x y H Q => ∃ z i c, x = .str z ∧ y = .int i ∧ 0 ≤ i ∧ i < 2 ^ 63 ∧ i < z.length ∧ z.cps[i.toNat]? = some c ∧ Q (.str ⟨#[c]⟩) H) ta tb) := by
  intro pins s σ H Q I h
  refine Subscript_ (binT ha hb I h fun v u s2 x y H2 I2 rx ry q => ?_)
  obtain ⟨z, i, c, rfl, rfl, h0, h63, h1, hc, q⟩ := q
  obtain ⟨t, rfl⟩ := rx
  obtain ⟨t', rfl⟩ := ry
  have e : seqIndex? i z.length = some i.toNat := PySem.StrLaws.seqIndex_nonneg h0 h1
  exact tail_any (typeIs_str s2 z t) slot_str_getitem.lookup (getItem_str (c := c) (by
    have e1 : decide (i < -(2 ^ 63 : Int)) = false := decide_eq_false (by omega)
    have e2 : decide (i ≥ 2 ^ 63) = false := decide_eq_false (by omega)
    rw [e1, e2] <;> rfl) (by rw [e]; exact hc) ⟨.str ⟨#[c]⟩, H2, I2.tok _, ⟨_, rfl⟩, q⟩) (hs _ _)
/-- b[i], 0 ≤ i < len -/
theorem pe_item_byt (ha : PE X a ta) (hb : PE X b tb) (hs : PlainIxT b) :
    PE X (.Subscript a b pos) (tOp (fun x y H Q => ∃ (z : List UInt8) (i : Int), x = .byt z.toArray ∧ y = .int i ∧ z.length ≤ sizeLine ∧ 0 ≤ i ∧ i < z.length ∧ Q (.int ((z.getD i.toNat 0).toNat : Nat)) H) ta tb) := by
  intro pins s σ H Q I h
  refine Subscript_ (binT ha hb I h fun v u s2 x y H2 I2 rx ry q => ?_)
  obtain ⟨z, i, rfl, rfl, hz, h0, h1, q⟩ := q
  obtain ⟨t, rfl⟩ := rx
  obtain ⟨t', rfl⟩ := ry
  have hl : sizeLine = 16777216 := sizeLine_eq
  exact tail_any (PySem.W.typeIs_bytes s2 z.toArray t) PySem.W.FB.slot_bytes_getitem.lookup (PySem.W.getItem_bytes (by omega) h0 h1 ⟨.int ((z.getD i.toNat 0).toNat : Nat), H2, I2.tok _, ⟨_, rfl⟩, q⟩) (hs _ _)

/-! ### scalar builtins, by CallR -/
theorem vals1 {x : V} {us : List Value} (r : Vals [x] us) : ∃ u, us = [u] ∧ RelV x u := by
  cases r with
  | cons r1 r2 => cases r2; exact ⟨_, rfl, r1⟩
theorem vals2 {x y : V} {us : List Value} (r : Vals [x, y] us) : ∃ u w', us = [u, w'] ∧ RelV x u ∧ RelV y w' := by
  cases r with
  | cons r1 r2 =>
    cases r2 with
    | cons r3 r4 => cases r4; exact ⟨_, _, rfl, r1, r3⟩
theorem call_abs : CallR X (.builtin "abs") (fun xs H Q => ∃ i, xs = [.int i] ∧ Q (.int (if i < 0 then -i else i)) H) := by
  intro pins s σ H xs us Q I r h
  obtain ⟨i, rfl, q⟩ := h
  obtain ⟨u, rfl, t, rfl⟩ := vals1 r
  exact call_abs_int fun u tk => ⟨.int (if i < 0 then -i else i), H, I.tok _, ⟨_, rfl⟩, q⟩
theorem call_max2 (hc : X.calm = true) : CallR X (.builtin "max") (fun xs H Q => ∃ i j, xs = [.int i, .int j] ∧ Q (.int (if j > i then j else i)) H) := by
  intro pins s σ H xs us Q I r h
  obtain ⟨i, j, rfl, q⟩ := h
  obtain ⟨u, w', rfl, ⟨t, rfl⟩, ⟨t', rfl⟩⟩ := vals2 r
  refine max_two_ints (I.ok.hd hc) fun h' tk k => ⟨_, H, I.kept k, ?_, q⟩
  by_cases hj : j > i
  · rw [if_pos hj, if_pos hj]; exact ⟨_, rfl⟩
  · rw [if_neg hj, if_neg hj]; exact ⟨_, rfl⟩
theorem call_min2 (hc : X.calm = true) : CallR X (.builtin "min") (fun xs H Q => ∃ i j, xs = [.int i, .int j] ∧ Q (.int (if j < i then j else i)) H) := by
  intro pins s σ H xs us Q I r h
  obtain ⟨i, j, rfl, q⟩ := h
  obtain ⟨u, w', rfl, ⟨t, rfl⟩, ⟨t', rfl⟩⟩ := vals2 r
  refine min_two_ints (I.ok.hd hc) fun h' tk k => ⟨_, H, I.kept k, ?_, q⟩
  by_cases hj : j < i
  · rw [if_pos hj, if_pos hj]; exact ⟨_, rfl⟩
  · rw [if_neg hj, if_neg hj]; exact ⟨_, rfl⟩
theorem call_int1 : CallR X (.type "int") (fun xs H Q => (∃ i, xs = [.int i] ∧ Q (.int i) H) ∨ ∃ k, xs = [.bl k] ∧ Q (.int (if k then 1 else 0)) H) := by
  intro pins s σ H xs us Q I r h
  rcases h with ⟨i, rfl, q⟩ | ⟨k, rfl, q⟩
  · obtain ⟨u, rfl, t, rfl⟩ := vals1 r
    exact call_int_int ⟨.int i, H, I, ⟨_, rfl⟩, q⟩
  · obtain ⟨u, rfl, r1⟩ := vals1 r
    cases r1
    exact call_int_bool ⟨.int (if k then 1 else 0), H, I.tok _, ⟨_, rfl⟩, q⟩
theorem call_bool1 : CallR X (.type "bool") (fun xs H Q => (∃ i, xs = [.int i] ∧ Q (.bl (i != 0)) H) ∨ ∃ k, xs = [.bl k] ∧ Q (.bl k) H) := by
  intro pins s σ H xs us Q I r h
  rcases h with ⟨i, rfl, q⟩ | ⟨k, rfl, q⟩
  · obtain ⟨u, rfl, t, rfl⟩ := vals1 r
    exact call_bool_int ⟨.bl (i != 0), H, I, rfl, q⟩
  · obtain ⟨u, rfl, r1⟩ := vals1 r
    cases r1
    exact call_bool_bool ⟨.bl k, H, I, rfl, q⟩
theorem call_str_int : CallR X (.type "str") (fun xs H Q => ∃ i, xs = [.int i] ∧ i.natAbs.log2 < 1920 ∧ Q (.str (toString i)) H) := by
  intro pins s σ H xs us Q I r h
  obtain ⟨i, rfl, hz, q⟩ := h
  obtain ⟨u, rfl, t, rfl⟩ := vals1 r
  exact PySem.P.str_of_int hz ⟨.str _, H, I.tok _, ⟨_, rfl⟩, q⟩
theorem call_ord : CallR X (.builtin "ord") (fun xs H Q => ∃ x, xs = [.str x] ∧ x.length = 1 ∧ Q (.int (x.cps.getD 0 0 : Nat)) H) := by
  intro pins s σ H xs us Q I r h
  obtain ⟨x, rfl, hz, q⟩ := h
  obtain ⟨u, rfl, t, rfl⟩ := vals1 r
  exact ord_of_one hz ⟨.int _, H, I.tok _, ⟨_, rfl⟩, q⟩
theorem call_chr : CallR X (.builtin "chr") (fun xs H Q => ∃ i, xs = [.int i] ∧ 0 ≤ i ∧ i ≤ 1114111 ∧ Q (.str ⟨#[i.toNat]⟩) H) := by
  intro pins s σ H xs us Q I r h
  obtain ⟨i, rfl, h0, h1, q⟩ := h
  obtain ⟨u, rfl, t, rfl⟩ := vals1 r
  exact chr_of_range h0 h1 ⟨.str _, H, I.tok _, ⟨_, rfl⟩, q⟩
/-- len of a str, a bytes, a list, a tuple -/
def LenV (K : PySem.W.Frag) (x : V) (H : Hp) (n : Nat) : Prop :=
  match x with
  | .str y => y.length ≤ sizeLine ∧ n = y.length
  | .byt y => y.size ≤ sizeLine ∧ n = y.size
  | .ref p => (∃ xs, SqL K H p xs ∧ n = xs.length) ∨ ∃ xs, SqT K H p xs ∧ n = xs.length
  | _ => False
theorem call_len : CallR X (.builtin "len") (fun xs H Q => ∃ x n, xs = [x] ∧ LenV X.K x H n ∧ Q (.int n) H) := by
  intro pins s σ H xs us Q I r h
  obtain ⟨x, n, rfl, e, q⟩ := h
  obtain ⟨u, rfl, rx⟩ := vals1 r
  have hl := line63
  have hs : sizeLine = 16777216 := sizeLine_eq
  cases x with
  | str y =>
    obtain ⟨t, rfl⟩ := rx
    obtain ⟨hy, e'⟩ : y.length ≤ sizeLine ∧ n = y.length := e
    subst e'
    exact len_str (by omega) ⟨.int _, H, I.tok _, ⟨_, rfl⟩, q⟩
  | byt y =>
    obtain ⟨t, rfl⟩ := rx
    obtain ⟨hy, e'⟩ : y.size ≤ sizeLine ∧ n = y.size := e
    subst e'
    exact PySem.W.len_bytes (by omega) ⟨.int _, H, I.tok _, ⟨_, rfl⟩, q⟩
  | ref p =>
    cases rx
    have e' : (∃ xs, SqL X.K H p xs ∧ n = xs.length) ∨ ∃ xs, SqT X.K H p xs ∧ n = xs.length := e
    rcases e' with ⟨xs, hx, e'⟩ | ⟨xs, hx, e'⟩
    · subst e'
      obtain ⟨its, r', pl, hz⟩ := I.list hx
      have hlen := r'.length
      exact Calls.call_len_list pl.isList (by simp only [List.size_toArray]; omega) ⟨.int xs.length, H, I.tok _, ⟨_, by simp only [List.size_toArray]; rw [hlen]⟩, q⟩
    · subst e'
      obtain ⟨its, r', pl, hz⟩ := I.tuple hx
      have hlen := r'.length
      exact len_tuple pl (by simp only [List.size_toArray]; omega) ⟨.int xs.length, H, I.tok _, ⟨_, by simp only [List.size_toArray]; rw [hlen]⟩, q⟩
  | _ => exact (show False from e).elim
/-- divmod: a new tuple -/
theorem call_divmod : CallR X (.builtin "divmod") (fun xs H Q => ∃ i j, xs = [.int i, .int j] ∧ CDiv i j ∧ ∀ p, H p = none → Q (.ref p) (upd H p (.tup [.int (i / j), .int (i % j)]))) := by
  intro pins s σ H xs us Q I r h
  obtain ⟨i, j, rfl, ⟨h1, h2⟩, q⟩ := h
  obtain ⟨u, w', rfl, ⟨t, rfl⟩, ⟨t', rfl⟩⟩ := vals2 r
  refine divmod_int (by omega) ?_ (.inl (PyProof.noPylong_small (by omega)))
  rw [Int.fdiv_eq_ediv_of_nonneg i (by omega), Int.fmod_eq_emod_of_nonneg i (by omega)]
  have hn : H s.heap.objs.size = none := I.hok.fresh (Nat.le_refl _)
  refine ⟨.ref s.heap.objs.size, _, ?_, rfl, q _ hn⟩
  refine I.laid (fun b o e => Heap.get?_push_of_some _ e) (Nat.le_refl _) ⟨by simp only [List.length_cons, List.length_nil]; rw [sizeLine_eq]; decide, [.int (i / j) s.toks, .int (i % j) (s.toks + 1)], .cons ⟨_, rfl⟩ (.cons ⟨_, rfl⟩ .nil), ?_⟩
  exact ⟨_, Heap.get?_push_size s.heap rfl, rfl, 0, rfl⟩
end
end L2

namespace L2
open PySem PySem.Spec PyProof.Rows

/-! ### an instance, its attributes a map -/
structure ObjM (h : Heap) (x dx C : Addr) (mA : Str → Option Value) : Prop where
  obj : h.get? x = some (PySem.W.instObj C dx)
  ns : h.Ns1 dx mA
  ne : dx ≠ x

theorem lookIn_ns {h : Heap} {dx : Addr} {mA : Str → Option Value} (n : h.Ns1 dx mA) : ∃ od, h.get? dx = some od ∧ ∀ name, PySem.W.lookIn name od = some (mA name) := by
  obtain ⟨o, es, ep, ho, hd, hk, _, hm⟩ := n
  refine ⟨o, ho, fun name => ?_⟩
  have e := hm name
  unfold nsFind findBy at e
  rw [← Array.find?_toList] at e
  unfold PySem.W.lookIn
  rw [hd]
  dsimp only
  split
  · rename_i y q
    rw [q] at e
    exact congrArg some e
  · rename_i q
    rw [q] at e
    have a : es.toList.any (·.refKey) = false := by
      rw [List.any_eq_false]
      intro y hy
      obtain ⟨z, t, hkey⟩ := hk y (Array.mem_toList_iff.mp hy)
      simp [DictEntry.refKey, hkey]
    have a' : ¬ es.toList.any (·.refKey) = true := by rw [a]; exact Bool.false_ne_true
    rw [if_neg a']
    exact congrArg some e

theorem ObjM.look {h : Heap} {x dx C : Addr} {mA : Str → Option Value} (I : ObjM h x dx C mA) : ∃ od, PySem.W.InstAt h x (PySem.W.instObj C dx) C (some od) ∧ ∀ name, PySem.W.lookIn name od = some (mA name) :=
  let ⟨od, ho, hl⟩ := lookIn_ns I.ns
  ⟨od, ⟨I.obj, rfl, rfl, ho⟩, hl⟩

section
variable {prog : Program} {w : World} {A : Around} {E : Value → Shared → Prop} {s : Shared} {K : PySem.W.Frag} {x dx C f : Addr} {mA : Str → Option Value} {name : Str} {v : Value}

theorem get_map {expr : Bool} {Q : Value → Shared → Prop} (X : K.In s.heap) (I : ObjM s.heap x dx C mA) (hg : PySem.W.plainGet K C name = true) (hh : PySem.W.hasDictIn K C = true)
    (ha : PySem.W.findIn K (.ref C) name = some none) (hv : mA name = some v) (hv' : PySem.W.handedIn v = true) (h : Q v { s with toks := s.toks + 1 }) :
    wpAny (model prog w) A (getAttr (.ref x) name expr) Q E s := by
  obtain ⟨od, J, hl⟩ := I.look
  exact PySem.W.get_value X J (PySem.W.plainGet_of hg).1 (PySem.W.findObj_own hh ha rfl (by rw [hl, hv])) hv' h

theorem get_const {expr : Bool} {a : Value} {Q : Value → Shared → Prop} (X : K.In s.heap) (I : ObjM s.heap x dx C mA) (hg : PySem.W.plainGet K C name = true) (hh : PySem.W.hasDictIn K C = true)
    (ha : PySem.W.findIn K (.ref C) name = some (some a)) (hn : PySem.W.specialIn K a "__get__" = some none) (hc : PySem.W.copiedNames.contains name = false) (hv : mA name = none) (hv' : PySem.W.handedIn a = true)
    (h : Q a { s with toks := s.toks + 1 }) : wpAny (model prog w) A (getAttr (.ref x) name expr) Q E s := by
  obtain ⟨od, J, hl⟩ := I.look
  exact PySem.W.get_value X J (PySem.W.plainGet_of hg).1 (PySem.W.findObj_cls hh ha hn hv' hc (by rw [hl, hv])) hv' h

theorem get_meth {pl : Sem Bool} {Q : Value × List Value → Shared → Prop} (X : K.In s.heap) (I : ObjM s.heap x dx C mA) (hg : PySem.W.plainGet K C name = true)
    (hf : PySem.W.findIn K (.ref C) name = some (some (.ref f))) (ht : PySem.W.isFn K (.ref f) = true) (hv : mA name = none) (h : Q (.ref f, [.ref x]) s) :
    wpAny (model prog w) A (getMethod (.ref x) name pl) Q E s := by
  obtain ⟨od, J, hl⟩ := I.look
  exact PySem.W.method_fn X J (PySem.W.plainGet_of hg).1 (PySem.W.plainGet_of hg).2 hf (beq_iff_eq.mp ht) (by show (PySem.W.lookIn name od).map (·.isSome) = some false; rw [hl, hv]; rfl) h

theorem set_map {ns : List Str} {Q : Unit → Shared → Prop} (X : K.In s.heap) (I : ObjM s.heap x dx C mA)
    (hs : PySem.W.findIn K (.ref C) "__setattr__" = some (some (.builtin "object.__setattr__"))) (hp : PySem.W.plainOver K C = true) (ht : PySem.W.takerIn K C name = some none) (hh : PySem.W.hasDictIn K C = true)
    (hw : PySem.Within mA ns) (hsz : ns.length ≤ sizeLine)
    (h : ∀ h', ObjM h' x dx C (fun y => if y = name then some v else mA y) → Heap.SameBut dx s.heap h' → Q () { s with heap := h', toks := s.toks + 2 }) :
    wpAny (model prog w) A (setAttr (.ref x) name v) Q E s := by
  obtain ⟨od, J, hl⟩ := I.look
  refine PySem.W.set_plain X J hs (PySem.W.osa_open (s := { s with toks := s.toks + 1 }) (r := none) X J hp ht fun b => ?_)
  obtain ⟨cd, hc, hd'⟩ := PySem.W.any_some hh
  have hx : s.heap.get? x = some ⟨.ref C, some dx, .plain, #[]⟩ := I.obj
  refine wpAny_bind (wpAny_pure (wpAny_bind (wpAny_bind (wpAny_loadPart hx (wpAny_bind (PySem.W.Looks.here (s := { s with toks := s.toks + 1 }) (PySem.W.looks_clsIn X hc) ?_))))))
  rw [hd']
  refine wpAny_pure (a := some dx) (wpAny_bind (wpAny_pure (wpAny_bind ?_)))
  refine wpAny_nsSet1 (s := { s with toks := s.toks + 1 }) I.ns fun h' hn2 hs2 => ?_
  obtain ⟨oD, esD, epD, hoD, hdD, hcD⟩ := hn2.count (PySem.Within.cons name v hw)
  refine wpAny_bind (wpAny_lookBehind hoD (by rw [hdD]; exact pastItsLine_dict (Nat.le_trans hcD (by rw [List.length_cons]; omega))) ?_)
  exact wpAny_pure (h _ ⟨(hs2.2 _ (Ne.symm I.ne)).trans I.obj, hn2, I.ne⟩ hs2)

/-- C(..): the dict at the heap's end, the instance behind it; then its __init__ -/
theorem make_map {R : Result → Shared → Prop} {vs : List Value} {kw : List (Str × Value)} (X : K.In s.heap) (hm : PySem.W.makesIn K C = true)
    (hi : PySem.W.findIn K (.ref C) "__init__" = some (some (.ref f))) (hf : PySem.W.typeIn K (.ref f) = some (.type "function"))
    (h : codeAny (model prog w) (A.under (.builtin "type.__call__" ⟨.ref C :: vs, kw⟩)) (.call (.ref f) ⟨.ref (s.heap.objs.size + 1) :: vs, kw⟩) (PySem.W.InitBack (s.heap.objs.size + 1) R)
      { s with heap := (s.heap.push PySem.W.emptyDict).push (PySem.W.instObj C s.heap.objs.size) }) :
    codeAny (model prog w) A (.call (.ref C) ⟨vs, kw⟩) R s := by
  obtain ⟨hh, g, d, t, os⟩ := s
  exact PySem.W.make_core (PySem.W.makes_of X hm) (PySem.W.looks_findIn X hi) (fun self => PySem.W.bind_fn X self hf) (.inl rfl) h
/-- C() where there is no __init__ but object's -/
theorem make_map0 {R : Result → Shared → Prop} (X : K.In s.heap) (hm : PySem.W.makesIn K C = true)
    (hi : PySem.W.findIn K (.ref C) "__init__" = some (some (.builtin "object.__init__")))
    (hb : ∀ self, PySem.W.Looks (model prog w) s.heap (bindSpecial (.builtin "object.__init__") self) (.builtin "object.__init__", [self]))
    (h : codeAny (model prog w) (A.under (.builtin "type.__call__" ⟨[.ref C], []⟩)) (.call (.builtin "object.__init__") ⟨[.ref (s.heap.objs.size + 1)], []⟩) (PySem.W.InitBack (s.heap.objs.size + 1) R)
      { s with heap := (s.heap.push PySem.W.emptyDict).push (PySem.W.instObj C s.heap.objs.size) }) :
    codeAny (model prog w) A (.call (.ref C) ⟨[], []⟩) R s := by
  obtain ⟨hh, g, d, t, os⟩ := s
  exact PySem.W.make_core (PySem.W.makes_of X hm) (PySem.W.looks_findIn X hi) hb (.inr ⟨rfl, rfl⟩) h
end

/-! ### the attributes as a list of pairs -/
def putF (f : Str) (v : V) : List (Str × V) → List (Str × V)
  | [] => [(f, v)]
  | (g, x) :: r => if g = f then (g, v) :: r else (g, x) :: putF f v r
theorem lookup_putF (f g : Str) (v : V) : ∀ fs : List (Str × V), (putF f v fs).lookup g = if g = f then some v else fs.lookup g
  | [] => by
    show List.lookup g [(f, v)] = _
    by_cases h : g = f
    · have hb : (g == f) = true := beq_iff_eq.mpr h
      simp only [List.lookup, hb, if_pos h]
    · have hb : (g == f) = false := beq_eq_false_iff_ne.mpr h
      simp only [List.lookup, hb, if_neg h]
  | (k, x) :: r => by
    have ih := lookup_putF f g v r
    rw [show putF f v ((k, x) :: r) = (if k = f then (k, v) :: r else (k, x) :: putF f v r) from rfl]
    by_cases hk : k = f
    · rw [if_pos hk]
      by_cases h : g = k
      · have hb : (g == k) = true := beq_iff_eq.mpr h
        simp only [List.lookup, hb, if_pos (h.trans hk)]
      · have hb : (g == k) = false := beq_eq_false_iff_ne.mpr h
        simp only [List.lookup, hb, if_neg (fun e : g = f => h (e.trans hk.symm))]
    · rw [if_neg hk]
      by_cases h : g = k
      · have hb : (g == k) = true := beq_iff_eq.mpr h
        simp only [List.lookup, hb, if_neg (fun e : g = f => hk (h.symm.trans e))]
      · have hb : (g == k) = false := beq_eq_false_iff_ne.mpr h
        simp only [List.lookup, hb]
        exact ih
theorem keys_putF (f : Str) (v : V) : ∀ fs : List (Str × V), f ∈ (putF f v fs).map (·.1) ∧ ∀ g, g ∈ fs.map (·.1) → g ∈ (putF f v fs).map (·.1)
  | [] => ⟨by simp [putF], fun g h => by simp at h⟩
  | (k, x) :: r => by
    obtain ⟨i1, i2⟩ := keys_putF f v r
    rw [show putF f v ((k, x) :: r) = (if k = f then (k, v) :: r else (k, x) :: putF f v r) from rfl]
    by_cases hk : k = f
    · rw [if_pos hk]
      subst hk
      exact ⟨by simp, fun g h => by simpa using h⟩
    · rw [if_neg hk]
      refine ⟨?_, fun g h => ?_⟩
      · rw [List.map_cons]
        exact List.mem_cons_of_mem _ i1
      · rw [List.map_cons] at h ⊢
        rcases List.mem_cons.mp h with e | e
        · exact List.mem_cons.mpr (.inl e)
        · exact List.mem_cons_of_mem _ (i2 g e)
theorem length_putF (f : Str) (v : V) : ∀ fs : List (Str × V), (putF f v fs).length ≤ fs.length + 1
  | [] => by simp [putF]
  | (k, x) :: r => by
    have ih := length_putF f v r
    rw [show putF f v ((k, x) :: r) = (if k = f then (k, v) :: r else (k, x) :: putF f v r) from rfl]
    by_cases hk : k = f
    · rw [if_pos hk, List.length_cons, List.length_cons]; omega
    · rw [if_neg hk, List.length_cons, List.length_cons]; omega

theorem RelO.some_of {v : V} {o : Option Value} (r : RelO (some v) o) : ∃ u, o = some u ∧ RelV v u := by
  cases o with
  | none => exact (show False from r).elim
  | some u => exact ⟨u, rfl, r⟩
theorem RelO.none_of {o : Option Value} (r : RelO none o) : o = none := by
  cases o with
  | none => rfl
  | some u => exact (show False from r).elim
theorem handed_of {v : V} {u : Value} (r : RelV v u) : PySem.W.handedIn u = true := by
  cases v with
  | non => cases (show u = Value.none from r); rfl
  | bl b => cases (show u = Value.bool b from r); rfl
  | int i => obtain ⟨t, e⟩ := (show ∃ t, u = Value.int i t from r); cases e; rfl
  | str x => obtain ⟨t, e⟩ := (show ∃ t, u = Value.str x t from r); cases e; rfl
  | byt b => obtain ⟨t, e⟩ := (show ∃ t, u = Value.bytes b t from r); cases e; rfl
  | flt b => obtain ⟨t, e⟩ := (show ∃ t, u = Value.float b t from r); cases e; rfl
  | ref a => cases (show u = Value.ref a from r); rfl
  | ty n => cases (show u = Value.type n from r); rfl

section
variable {P : Program} {w : World} {H H' : Hp} {h h' : Heap} {a C dx : Addr} {fs fs' : List (Str × V)}
theorem ins_get (hok : HOk P w H h) (e : H a = some (.ins C dx fs)) : ∃ mA, ObjM h a dx C mA ∧ (∀ f, RelO (fs.lookup f) (mA f)) ∧ PySem.Within mA (fs.map (·.1)) ∧ fs.length ≤ 1000 ∧ H dx = some (.own a) := by
  obtain ⟨d, z, ne, ob, mA, n, r, q⟩ := (show ObjOk P w H h a (.ins C dx fs) from hok a _ e)
  exact ⟨mA, ⟨ob, n, ne⟩, r, q, z, d⟩
end

/-! ### what of the text a class must have -/
structure Cls (K : PySem.W.Frag) (C : Addr) : Prop where
  pg : PySem.W.plainGet K C Str.empty = true
  hd : PySem.W.hasDictIn K C = true
  po : PySem.W.plainOver K C = true
  sa : PySem.W.findIn K (.ref C) "__setattr__" = some (some (.builtin "object.__setattr__"))
theorem Cls.get {K : PySem.W.Frag} {C : Addr} (c : Cls K C) (f : Str) : PySem.W.plainGet K C f = true := c.pg
/-- no class of it has the name -/
def NoAttr (K : PySem.W.Frag) (C : Addr) (f : Str) : Prop := PySem.W.findIn K (.ref C) f = some none
theorem NoAttr.taker {K : PySem.W.Frag} {C : Addr} {f : Str} (n : NoAttr K C f) : PySem.W.takerIn K C f = some none := by
  unfold PySem.W.takerIn
  rw [show PySem.W.findIn K (.ref C) f = some none from n]
  rfl
/-- a constant of the class -/
structure Con (K : PySem.W.Frag) (C : Addr) (f : Str) (v : V) (u : Value) : Prop where
  at_ : PySem.W.findIn K (.ref C) f = some (some u)
  rel : RelV v u
  get : PySem.W.specialIn K u "__get__" = some none
  cp : PySem.W.copiedNames.contains f = false
/-- a method: a plain def of the class or of one above it -/
structure Meth (K : PySem.W.Frag) (C : Addr) (m : Str) (f : Addr) : Prop where
  at_ : PySem.W.findIn K (.ref C) m = some (some (.ref f))
  fn : PySem.W.isFn K (.ref f) = true
  kp : PySem.W.keepIn K (.ref f) = true

section
variable {X : Cx} {pins : List (Addr × Obj)} {σ : St} {H : Hp} {s : Shared} {a C dx : Addr} {fs : List (Str × V)} {f : Str} {v : V} {A : Around} {E : Value → Shared → Prop}

theorem getattr_ok {b : Bool} {Q : Value → Shared → Prop} (I : Inv X pins σ H s) (e : H a = some (.ins C dx fs)) (c : Cls X.K C) (n : NoAttr X.K C f) (l : fs.lookup f = some v)
    (h : ∀ u s', Inv X pins σ H s' → RelV v u → Q u s') : wpAny (model X.prog X.w) A (getAttr (.ref a) f b) Q E s := by
  obtain ⟨mA, O, r, _, _, _⟩ := ins_get I.hok e
  obtain ⟨u, hu, ru⟩ := RelO.some_of (v := v) (o := mA f) (by rw [← l]; exact r f)
  exact get_map I.kIn O (c.get f) c.hd n hu (handed_of ru) (h u _ (I.tok _) ru)

theorem getcon_ok {b : Bool} {u : Value} {Q : Value → Shared → Prop} (I : Inv X pins σ H s) (e : H a = some (.ins C dx fs)) (c : Cls X.K C) (k : Con X.K C f v u) (l : fs.lookup f = none)
    (h : ∀ s', Inv X pins σ H s' → Q u s') : wpAny (model X.prog X.w) A (getAttr (.ref a) f b) Q E s := by
  obtain ⟨mA, O, r, _, _, _⟩ := ins_get I.hok e
  have hn : mA f = none := RelO.none_of (by rw [← l]; exact r f)
  exact get_const I.kIn O (c.get f) c.hd k.at_ k.get k.cp hn (handed_of k.rel) (h _ (I.tok _))

theorem getmeth_ok {m : Str} {g : Addr} {pl : Sem Bool} {Q : Value × List Value → Shared → Prop} (I : Inv X pins σ H s) (e : H a = some (.ins C dx fs)) (c : Cls X.K C) (k : Meth X.K C m g) (l : fs.lookup m = none)
    (h : Q (.ref g, [.ref a]) s) : wpAny (model X.prog X.w) A (getMethod (.ref a) m pl) Q E s := by
  obtain ⟨mA, O, r, _, _, _⟩ := ins_get I.hok e
  have hn : mA m = none := RelO.none_of (by rw [← l]; exact r m)
  exact get_meth I.kIn O (c.get m) k.at_ k.fn hn h

theorem setattr_ok {y : V} {u : Value} {Q : Unit → Shared → Prop} (I : Inv X pins σ H s) (e : H a = some (.ins C dx fs)) (c : Cls X.K C) (n : NoAttr X.K C f) (hl : fs.length < 1000) (ry : RelV y u)
    (h : ∀ s', Inv X pins σ (upd H a (.ins C dx (putF f y fs))) s' → Q () s') : wpAny (model X.prog X.w) A (setAttr (.ref a) f u) Q E s := by
  obtain ⟨mA, O, r, wi, _, ho⟩ := ins_get I.hok e
  have hz : (fs.map (·.1)).length ≤ sizeLine := by rw [List.length_map, sizeLine_eq]; omega
  refine set_map I.kIn O c.sa c.po n.taker c.hd wi hz fun h' O' sb => h _ ?_
  have hd : ∃ o, h'.get? dx = some o := let ⟨o, _, _, e', _⟩ := O'.ns; ⟨o, e'⟩
  refine I.write (x := a) (e := dx) (by rw [e]; exact True.intro) (.inr ho) (fun b q hb z => (sb.2 b hb).trans z) hd ?_
  refine ⟨by rw [upd_ne O.ne]; exact ho, ?_, O.ne, O'.obj, _, O'.ns, fun g => ?_, fun g hg => ?_⟩
  · have := length_putF f y fs; omega
  · show RelO ((putF f y fs).lookup g) (if g = f then some u else mA g)
    rw [lookup_putF]
    by_cases q : g = f
    · rw [if_pos q, if_pos q]; exact ry
    · rw [if_neg q, if_neg q]; exact r g
  · by_cases q : g = f
    · rw [q]; exact (keys_putF f y fs).1
    · refine (keys_putF f y fs).2 g (wi g fun z => hg ?_)
      show (if g = f then some u else mA g) = none
      rw [if_neg q]; exact z

/-- a new instance, tracked, without attributes -/
theorem Inv.made (I : Inv X pins σ H s) : Inv X pins σ (upd (upd H s.heap.objs.size (.own (s.heap.objs.size + 1))) (s.heap.objs.size + 1) (.ins C s.heap.objs.size []))
    { s with heap := (s.heap.push PySem.W.emptyDict).push (PySem.W.instObj C s.heap.objs.size) } := by
  have e1 : (s.heap.push PySem.W.emptyDict).get? s.heap.objs.size = some PySem.W.emptyDict := Heap.get?_push_size s.heap rfl
  have e2 : ((s.heap.push PySem.W.emptyDict).push (PySem.W.instObj C s.heap.objs.size)).get? (s.heap.objs.size + 1) = some (PySem.W.instObj C s.heap.objs.size) := by
    have := Heap.get?_push_size (s.heap.push PySem.W.emptyDict) (o := PySem.W.instObj C s.heap.objs.size) rfl
    rwa [Heap.size_push] at this
  have e3 : (s.heap.push PySem.W.emptyDict).Ns s.heap.objs.size (fun _ => none) := ⟨PySem.W.emptyDict, #[], _, e1, rfl, (fun e he => absurd he (by simp)), fun _ => rfl⟩
  have I1 := I.laid (a := s.heap.objs.size) (o := .own (s.heap.objs.size + 1)) (h' := s.heap.push PySem.W.emptyDict) (t' := s.toks) (fun b u q => Heap.get?_push_of_some _ q) (Nat.le_refl _) ⟨_, e1⟩
  refine I1.laid (a := s.heap.objs.size + 1) (o := .ins C s.heap.objs.size []) (t' := s.toks) (fun b u q => Heap.get?_push_of_some _ q) (Nat.le_of_eq (Heap.size_push _ _)) ?_
  have ne : s.heap.objs.size ≠ s.heap.objs.size + 1 := Nat.ne_of_lt (Nat.lt_succ_self _)
  refine ⟨by rw [upd_ne ne, upd_same], Nat.zero_le _, ne, e2, fun _ => none, (Heap.Ns1.of_empty e3).at fun o q => Heap.get?_push_of_some _ q, fun _ => True.intro, fun y hy => absurd rfl hy⟩

/-- e.f where nothing but the object is asked: through attributeBase (super) and the last hold -/
theorem attr_of {prog : Program} {w : World} {env : Env} {e : Expr} {f : Str} {pos : Pos} {s : Shared} {Q : Value → Shared → Prop} (hb : attributeBase e f env (eval e env) = eval e env)
    (h : wpAny (model prog w) A (eval e env) (fun o s₁ => wpAny (model prog w) A (getAttr o f true) Q E s₁) E s) : wpAny (model prog w) A (eval (.Attribute e f pos) env) Q E s :=
  Attribute_any_ h (by rw [arm_eval_Attribute, hb])
end

/-! ### readings and rules -/
/-- e.f, an attribute of the instance -/
def tFld (K : PySem.W.Frag) (ta : TE) (f : Str) : TE := fun σ H Q => ta σ H fun x H1 => ∃ a C dx fs v, x = .ref a ∧ H1 a = some (.ins C dx fs) ∧ Cls K C ∧ NoAttr K C f ∧ fs.lookup f = some v ∧ Q v H1
/-- e.f, a constant of the class -/
def tCon (K : PySem.W.Frag) (ta : TE) (f : Str) : TE := fun σ H Q => ta σ H fun x H1 => ∃ a C dx fs v u, x = .ref a ∧ H1 a = some (.ins C dx fs) ∧ Cls K C ∧ Con K C f v u ∧ fs.lookup f = none ∧ Q v H1
/-- e.f = value -/
def sFld (K : PySem.W.Frag) (ta tv : TE) (f : Str) : TS := fun D σ H => tv σ H fun y H1 => ta σ H1 fun x H2 => ∃ a C dx fs, x = .ref a ∧ H2 a = some (.ins C dx fs) ∧ Cls K C ∧ NoAttr K C f ∧ fs.length < 1000 ∧
  D.nx σ (upd H2 a (.ins C dx (putF f y fs)))
/-- an augmented operator on two values -/
def InOp (X : Cx) (op : Operator) (rd : V → V → Hp → VK → Prop) : Prop :=
  ∀ (pins : List (Addr × Obj)) (s : Shared) (σ : St) (H : Hp) (x y : V) (u v : Value) (Q : VK), Inv X pins σ H s → RelV x u → RelV y v → rd x y H Q → wpAny (model X.prog X.w) X.A (inplaceOp op u v) (EP X pins σ Q) X.xe s
/-- e.f op= value -/
def sFldAug (K : PySem.W.Frag) (ta tv : TE) (rd : V → V → Hp → VK → Prop) (f : Str) : TS := fun D σ H => ta σ H fun x H1 => ∃ a C dx fs v, x = .ref a ∧ H1 a = some (.ins C dx fs) ∧ Cls K C ∧ NoAttr K C f ∧ fs.lookup f = some v ∧
  tv σ H1 fun y H2 => rd v y H2 fun z H3 => ∃ dx' fs', H3 a = some (.ins C dx' fs') ∧ fs'.length < 1000 ∧ D.nx σ (upd H3 a (.ins C dx' (putF f z fs')))

section
variable {X : Cx} {o e value : Expr} {f : Str} {pos pos' tpos : Pos} {ta tv : TE}
theorem pe_fld (he : PE X e ta) (hb : attributeBase e f X.env (eval e X.env) = eval e X.env) : PE X (.Attribute e f pos) (tFld X.K ta f) := by
  intro pins s σ H Q I h
  refine attr_of hb (thn (he pins s σ H _ I h) fun u s1 ⟨x, H1, I1, rx, a, C, dx, fs, v, ex, ea, c, n, l, q⟩ => ?_)
  subst ex
  obtain rfl : u = Value.ref a := rx
  exact getattr_ok I1 ea c n l fun u' s2 I2 ru => ⟨v, H1, I2, ru, q⟩
theorem pe_con (he : PE X e ta) (hb : attributeBase e f X.env (eval e X.env) = eval e X.env) : PE X (.Attribute e f pos) (tCon X.K ta f) := by
  intro pins s σ H Q I h
  refine attr_of hb (thn (he pins s σ H _ I h) fun u s1 ⟨x, H1, I1, rx, a, C, dx, fs, v, u0, ex, ea, c, k, l, q⟩ => ?_)
  subst ex
  obtain rfl : u = Value.ref a := rx
  exact getcon_ok I1 ea c k l fun s2 I2 => ⟨v, H1, I2, k.rel, q⟩
theorem ps_fld (ha : PE X o ta) (hv : PE X value tv) (hs : swapsWith value (some (.Attribute o f pos')) pos.line X.env = pure false) : PS X (.Assign [.Attribute o f pos'] value pos) (sFld X.K ta tv f) := by
  intro pins s σ H D I h
  refine plainObj_wpAny_Assign_Attribute (thn (hv pins s σ H _ I h) fun u s1 ⟨y, H1, I1, ry, q⟩ => thn (ha pins s1 σ H1 _ I1 q) fun ov s2 ⟨x, H2, I2, rx, a, C, dx, fs, ex, ea, c, n, l, q2⟩ => ?_) hs
  subst ex
  obtain rfl : ov = Value.ref a := rx
  exact setattr_ok I2 ea c n l ry fun s3 I3 => ⟨σ, _, I3, q2⟩
theorem ps_fldaug {op : Operator} {rd : V → V → Hp → VK → Prop} (ha : PE X o ta) (hv : PE X value tv) (hop : InOp X op rd) : PS X (.AugAssign (.Attribute o f tpos) op value pos) (sFldAug X.K ta tv rd f) := by
  intro pins s σ H D I h
  refine wpAny_AugAssign_AttributeAny (thn (ha pins s σ H _ I h) fun ov s1 ⟨x, H1, I1, rx, a, C, dx, fs, v, ex, ea, c, n, l, q⟩ => ?_)
  subst ex
  obtain rfl : ov = Value.ref a := rx
  refine getattr_ok I1 ea c n l fun u s2 I2 ru => thn (hv pins s2 σ H1 _ I2 q) fun w3 s3 ⟨y, H2, I3, ry, q3⟩ => thn (hop pins s3 σ H2 v y u w3 _ I3 ru ry q3) fun w4 s4 ⟨z, H3, I4, rz, dx', fs', ea', l', q4⟩ => ?_
  exact setattr_ok I4 ea' c n l' rz fun s5 I5 => ⟨σ, _, I5, q4⟩
def rAdd : V → V → Hp → VK → Prop := fun x y H Q => ∃ i j, x = .int i ∧ y = .int j ∧ Q (.int (i + j)) H
def rSub : V → V → Hp → VK → Prop := fun x y H Q => ∃ i j, x = .int i ∧ y = .int j ∧ Q (.int (i - j)) H
theorem in_add : InOp X .Add rAdd := by
  rintro pins s σ H x y u v Q I rx ry ⟨i, j, rfl, rfl, q⟩
  obtain ⟨t, rfl⟩ := (show ∃ t, u = Value.int i t from rx)
  obtain ⟨t', rfl⟩ := (show ∃ t', v = Value.int j t' from ry)
  exact PyProof.Rows.iadd_int ⟨.int (i + j), H, I.tok _, ⟨_, rfl⟩, q⟩
theorem in_sub : InOp X .Sub rSub := by
  rintro pins s σ H x y u v Q I rx ry ⟨i, j, rfl, rfl, q⟩
  obtain ⟨t, rfl⟩ := (show ∃ t, u = Value.int i t from rx)
  obtain ⟨t', rfl⟩ := (show ∃ t', v = Value.int j t' from ry)
  exact PyProof.Rows.isub_int ⟨.int (i - j), H, I.tok _, ⟨_, rfl⟩, q⟩

/-- what is between an instance and its method: the tree of a method call -/
theorem methcall_of {pl : Sem Bool} {m : Str} {apos : Pos} {args : List Expr} {pins : List (Addr × Obj)} {s : Shared} {σ : St} {H : Hp} {Q : Value → Shared → Prop} {te : TE} (he : PE X e te) (I : Inv X pins σ H s)
    (h : te σ H fun x H1 => ∃ a C dx fs g, x = .ref a ∧ H1 a = some (.ins C dx fs) ∧ Cls X.K C ∧ Meth X.K C m g ∧ fs.lookup m = none ∧
      ∀ s1, Inv X pins σ H1 s1 → wpAny (model X.prog X.w) X.A (callWith pos (.ref g) [.ref a] (backTo pos (starEach args X.env)) (backToKw pos (keywordEach [] X.env))) Q X.xe s1)
    (ht : eval (.Call (.Attribute e m apos) args [] pos) X.env = (do
      let ov ← eval e X.env
      standAt apos.atName
      let (f, first) ← holding [ov] (getMethod ov m pl)
      callWith pos f first (backTo pos (starEach args X.env)) (backToKw pos (keywordEach [] X.env)))) :
    wpAny (model X.prog X.w) X.A (eval (.Call (.Attribute e m apos) args [] pos) X.env) Q X.xe s := by
  refine PySem.W.methodCall_KW (pl := pl) (thn (he pins s σ H _ I h) fun u s1 ⟨x, H1, I1, rx, a, C, dx, fs, g, ex, ea, c, k, l, q⟩ => ?_) ht
  subst ex
  obtain rfl : u = Value.ref a := rx
  exact getmeth_ok I1 ea c k l (q s1 I1)
end

/-! ### isinstance -/
section
variable {X : Cx} {pins : List (Addr × Obj)} {σ : St} {H : Hp} {s : Shared} {A : Around} {E : Value → Shared → Prop} {Q : Value → Shared → Prop} {c : Value} {b : Bool}
/-- the type of a value, as the fragment's deciders take it; for an instance its class -/
inductive TyOf (K : PySem.W.Frag) (H : Hp) : V → Value → Prop where
  | non : TyOf K H .non (.type "NoneType")
  | bl (x : Bool) : TyOf K H (.bl x) (.type "bool")
  | int (i : Int) : TyOf K H (.int i) (.type "int")
  | str (x : Str) : TyOf K H (.str x) (.type "str")
  | flt (x : UInt64) : TyOf K H (.flt x) (.type "float")
  | lst {a : Addr} {xs : List V} (e : H a = some (.lst xs)) : TyOf K H (.ref a) (.type "list")
  | frz {a : Addr} {o : Obj} {xs : List V} (e : H a = some (.frz o (.lst xs))) : TyOf K H (.ref a) (.type "list")
  | tup {a : Addr} {xs : List V} (e : H a = some (.tup xs)) : TyOf K H (.ref a) (.type "tuple")
  | dK {a : Addr} {kvs : List (Key × V)} (e : H a = some (.dK kvs)) : TyOf K H (.ref a) (.type "dict")
  | dT {a : Addr} {kvs : List (List Key × V)} (e : H a = some (.dT kvs)) : TyOf K H (.ref a) (.type "dict")
  | ins {a C dx : Addr} {fs : List (Str × V)} (e : H a = some (.ins C dx fs)) (cl : Cls K C) (ha : PySem.W.findIn K (.ref C) "__class__" = some (some (.builtin "object.__class__")))
      (hn : PySem.W.specialIn K (.builtin "object.__class__") "__get__" = some (some (.builtin "getset_descriptor.__get__"))) (htk : PySem.W.takesIn K (.builtin "object.__class__") = some true)
      (hm : PySem.W.mroIn K C (.type "object") = some true) : TyOf K H (.ref a) (.ref C)
/-- isinstance(x, c) for one class c, a built-in or an own one: kitOne's answer -/
theorem isinst_ok {x : V} {u t : Value} (I : Inv X pins σ H s) (rx : RelV x u) (ty : TyOf X.K H x t) (e : PySem.W.kitOne X.K t c = some b) (h : ∀ tk, Q (.bool b) { s with toks := tk }) :
    wpAny (model X.prog X.w) A (call (.builtin "isinstance") [u, c]) Q E s := by
  cases ty with
  | non => cases (show u = Value.none from rx); exact PySem.W.kia_one PySem.W.kitx_none I.kIn True.intro e (fun z => nomatch z) h
  | bl y => cases (show u = Value.bool y from rx); exact PySem.W.kia_one PySem.W.kitx_bool I.kIn True.intro e (fun z => nomatch z) h
  | int i => obtain ⟨t, q⟩ := (show ∃ t, u = Value.int i t from rx); cases q; exact PySem.W.kia_one PySem.W.kitx_int I.kIn True.intro e (fun z => nomatch z) h
  | str y => obtain ⟨t, q⟩ := (show ∃ t, u = Value.str y t from rx); cases q; exact PySem.W.kia_one PySem.W.kitx_str I.kIn True.intro e (fun z => nomatch z) h
  | flt y => obtain ⟨t, q⟩ := (show ∃ t, u = Value.float y t from rx); cases q; exact PySem.W.kia_one PySem.W.kitx_float I.kIn True.intro e (fun z => nomatch z) h
  | @lst a xs ea =>
    cases (show u = Value.ref a from rx)
    obtain ⟨_, _, n, _, h1⟩ := (show ObjOk X.prog X.w H s.heap a (.lst xs) from I.hok a _ ea)
    exact PySem.W.kia_one PySem.W.kitx_list I.kIn ⟨_, h1, rfl⟩ e (fun z => nomatch z) h
  | @frz a ob xs ea =>
    cases (show u = Value.ref a from rx)
    obtain ⟨_, _, _, n, _, h1⟩ := (show ObjOk X.prog X.w H s.heap a (.frz ob (.lst xs)) from I.hok a _ ea)
    exact PySem.W.kia_one PySem.W.kitx_list I.kIn ⟨_, h1, rfl⟩ e (fun z => nomatch z) h
  | @tup a xs ea =>
    cases (show u = Value.ref a from rx)
    obtain ⟨_, _, _, p⟩ := (show ObjOk X.prog X.w H s.heap a (.tup xs) from I.hok a _ ea)
    obtain ⟨o, h1, h2, _⟩ := p
    exact PySem.W.kia_one PySem.W.kitx_tuple I.kIn ⟨o, h1, h2⟩ e (fun z => nomatch z) h
  | @dK a kvs ea =>
    cases (show u = Value.ref a from rx)
    obtain ⟨_, _, vs, _, p⟩ := (show ObjOk X.prog X.w H s.heap a (.dK kvs) from I.hok a _ ea)
    obtain ⟨o, es, ep, h1, h2, _⟩ := p
    exact PySem.W.kia_one PySem.W.kitx_dict I.kIn ⟨o, h1, h2.1⟩ e (fun z => nomatch z) h
  | @dT a kvs ea =>
    cases (show u = Value.ref a from rx)
    obtain ⟨_, _, xs, _, o, es, ep, h1, h2, _⟩ := (show ObjOk X.prog X.w H s.heap a (.dT kvs) from I.hok a _ ea)
    exact PySem.W.kia_one PySem.W.kitx_dict I.kIn ⟨o, h1, h2.1⟩ e (fun z => nomatch z) h
  | @ins a C dx fs ea cl ha hn htk hm =>
    cases (show u = Value.ref a from rx)
    obtain ⟨mA, O, _⟩ := ins_get I.hok ea
    obtain ⟨od, J, _⟩ := O.look
    exact PySem.W.kia_one (PySem.W.kitx_own (cl.get _) cl.hd ha hn htk hm) I.kIn J e (fun z => nomatch z) h
end
end L2

namespace L2
open PySem PySem.Spec PyProof.Rows

/-! ### room -/
structure Room (k : Nat) (A : Around) : Prop where
  hd : A.handled = none
  dp : A.depth + 3 * k + 5 < recursionLimit
  un : A.units + 16 * k + 200 < cLine
theorem Room.mono {j k : Nat} {A : Around} (r : Room k A) (h : j ≤ k) : Room j A := ⟨r.hd, by have := r.dp; omega, by have := r.un; omega⟩
theorem Room.deeper {k : Nat} {A : Around} (r : Room (k + 1) A) (env : Env) : Room k (A.deeper env) :=
  ⟨r.hd, by have := r.dp; show A.depth + 1 + 3 * k + 5 < _; omega, by have := r.un; show A.units + 3 + 16 * k + 200 < _; omega⟩
theorem Room.in1 {k : Nat} {A : Around} (r : Room (k + 1) A) : Room k A.in1 :=
  ⟨r.hd, by have := r.dp; show A.depth + 3 * k + 5 < _; omega, by have := r.un; show A.units + 1 + 16 * k + 200 < _; omega⟩
theorem make_depth {A : Around} {C : Addr} {us : List Value} {kw : List (Str × Value)} : (A.under (.builtin "type.__call__" ⟨.ref C :: us, kw⟩)).depth = A.depth + 1 := by
  first | rfl | simp [Around.under, Code.weight, Code.isCreation, Code.isGuard, Code.isCaller, Code.frames, Code.isFrame, guardIds]
theorem make_units {A : Around} {C : Addr} {us : List Value} {kw : List (Str × Value)} : (A.under (.builtin "type.__call__" ⟨.ref C :: us, kw⟩)).units = A.units + 1 := by
  first | rfl | simp [Around.under, Code.cUnits, Code.frames, Code.isFrame]
theorem Room.make {k : Nat} {A : Around} (r : Room (k + 1) A) (C : Addr) (us : List Value) (kw : List (Str × Value)) : Room k (A.under (.builtin "type.__call__" ⟨.ref C :: us, kw⟩)) :=
  ⟨r.hd, by have := r.dp; rw [make_depth]; omega, by have := r.un; rw [make_units]; omega⟩
theorem Room.depth {k : Nat} {A : Around} (r : Room k A) : A.depth < recursionLimit := by have := r.dp; omega
theorem Room.units {k : Nat} {A : Around} (r : Room k A) : A.units + 64 < cLine := by have := r.un; omega
theorem Room.units0 {k : Nat} {A : Around} (r : Room k A) : A.units < cLine := by have := r.un; omega

/-! ### argument lists and displays -/
def tNil : TA := fun _ H Q => Q [] H
def tCons (ta : TE) (tr : TA) : TA := fun σ H Q => ta σ H fun x H1 => tr σ H1 fun xs H2 => Q (x :: xs) H2
section
variable {X : Cx} {e : Expr} {es : List Expr} {te : TE} {t : TA} {pos : Pos}
theorem pa_nil : PA X [] tNil := fun _ _ _ _ H Q I h => Calls.spliced_nil ⟨[], H, I, .nil, h⟩
theorem pa_cons (ha : PE X e te) (hr : PA X es t) (hs : starEach (e :: es) X.env = (false, eval e X.env) :: starEach es X.env := by rfl) : PA X (e :: es) (tCons te t) := by
  intro pos pins s σ H Q I h
  rw [hs]
  show wpAny _ _ (spliced ((false, eval e X.env) :: backTo pos (starEach es X.env))) _ _ s
  refine Calls.spliced_cons (thn (ha pins s σ H _ I h) fun u s1 ⟨x, H1, I1, r1, q1⟩ => ?_)
  exact thn (hr pos pins s1 σ H1 _ I1 q1) fun us s2 ⟨xs, H2, I2, r2, q2⟩ => ⟨x :: xs, H2, I2, .cons r1 r2, q2⟩

/-- a tuple, a list of written items -/
def tTup (t : TA) : TE := fun σ H Q => t σ H fun xs H1 => xs.length ≤ sizeLine ∧ ∀ p, H1 p = none → Q (.ref p) (upd H1 p (.tup xs))
def tLst (t : TA) : TE := fun σ H Q => t σ H fun xs H1 => xs.length ≤ sizeLine ∧ ∀ p, H1 p = none → Q (.ref p) (upd H1 p (.lst xs))
theorem pe_tup {x1} (h : PA X es t) : PE X (.Tuple es x1 pos) (tTup t) := by
  intro pins s σ H Q I hq
  refine wpAny_Tuple_spliced (thn (h pos pins s σ H _ I hq) fun us s1 ⟨xs, H1, I1, r, z, q⟩ => ⟨by rw [← r.length]; exact z, ?_⟩)
  have hf : H1 s1.heap.objs.size = none := I1.hok.fresh (Nat.le_refl _)
  refine ⟨.ref s1.heap.objs.size, upd H1 s1.heap.objs.size (.tup xs), I1.laid (t' := s1.toks) (fun b u e => Heap.get?_push_of_some _ e) (Nat.le_refl _) ?_, rfl, q _ hf⟩
  exact ⟨z, us, r, ⟨_, Heap.get?_push_size _ rfl, rfl, _, rfl⟩⟩
theorem pe_lst (h : PA X es t) : PE X (.List es pos) (tLst t) := by
  intro pins s σ H Q I hq
  refine wpAny_List_spliced (thn (h pos pins s σ H _ I hq) fun us s1 ⟨xs, H1, I1, r, z, q⟩ => ⟨by rw [← r.length]; exact z, ?_⟩)
  have hf : H1 s1.heap.objs.size = none := I1.hok.fresh (Nat.le_refl _)
  refine ⟨.ref s1.heap.objs.size, upd H1 s1.heap.objs.size (.lst xs), I1.laid (t' := s1.toks) (fun b u e => Heap.get?_push_of_some _ e) (Nat.le_refl _) ?_, rfl, q _ hf⟩
  exact ⟨z, us, 0, r, Heap.get?_push_size _ rfl⟩
end

/-! ### what a def promises -/
/-- a def's promise: the bound arguments in the parameters' order, the heap, the wanted end, the wanted exception -/
abbrev Sp := List V → Hp → VK → XK → Prop
/-- how an exception lies behind a call (file 08 gives it): the callers' frames, abstract heap and state ahead of the call, the wish, the exception, the state -/
abbrev CXT := List Env → Hp → Shared → XK → Value → Shared → Prop

/-- the state at a call -/
structure Env0 (P : Program) (w : World) (K : PySem.W.Frag) (mg : Str → Option Value) (base : Heap) (A : Around) (outer : List Env) (s : Shared) (H : Hp) : Prop where
  frames : A.frames = some outer
  mod : Mod K mg base
  bs : ∀ b o, base.get? b = some o → s.heap.get? b = some o ∧ H b = none
  bsz : base.objs.size ≤ s.heap.objs.size
  funs : s.heap.FunFrames base outer
  frf : ∀ b ∈ frs outer, H b = none
  hok : HOk P w H s.heap
  bare : AllBare s.gens
/-- a call's end -/
def CE (outer : List Env) (P : Program) (w : World) (H : Hp) (s : Shared) (Q : VK) (u : Value) (s' : Shared) : Prop :=
  ∃ v H', s'.os = s.os ∧ AllBare s'.gens ∧ Un (frs outer) [] H H' s.heap s'.heap ∧ HOk P w H' s'.heap ∧ RelV v u ∧ Q v H'
def CR (CX : CXT) (outer : List Env) (P : Program) (w : World) (H : Hp) (s : Shared) (Q : VK) (E : XK) (r : Result) (s' : Shared) : Prop :=
  match r with
  | .ok (.ret u) => CE outer P w H s Q u s'
  | .ok _ => False
  | .error e => CX outer H s E e s'
structure FnOk (P : Program) (w : World) (K : PySem.W.Frag) (mg : Str → Option Value) (base : Heap) (CX : CXT) (k : Nat) (f : Addr) (fd : FuncData) (ps : List Str) (sp : Sp) : Prop where
  len : ∀ vs H Q E, sp vs H Q E → vs.length = ps.length
  run : ∀ (A : Around) (outer : List Env) (s : Shared) (H : Hp) (args : Args) (us : List Value) (vs : List V) (Q : VK) (E : XK), Room k A → Env0 P w K mg base A outer s H → BindsTo s fd args (ps.zip us) → Vals vs us → sp vs H Q E →
    codeAny (model P w) A (.call (.ref f) args) (CR CX outer P w H s Q E) s
theorem FnOk.mono {P : Program} {w : World} {K : PySem.W.Frag} {mg : Str → Option Value} {base : Heap} {CX : CXT} {j k : Nat} {f : Addr} {fd : FuncData} {ps : List Str} {sp : Sp} (F : FnOk P w K mg base CX j f fd ps sp) (h : j ≤ k) :
    FnOk P w K mg base CX k f fd ps sp := ⟨F.len, fun A outer s H args us vs Q E hr => F.run A outer s H args us vs Q E (hr.mono h)⟩
/-- a weaker promise -/
theorem FnOk.imp {P : Program} {w : World} {K : PySem.W.Frag} {mg : Str → Option Value} {base : Heap} {CX : CXT} {k : Nat} {f : Addr} {fd : FuncData} {ps : List Str} {sp sp' : Sp} (F : FnOk P w K mg base CX k f fd ps sp)
    (h : ∀ vs H Q E, sp' vs H Q E → sp vs H Q E) : FnOk P w K mg base CX k f fd ps sp' :=
  ⟨fun vs H Q E q => F.len vs H Q E (h _ _ _ _ q), fun A outer s H args us vs Q E hr he hb hv hs => F.run A outer s H args us vs Q E hr he hb hv (h _ _ _ _ hs)⟩

theorem Env0.make {P : Program} {w : World} {K : PySem.W.Frag} {mg : Str → Option Value} {base : Heap} {A : Around} {outer : List Env} {s : Shared} {H : Hp} (e : Env0 P w K mg base A outer s H) (C : Addr) (us : List Value) (kw : List (Str × Value)) :
    Env0 P w K mg base (A.under (.builtin "type.__call__" ⟨.ref C :: us, kw⟩)) outer s H := ⟨by first | exact e.frames | (simpa [Around.under, Code.envs, Code.isFrame, pushEnvs] using e.frames), e.mod, e.bs, e.bsz, e.funs, e.frf, e.hok, e.bare⟩
theorem Env0.in1 {P : Program} {w : World} {K : PySem.W.Frag} {mg : Str → Option Value} {base : Heap} {A : Around} {outer : List Env} {s : Shared} {H : Hp} (e : Env0 P w K mg base A outer s H) :
    Env0 P w K mg base A.in1 outer s H := ⟨e.frames, e.mod, e.bs, e.bsz, e.funs, e.frf, e.hok, e.bare⟩

section
variable {X : Cx} {pins : List (Addr × Obj)} {σ : St} {H : Hp} {s s' : Shared}
/-- from a body: what a callee wants -/
theorem Inv.env0 (I : Inv X pins σ H s) : Env0 X.prog X.w X.K X.mg X.base X.A X.stack s H :=
  ⟨I.ok.frames, I.ok.mod, I.bs, Nat.le_trans I.ok.bsz I.sz, I.stack, I.stkFree, I.hok, I.bare⟩
/-- behind a call -/
theorem Inv.after {Q : VK} {u : Value} (I : Inv X pins σ H s) (h : CE X.stack X.prog X.w H s Q u s') : EP X pins σ Q u s' := by
  obtain ⟨v, H', os, bare, un, hok, r, q⟩ := h
  obtain ⟨hh, g, d, t, os'⟩ := s'
  obtain rfl : os' = s.os := os
  exact ⟨v, H', I.call (h' := hh) (g' := g) (d' := d) (t' := t) (ch := []) un hok bare (fun b z => absurd z (by simp)), r, q⟩
end

/-! ### calls -/
/-- f(..): the written arguments, then the defaults dvs; E: what is wanted of an exception -/
def tCall (sp : Sp) (dvs : List V) (E : XK) (t : TA) : TE := fun σ H Q => t σ H fun vs H1 => sp (vs ++ dvs) H1 Q E
/-- o.m(..) of an instance of the class at C -/
def tMeth (C : Addr) (m : Str) (sp : Sp) (dvs : List V) (E : XK) (ta : TE) (t : TA) : TE := fun σ H Q => ta σ H fun x H1 => ∃ a dx fs, x = .ref a ∧ H1 a = some (.ins C dx fs) ∧ fs.lookup m = none ∧
  t σ H1 fun vs H2 => sp (x :: (vs ++ dvs)) H2 Q E
/-- C(..): a new instance and its dict, then __init__ -/
def tMake (C : Addr) (sp : Sp) (dvs : List V) (E : XK) (t : TA) : TE := fun σ H Q => t σ H fun vs H1 => ∀ x dx, H1 x = none → H1 dx = none → dx ≠ x →
  sp (.ref x :: (vs ++ dvs)) (upd (upd H1 dx (.own x)) x (.ins C dx [])) (fun v H2 => v = .non ∧ Q (.ref x) H2) E

/-- how the parameters are bound: us the positional arguments, kw the keywords' values by name, ds the defaults that fill up -/
def Binds (K : PySem.W.Frag) (fd : FuncData) (ps : List Str) (ds : List Value) : Prop :=
  ∀ (s : Shared) (us : List Value), K.In s.heap → (us ++ ds).length = ps.length → BindsTo s fd ⟨us, []⟩ (ps.zip (us ++ ds))
/-- every parameter is given -/
theorem Binds.all {K : PySem.W.Frag} {fd : FuncData} {ps : List Str} (h : ∀ us : List Value, us.length = ps.length → bindArgs fd ⟨us, []⟩ = pure (ps.zip us)) : Binds K fd ps [] := fun s us _ hl => by
  rw [List.append_nil] at hl ⊢
  exact .of_eq (h us hl)

/-- an exception of a callee reaches what this body wants of exceptions -/
def Passes (CX : CXT) (X : Cx) (E : XK) : Prop := ∀ (pins : List (Addr × Obj)) (σ : St) (H : Hp) (s : Shared) (e : Value) (s' : Shared), Inv X pins σ H s → CX X.stack H s E e s' → X.xe e s'

section
variable {X : Cx} {CX : CXT} {k : Nat} {f C : Addr} {fd : FuncData} {ps : List Str} {sp : Sp} {dvs : List V} {ds : List Value} {E : XK} {x m : Str} {p pos apos : Pos} {e o : Expr} {es : List Expr} {ta : TE} {t : TA}

/-- the callee runs -/
theorem run_fn {pins : List (Addr × Obj)} {σ : St} {H : Hp} {s : Shared} {Q : VK} {us : List Value} {vs : List V} (F : FnOk X.prog X.w X.K X.mg X.base CX k f fd ps sp) (hr : Room k X.A) (hb : Binds X.K fd ps ds) (hd : Vals dvs ds) (hx : Passes CX X E)
    (I : Inv X pins σ H s) (r : Vals vs us) (h : sp (vs ++ dvs) H Q E) : wpAny (model X.prog X.w) X.A (call (.ref f) us) (EP X pins σ Q) X.xe s := by
  have r2 : Vals (vs ++ dvs) (us ++ ds) := r.append hd
  have hl : (us ++ ds).length = ps.length := by rw [← r2.length]; exact F.len _ _ _ _ h
  refine wpAny_call (codeAny_mono (F.run X.A X.stack s H ⟨us, []⟩ (us ++ ds) (vs ++ dvs) Q E hr I.env0 (hb s us I.kIn hl) r2 h) fun r s' hq => ?_)
  cases r with
  | error e => exact hx pins σ H s e s' I hq
  | ok fl =>
    cases fl with
    | ret u => exact I.after hq
    | next => exact False.elim hq
    | brk => exact False.elim hq
    | cont => exact False.elim hq

theorem pe_call (F : FnOk X.prog X.w X.K X.mg X.base CX k f fd ps sp) (hr : Room k X.A) (hg : Gl X x) (hm : X.mg x = some (.ref f)) (hk : PySem.W.keepIn X.K (.ref f) = true) (hb : Binds X.K fd ps ds) (hd : Vals dvs ds) (hx : Passes CX X E)
    (ha : PA X (e :: es) t) (hdb : (x == ("__debug__" : Str)) = false := by decide) (he : starEach (e :: es) X.env = (false, eval e X.env) :: starEach es X.env := by rfl) (hpl : (backTo pos (starEach es X.env)).any (·.1) = false := by rfl) :
    PE X (.Call (.Name x p) (e :: es) [] pos) (tCall sp dvs E t) := by
  intro pins s σ H Q I h
  refine wpAny_Call_Name_kw (ld_glob I hg hm ?_ hdb)
  refine PySem.W.callWith_K (h₀ := X.base) I.ok.mod.kin hk (thn (ha pos pins s σ H _ I h) fun us s1 ⟨vs, H1, I1, r, q⟩ => ⟨I1.kIn, ?_⟩) he hpl
  exact run_fn F hr hb hd hx I1 r q
theorem pe_call0 (F : FnOk X.prog X.w X.K X.mg X.base CX k f fd ps sp) (hr : Room k X.A) (hg : Gl X x) (hm : X.mg x = some (.ref f)) (hk : PySem.W.keepIn X.K (.ref f) = true) (hb : Binds X.K fd ps ds) (hd : Vals dvs ds) (hx : Passes CX X E)
    (hdb : (x == ("__debug__" : Str)) = false := by decide) : PE X (.Call (.Name x p) [] [] pos) (tCall sp dvs E tNil) := by
  intro pins s σ H Q I h
  refine wpAny_Call_Name_kw (ld_glob I hg hm ?_ hdb)
  exact PySem.W.callWith_K0 I.kIn hk (run_fn (us := []) F hr hb hd hx I .nil h)

/-- o.m(e, ..) -/
theorem pe_meth {pl : Sem Bool} (he : PE X o ta) (c : Cls X.K C) (hm : Meth X.K C m f) (F : FnOk X.prog X.w X.K X.mg X.base CX k f fd ps sp) (hr : Room k X.A) (hb : Binds X.K fd ps ds) (hd : Vals dvs ds) (hx : Passes CX X E) (ha : PA X (e :: es) t)
    (hst : starEach (e :: es) X.env = (false, eval e X.env) :: starEach es X.env := by rfl) (hpl : (backTo pos (starEach es X.env)).any (·.1) = false := by rfl)
    (ht : eval (.Call (.Attribute o m apos) (e :: es) [] pos) X.env = (do
      let ov ← eval o X.env
      standAt apos.atName
      let (f, first) ← holding [ov] (getMethod ov m pl)
      callWith pos f first (backTo pos (starEach (e :: es) X.env)) (backToKw pos (keywordEach [] X.env))) := by rfl) :
    PE X (.Call (.Attribute o m apos) (e :: es) [] pos) (tMeth C m sp dvs E ta t) := by
  intro pins s σ H Q I h
  refine PySem.W.methodCall_KW (pl := pl) (thn (he pins s σ H _ I h) fun u s1 ⟨x, H1, I1, rx, a, dx, fs, ex, ea, l, q⟩ => ?_) ht
  subst ex
  obtain rfl : u = Value.ref a := rx
  refine getmeth_ok I1 ea c hm l ?_
  refine PySem.W.callWith_K (first := [.ref a]) (h₀ := X.base) I.ok.mod.kin hm.kp (thn (ha pos pins s1 σ H1 _ I1 q) fun us s2 ⟨vs, H2, I2, r, q2⟩ => ⟨I2.kIn, ?_⟩) hst hpl
  exact run_fn (us := .ref a :: us) (vs := .ref a :: vs) F hr hb hd hx I2 (.cons rfl r) q2
/-- o.m() -/
theorem pe_meth0 {pl : Sem Bool} (he : PE X o ta) (c : Cls X.K C) (hm : Meth X.K C m f) (F : FnOk X.prog X.w X.K X.mg X.base CX k f fd ps sp) (hr : Room k X.A) (hb : Binds X.K fd ps ds) (hd : Vals dvs ds) (hx : Passes CX X E)
    (ht : eval (.Call (.Attribute o m apos) [] [] pos) X.env = (do
      let ov ← eval o X.env
      standAt apos.atName
      let (f, first) ← holding [ov] (getMethod ov m pl)
      callWith pos f first (backTo pos (starEach [] X.env)) (backToKw pos (keywordEach [] X.env))) := by rfl) :
    PE X (.Call (.Attribute o m apos) [] [] pos) (tMeth C m sp dvs E ta tNil) := by
  intro pins s σ H Q I h
  refine PySem.W.methodCall_KW (pl := pl) (thn (he pins s σ H _ I h) fun u s1 ⟨x, H1, I1, rx, a, dx, fs, ex, ea, l, q⟩ => ?_) ht
  subst ex
  obtain rfl : u = Value.ref a := rx
  refine getmeth_ok I1 ea c hm l ?_
  exact PySem.W.callWith_K0 (first := [.ref a]) I1.kIn hm.kp (run_fn (us := [.ref a]) (vs := [.ref a]) F hr hb hd hx I1 (.cons rfl .nil) q)

/-- what a class must have to be made -/
structure Mk (K : PySem.W.Frag) (C f : Addr) : Prop where
  makes : PySem.W.makesIn K C = true
  init : PySem.W.findIn K (.ref C) "__init__" = some (some (.ref f))
  fn : PySem.W.isFn K (.ref f) = true
  kp : PySem.W.keepIn K (.ref C) = true

theorem run_make {pins : List (Addr × Obj)} {σ : St} {H : Hp} {s : Shared} {Q : VK} {us : List Value} {vs : List V} (M : Mk X.K C f) (F : FnOk X.prog X.w X.K X.mg X.base CX k f fd ps sp) (hr : Room (k + 1) X.A) (hb : Binds X.K fd ps ds) (hd : Vals dvs ds)
    (hx : Passes CX X E) (I : Inv X pins σ H s) (r : Vals vs us)
    (h : ∀ x dx, H x = none → H dx = none → dx ≠ x → sp (.ref x :: (vs ++ dvs)) (upd (upd H dx (.own x)) x (.ins C dx [])) (fun v H2 => v = .non ∧ Q (.ref x) H2) E) :
    wpAny (model X.prog X.w) X.A (call (.ref C) us) (EP X pins σ Q) X.xe s := by
  have hq := h (s.heap.objs.size + 1) s.heap.objs.size (I.hok.fresh (Nat.le_succ _)) (I.hok.fresh (Nat.le_refl _)) (Nat.ne_of_lt (Nat.lt_succ_self _))
  have I2 := Inv.made (C := C) I
  have r2 : Vals (V.ref (s.heap.objs.size + 1) :: (vs ++ dvs)) (Value.ref (s.heap.objs.size + 1) :: (us ++ ds)) := .cons rfl (r.append hd)
  have hl : (Value.ref (s.heap.objs.size + 1) :: us ++ ds).length = ps.length := by
    have e := r2.length
    rw [F.len _ _ _ _ hq] at e
    exact e.symm
  refine wpAny_call (make_map (f := f) I.kIn M.makes M.init (beq_iff_eq.mp M.fn) (codeAny_mono (F.run _ X.stack _ _ ⟨Value.ref (s.heap.objs.size + 1) :: us, []⟩ (Value.ref (s.heap.objs.size + 1) :: (us ++ ds)) _ _ E (hr.make C us [])
    (I2.env0.make C us []) (hb _ (Value.ref (s.heap.objs.size + 1) :: us) I2.kIn hl) r2 hq) fun r s' hq' => ?_))
  cases r with
  | error e => exact hx pins σ _ _ e s' I2 hq'
  | ok fl =>
    cases fl with
    | ret u =>
      obtain ⟨v, H', I3, rv, ev, q3⟩ := I2.after hq'
      subst ev
      exact ⟨rv, ⟨V.ref (s.heap.objs.size + 1), H', I3, rfl, q3⟩⟩
    | next => exact False.elim hq'
    | brk => exact False.elim hq'
    | cont => exact False.elim hq'
theorem pe_make (M : Mk X.K C f) (F : FnOk X.prog X.w X.K X.mg X.base CX k f fd ps sp) (hr : Room (k + 1) X.A) (hg : Gl X x) (hm : X.mg x = some (.ref C)) (hb : Binds X.K fd ps ds) (hd : Vals dvs ds) (hx : Passes CX X E)
    (ha : PA X (e :: es) t) (hdb : (x == ("__debug__" : Str)) = false := by decide) (he : starEach (e :: es) X.env = (false, eval e X.env) :: starEach es X.env := by rfl) (hpl : (backTo pos (starEach es X.env)).any (·.1) = false := by rfl) :
    PE X (.Call (.Name x p) (e :: es) [] pos) (tMake C sp dvs E t) := by
  intro pins s σ H Q I h
  refine wpAny_Call_Name_kw (ld_glob I hg hm ?_ hdb)
  refine PySem.W.callWith_K (h₀ := X.base) I.ok.mod.kin M.kp (thn (ha pos pins s σ H _ I h) fun us s1 ⟨vs, H1, I1, r, q⟩ => ⟨I1.kIn, ?_⟩) he hpl
  exact run_make M F hr hb hd hx I1 r q
theorem pe_make0 (M : Mk X.K C f) (F : FnOk X.prog X.w X.K X.mg X.base CX k f fd ps sp) (hr : Room (k + 1) X.A) (hg : Gl X x) (hm : X.mg x = some (.ref C)) (hb : Binds X.K fd ps ds) (hd : Vals dvs ds) (hx : Passes CX X E)
    (hdb : (x == ("__debug__" : Str)) = false := by decide) : PE X (.Call (.Name x p) [] [] pos) (tMake C sp dvs E tNil) := by
  intro pins s σ H Q I h
  refine wpAny_Call_Name_kw (ld_glob I hg hm ?_ hdb)
  exact PySem.W.callWith_K0 I.kIn M.kp (run_make (us := []) M F hr hb hd hx I .nil h)
end

/-! ### keywords -/
/-- the values of the keywords, from the left -/
def PK (X : Cx) (kws : List Keyword) (t : TA) : Prop :=
  ∀ (pos : Pos) (pins : List (Addr × Obj)) (s : Shared) (σ : St) (H : Hp) (Q : List V → Hp → Prop), Inv X pins σ H s → t σ H Q → wpAny (model X.prog X.w) X.A (evalAll ((backToKw pos (keywordEach kws X.env)).map (·.2))) (AP X pins σ Q) X.xe s
section
variable {X : Cx} {CX : CXT} {k : Nat} {f C : Addr} {fd : FuncData} {ps ks : List Str} {sp : Sp} {E : XK} {x m : Str} {p pos apos kpos : Pos} {e o : Expr} {es : List Expr} {kws : List Keyword} {te ta : TE} {t tk : TA} {nm : Option Str}
theorem pk_nil : PK X [] tNil := fun _ _ _ _ H Q I h => wpAny_evalAll_nil ⟨[], H, I, .nil, h⟩
theorem pk_cons (ha : PE X e te) (hr : PK X kws t) : PK X (⟨nm, e, kpos⟩ :: kws) (tCons te t) := by
  intro pos pins s σ H Q I h
  show wpAny _ _ (evalAll ((do let v ← eval e X.env; standAt pos; pure v) :: (backToKw pos (keywordEach kws X.env)).map (·.2))) _ _ s
  refine wpAny_evalAll_cons (wpAny_bind (thn (ha pins s σ H _ I h) fun u s1 ⟨x, H1, I1, r1, q1⟩ => wpAny_bind (wpAny_standAt (wpAny_pure ?_))))
  exact thn (hr pos pins s1 σ H1 _ I1 q1) fun us s2 ⟨xs, H2, I2, r2, q2⟩ => ⟨x :: xs, H2, I2, .cons r1 r2, q2⟩

/-- how a call with keywords binds: g puts the positional values us and the keywords' values ws (names ks) in the parameters' order, defaults among them -/
structure KBinds (K : PySem.W.Frag) (fd : FuncData) (ps ks : List Str) (g : List Value → List Value → List Value) (gV : List V → List V → List V) : Prop where
  to : ∀ (s : Shared) (us ws : List Value), K.In s.heap → (g us ws).length = ps.length → BindsTo s fd ⟨us, ks.zip ws⟩ (ps.zip (g us ws))
  rel : ∀ {vs : List V} {us : List Value} {zs : List V} {ws : List Value}, Vals vs us → Vals zs ws → Vals (gV vs zs) (g us ws)
def tCallK (sp : Sp) (gV : List V → List V → List V) (E : XK) (t tk : TA) : TE := fun σ H Q => t σ H fun vs H1 => tk σ H1 fun zs H2 => sp (gV vs zs) H2 Q E
variable {g : List Value → List Value → List Value} {gV : List V → List V → List V}
theorem run_fnk {pins : List (Addr × Obj)} {σ : St} {H : Hp} {s : Shared} {Q : VK} {us ws : List Value} {vs zs : List V} (F : FnOk X.prog X.w X.K X.mg X.base CX k f fd ps sp) (hr : Room k X.A) (hb : KBinds X.K fd ps ks g gV) (hx : Passes CX X E)
    (I : Inv X pins σ H s) (r : Vals vs us) (rz : Vals zs ws) (h : sp (gV vs zs) H Q E) : wpAny (model X.prog X.w) X.A (call (.ref f) us (ks.zip ws)) (EP X pins σ Q) X.xe s := by
  have r2 := hb.rel r rz
  have hl : (g us ws).length = ps.length := by rw [← r2.length]; exact F.len _ _ _ _ h
  refine wpAny_call (codeAny_mono (F.run X.A X.stack s H ⟨us, ks.zip ws⟩ (g us ws) (gV vs zs) Q E hr I.env0 (hb.to s us ws I.kIn hl) r2 h) fun r s' hq => ?_)
  cases r with
  | error e => exact hx pins σ H s e s' I hq
  | ok fl =>
    cases fl with
    | ret u => exact I.after hq
    | next => exact False.elim hq
    | brk => exact False.elim hq
    | cont => exact False.elim hq
/-- f(e, .., k = v, ..) -/
theorem pe_callK (F : FnOk X.prog X.w X.K X.mg X.base CX k f fd ps sp) (hr : Room k X.A) (hg : Gl X x) (hm : X.mg x = some (.ref f)) (hk : PySem.W.keepIn X.K (.ref f) = true) (hb : KBinds X.K fd ps ks g gV) (hx : Passes CX X E)
    (ha : PA X (e :: es) t) (hkw : PK X kws tk) (hall : (backToKw pos (keywordEach kws X.env)).all (·.1.isSome) = true := by rfl) (hks : (backToKw pos (keywordEach kws X.env)).filterMap (·.1) = ks := by rfl)
    (hdb : (x == ("__debug__" : Str)) = false := by decide) (he : starEach (e :: es) X.env = (false, eval e X.env) :: starEach es X.env := by rfl)
    (hpl : ((backTo pos (starEach (e :: es) X.env)).any (·.1) || (backToKw pos (keywordEach kws X.env)).any (·.1.isNone)) = false := by rfl) :
    PE X (.Call (.Name x p) (e :: es) kws pos) (tCallK sp gV E t tk) := by
  intro pins s σ H Q I h
  refine wpAny_Call_Name_kw (ld_glob I hg hm ?_ hdb)
  refine PySem.W.callWith_KW (h₀ := X.base) I.ok.mod.kin hk hall (thn (ha pos pins s σ H _ I h) fun us s1 ⟨vs, H1, I1, r, q⟩ => ?_) hpl he
  refine thn (hkw pos pins s1 σ H1 _ I1 q) fun ws s2 ⟨zs, H2, I2, rz, q2⟩ => ⟨I2.kIn, ?_⟩
  rw [hks]
  exact run_fnk F hr hb hx I2 r rz q2
end

/-! ### a def's body keeps its promise -/
/-- names: the parameters first -/
structure FnScope (N P : List Str) (sc : Scope) : Prop where
  kind : sc.kind = .function
  co : sc.isCoroutine = false
  gen : sc.isGenerator = false
  nd : N.Nodup
  pre : N.take P.length = P
  par : ∀ x ∈ P, sc.names.lookup x = some .local ∨ sc.names.lookup x = some .cell
  nofree : ∀ y ∈ sc.names, y.2 ≠ .free

theorem bindL_out {kindOf : Str → Option NameKind} {x : Str} : ∀ {binds : List (Str × Value)} {m : Str → Option Value}, (∀ v, (x, v) ∉ binds) → bindL kindOf binds m x = m x
  | [], _, _ => rfl
  | (n, v) :: r, m, h => by
    unfold bindL
    rw [bindL_out fun w hw => h w (List.mem_cons_of_mem _ hw)]
    split
    · have : x ≠ n := by rintro rfl; exact h v List.mem_cons_self
      simp [this]
    · rfl
theorem bindC_out {kindOf : Str → Option NameKind} {x : Str} : ∀ {binds : List (Str × Value)} {m : Str → Option Value}, (∀ v, (x, v) ∉ binds) → bindC kindOf binds m x = m x
  | [], _, _ => rfl
  | (n, v) :: r, m, h => by
    unfold bindC
    rw [bindC_out fun w hw => h w (List.mem_cons_of_mem _ hw)]
    split
    · rfl
    · have : x ≠ n := by rintro rfl; exact h v List.mem_cons_self
      simp [this]
theorem bindL_get {kindOf : Str → Option NameKind} {x : Str} {v : Value} : ∀ {P : List Str} {vs : List Value} {i : Nat} {m : Str → Option Value}, P.Nodup → P[i]? = some x → vs[i]? = some v → kindOf x = some .local →
    bindL kindOf (P.zip vs) m x = some v
  | [], _, _, _, _, h, _, _ => by simp at h
  | _ :: _, [], _, _, _, _, h, _ => by simp at h
  | p :: P, w :: vs, 0, m, nd, h1, h2, hk => by
    simp at h1 h2; subst h1; subst h2
    show bindL kindOf ((p, w) :: P.zip vs) m p = _
    unfold bindL
    rw [bindL_out fun v hv => (List.nodup_cons.mp nd).1 (List.of_mem_zip hv).1, if_pos hk]
    simp
  | p :: P, w :: vs, i + 1, m, nd, h1, h2, hk => by
    show bindL kindOf ((p, w) :: P.zip vs) m x = _
    unfold bindL
    exact bindL_get (i := i) (List.nodup_cons.mp nd).2 (by simpa using h1) (by simpa using h2) hk
theorem bindC_get {kindOf : Str → Option NameKind} {x : Str} {v : Value} : ∀ {P : List Str} {vs : List Value} {i : Nat} {m : Str → Option Value}, P.Nodup → P[i]? = some x → vs[i]? = some v → kindOf x ≠ some .local →
    bindC kindOf (P.zip vs) m x = some v
  | [], _, _, _, _, h, _, _ => by simp at h
  | _ :: _, [], _, _, _, _, h, _ => by simp at h
  | p :: P, w :: vs, 0, m, nd, h1, h2, hk => by
    simp at h1 h2; subst h1; subst h2
    show bindC kindOf ((p, w) :: P.zip vs) m p = _
    unfold bindC
    rw [bindC_out fun v hv => (List.nodup_cons.mp nd).1 (List.of_mem_zip hv).1, if_neg hk]
    simp
  | p :: P, w :: vs, i + 1, m, nd, h1, h2, hk => by
    show bindC kindOf ((p, w) :: P.zip vs) m x = _
    unfold bindC
    exact bindC_get (i := i) (List.nodup_cons.mp nd).2 (by simpa using h1) (by simpa using h2) hk

/-- the names' values at the entry -/
def start (N : List Str) (vs : List V) : St := vs.map some ++ List.replicate (N.length - vs.length) none

/-- the context of a def's body, at its entry; an exception leaves the frame, then lies as CX says -/
def cxOf (CX : CXT) (P : Program) (w : World) (K : PySem.W.Frag) (mg : Str → Option Value) (base : Heap) (N : List Str) (qual : Str) (scope : Scope) (f : Addr) (cd : Value) (A : Around) (outer : List Env) (s : Shared) (H : Hp) (E : XK) : Cx where
  prog := P
  w := w
  K := K
  mg := mg
  base := base
  A := A.deeper (envOfC qual scope s.heap.objs.size f cd)
  N := N
  s₀ := s
  H₀ := H
  env := envOfC qual scope s.heap.objs.size f cd
  outer := outer
  stack := envOfC qual scope s.heap.objs.size f cd :: outer
  ex := []
  calm := true
  fn := fun _ => true
  pn := []
  xe := fun e s' => wpAny (model P w) (A.deeper (envOfC qual scope s.heap.objs.size f cd)) (leaving (envOfC qual scope s.heap.objs.size f cd) e) (fun _ s'' => CX outer H s E e s'') (fun e' s'' => CX outer H s E e' s'') s'

theorem cell_has {sc : Scope} {n : Nat} {x : Str} (h : sc.names.lookup x = some .cell) : ∃ c, (cellsFrom n sc.names []).lookup x = some c := by
  have q := PySem.W.cellsFrom_some sc.names n [] (.inl h)
  exact Option.isSome_iff_exists.mp q

theorem inv_start {CX : CXT} {P : Program} {w : World} {K : PySem.W.Frag} {mg : Str → Option Value} {base : Heap} {N ps : List Str} {qual : Str} {scope : Scope} {f : Addr} {cd : Value} {A : Around} {outer : List Env} {s s1 : Shared} {H : Hp} {E : XK} {us : List Value} {vs : List V}
    (S : FnScope N ps scope) (hd : A.handled = none) (e0 : Env0 P w K mg base A outer s H) (hl : vs.length = ps.length) (r : Vals vs us)
    (x : InCallC s s.heap.objs.size (bindL (envOfC qual scope s.heap.objs.size f cd).kindOf (ps.zip us) fun _ => none) (cellsFrom (s.heap.objs.size + 1) scope.names []) (bindC (envOfC qual scope s.heap.objs.size f cd).kindOf (ps.zip us) fun _ => none) s1) :
    Inv (cxOf CX P w K mg base N qual scope f cd A outer s H E) [] (start N vs) H s1 := by
  have hpl : ps.length ≤ N.length := by have := congrArg List.length S.pre; rw [List.length_take] at this; omega
  obtain ⟨h1, tk, rfl, hk⟩ := x.done
  have noA : ∀ b : Addr, b ∉ (cxOf CX P w K mg base N qual scope f cd A outer s H E).ex := fun b z => absurd (show b ∈ ([] : List Addr) from z) (by simp)
  refine ⟨⟨e0.mod, S.kind, rfl, rfl, Nat.le_refl _, fun y z c h1 h2 => ?_, fun y hy => ?_, fun y c _ h => ?_, fun _ => hd, Around.frames_deeper e0.frames, .inr ⟨rfl, rfl⟩, fun b z => absurd z (noA b), e0.bs, e0.bsz, fun b _ _ => noA b, fun b z => absurd z (noA b), e0.funs, e0.frf⟩,
    rfl, e0.bare, Un.kept hk, ⟨_, x.toInCall.ns, fun i y v h1 h2 h3 => ?_⟩, fun y c h => ⟨_, x.cell y c h⟩, e0.hok.fresh (Nat.le_refl _), fun y c h => ?_, fun p hp => absurd (show p ∈ ([] : List (Addr × Obj)) from hp) (by simp), e0.hok.kept hk, ?_⟩
  · exact name_of_addr x.apart (PySem.mem_of_lookup h1) (PySem.mem_of_lookup h2)
  · have hy : scope.names.lookup y = some .cell ∨ scope.names.lookup y = some .free := hy
    rcases hy with hy | hy
    · exact cell_has hy
    · exact absurd rfl (S.nofree _ (PySem.mem_of_lookup hy))
  · exact Nat.le_of_lt (x.above y c (PySem.mem_of_lookup h))
  · have hi : i < vs.length := by
      unfold start at h2
      by_cases hi : i < vs.length
      · exact hi
      · rw [List.getElem?_append_right (by simpa using hi)] at h2
        rw [List.getElem?_replicate] at h2
        split at h2 <;> cases h2
    have ha : vs[i]? = some v := by
      unfold start at h2
      rw [List.getElem?_append_left (by simpa using hi), List.getElem?_map] at h2
      cases e : vs[i]? with
      | none => rw [e] at h2; cases h2
      | some a => rw [e] at h2; cases h2; rfl
    obtain ⟨u, hu, rv⟩ := r.get ha
    have hp : ps[i]? = some y := by
      rw [← S.pre, List.getElem?_take_of_lt (by omega)]; exact h1
    have ndP : ps.Nodup := by rw [← S.pre]; exact S.nd.sublist (List.take_sublist _ _)
    refine ⟨u, rv, ?_⟩
    rcases S.par y (List.mem_of_getElem? hp) with k | k
    · exact .inl ⟨k, bindL_get ndP hp hu k⟩
    · obtain ⟨c, e⟩ := cell_has (n := s.heap.objs.size + 1) k
      refine .inr ⟨.inl k, c, e, ?_⟩
      have q := x.cell y c e
      rw [bindC_get ndP hp hu (by show scope.names.lookup y ≠ _; rw [k]; decide)] at q
      exact q
  · exact e0.hok.fresh (Nat.le_of_lt (x.above y c (PySem.mem_of_lookup h)))
  · unfold start
    show _ = N.length
    rw [List.length_append, List.length_map, List.length_replicate]
    omega

/-- THE RULE: a def (or a method) of the text, by its body. The body's reading t is chosen for each entry; it is run at the parameters' values -/
theorem fn_of {CX : CXT} {P : Program} {w : World} {K : PySem.W.Frag} {mg : Str → Option Value} {base : Heap} {k : Nat} {f : Addr} {name qual : Str} {params : Arguments} {body : List Stmt} {scope : Scope} {dV kV doc pm cdv ct oc : Value} {an od : Option Addr}
    {osl : Array (Option Value)} {N ps : List Str} {sp : Sp} (lk : K.lookup f = some ⟨oc, od, .func (PySem.W.fnOf name qual params body scope dV kV doc pm an cdv ct), osl⟩) (hcd : PySem.W.codeIn K cdv qual = true) (S : FnScope N ps scope)
    (len : ∀ vs H Q E, sp vs H Q E → vs.length = ps.length)
    (hbody : ∀ (A : Around) (outer : List Env) (s : Shared) (H : Hp) (vs : List V) (Q : VK) (E : XK), Room k (A.deeper (envOfC qual scope s.heap.objs.size f cdv)) → sp vs H Q E →
      ∃ t, PSs (cxOf CX P w K mg base N qual scope f cdv A outer s H E) body t ∧ t { nx := fun _ H' => Q .non H', rt := Q } (start N vs) H) :
    FnOk P w K mg base CX (k + 1) f (PySem.W.fnOf name qual params body scope dV kV doc pm an cdv ct) ps sp := by
  refine ⟨len, fun A outer s H args us vs Q E hr e0 hb r hsp => ?_⟩
  have hl := len _ _ _ _ hsp
  have KX : K.In s.heap := e0.mod.kin.keeps fun b o e => (e0.bs b o e).1
  have lim : s.heap.NoLimit := e0.mod.nolimit.keeps fun b o e => (e0.bs b o e).1
  have hkind : ∀ y ∈ ps.zip us, scope.names.lookup y.1 = some .local ∨ (scope.names.lookup y.1 = some .cell ∧ ((cellsFrom (s.heap.objs.size + 1) scope.names []).lookup y.1).isSome = true) := fun ⟨n, v⟩ hy => by
    rcases S.par n (List.of_mem_zip hy).1 with q | q
    · exact .inl q
    · exact .inr ⟨q, PySem.W.cellsFrom_some _ _ _ (.inl q)⟩
  refine codeAny_call_function hr.depth (KX _ _ lk) rfl S.co S.gen rfl (PySem.W.codeRec_of KX hcd) (hb _ _ _ _ ?_)
  refine wpAny_newFunctionEnv_cells S.kind hkind fun env he s1 x => ?_
  subst he
  refine ⟨lim.keeps x.toInCall.keep, codeAny_func ?_⟩
  obtain ⟨t, ht, hq⟩ := hbody A outer s H vs Q E (hr.deeper _) hsp
  have I : Inv (cxOf CX P w K mg base N qual scope f cdv A outer s H E) [] (start N vs) H s1 := inv_start S hr.hd e0 hl r x
  refine wpAny_mono (ht [] s1 (start N vs) H _ I hq) (fun fl s' hs => ?_) fun e s' hs => hs
  have fin : ∀ {σ' : St} {H' : Hp} {v : V} {u : Value}, Inv (cxOf CX P w K mg base N qual scope f cdv A outer s H E) [] σ' H' s' → RelV v u → Q v H' → CE outer P w H s Q u s' :=
    fun {σ' H' v u} J rv q => ⟨v, H', J.os, J.bare, J.base, J.hok, rv, q⟩
  cases fl with
  | ret u =>
    obtain ⟨v, σ', H', J, rv, q⟩ := hs
    exact fin J rv q
  | next =>
    obtain ⟨σ', H', J, q⟩ := hs
    exact fin (v := V.non) (u := Value.none) J rfl q
  | brk =>
    obtain ⟨_, _, _, q⟩ := hs
    exact False.elim q
  | cont =>
    obtain ⟨_, _, _, q⟩ := hs
    exact False.elim q
end L2

namespace L2
open PySem PySem.Spec PyProof.Rows
section
variable {X : Cx} {x : Str} {p pos : Pos} {e : Expr} {es : List Expr} {t : TA} {id T : String} {r : List V → Hp → VK → Prop}

def tCB (r : List V → Hp → VK → Prop) (t : TA) : TE := fun σ H Q => t σ H fun vs H1 => r vs H1 Q
/-- f(e, ..), f a built-in function -/
theorem pe_callB (hc : CallR X (.builtin id) r) (hg : Gl X x) (hm : X.mg x = none) (hv : bootBuiltins x = some (.builtin id)) (ha : PA X (e :: es) t) (hn : x ≠ "__name__" := by decide) (hdb : (x == ("__debug__" : Str)) = false := by decide)
    (he : starEach (e :: es) X.env = (false, eval e X.env) :: starEach es X.env := by rfl) (hpl : (backTo pos (starEach es X.env)).any (·.1) = false := by rfl) : PE X (.Call (.Name x p) (e :: es) [] pos) (tCB r t) := by
  intro pins s σ H Q I h
  refine wpAny_Call_Name_kw (ld_blt I hg hm hv ?_ hn hdb)
  exact PyProof.Rows.callWith_builtin1 (thn (ha pos pins s σ H _ I h) fun us s1 ⟨vs, H1, I1, r1, q1⟩ => hc pins s1 σ H1 vs us Q I1 r1 q1) he hpl
/-- T(e, ..), T a built-in type -/
theorem pe_callTy (hc : CallR X (.type T) r) (hg : Gl X x) (hm : X.mg x = none) (hv : bootBuiltins x = some (.type T)) (ha : PA X (e :: es) t) (hn : x ≠ "__name__" := by decide) (hdb : (x == ("__debug__" : Str)) = false := by decide)
    (he : starEach (e :: es) X.env = (false, eval e X.env) :: starEach es X.env := by rfl) (hpl : (backTo pos (starEach es X.env)).any (·.1) = false := by rfl) : PE X (.Call (.Name x p) (e :: es) [] pos) (tCB r t) := by
  intro pins s σ H Q I h
  refine wpAny_Call_Name_kw (ld_blt I hg hm hv ?_ hn hdb)
  exact PyProof.Rows.callWith_type1 (thn (ha pos pins s σ H _ I h) fun us s1 ⟨vs, H1, I1, r1, q1⟩ => hc pins s1 σ H1 vs us Q I1 r1 q1) he hpl
/-- T() -/
theorem pe_callTy0 (hc : CallR X (.type T) r) (hg : Gl X x) (hm : X.mg x = none) (hv : bootBuiltins x = some (.type T)) (hn : x ≠ "__name__" := by decide) (hdb : (x == ("__debug__" : Str)) = false := by decide) :
    PE X (.Call (.Name x p) [] [] pos) (tCB r tNil) := by
  intro pins s σ H Q I h
  refine wpAny_Call_Name_kw (ld_blt I hg hm hv ?_ hn hdb)
  exact PyProof.Rows.callWith_type0 (hc pins s σ H [] [] Q I .nil h)
end
end L2

namespace HT
open PySem PyProof.Rows

/-- t < u of tuples of ints -/
def lexLt : List Int → List Int → Bool
  | [], [] => false
  | [], _ :: _ => true
  | _ :: _, [] => false
  | x :: xs, y :: ys => if x = y then lexLt xs ys else decide (x < y)
theorem lexLt_cons (x y : Int) (xs ys : List Int) : lexLt (x :: xs) (y :: ys) = if x = y then lexLt xs ys else decide (x < y) := rfl
theorem lexLt_nil_nil : lexLt [] [] = false := rfl
theorem lexLt_nil_cons (y : Int) (ys : List Int) : lexLt [] (y :: ys) = true := rfl
theorem lexLt_cons_nil (x : Int) (xs : List Int) : lexLt (x :: xs) [] = false := rfl

theorem eqAt_int (A : Around) (s : Shared) (a : Int) (t : Tok) (c : Int) (u : Tok) : ∃ e, SeqAt.EqAt A s (.int a t) (.int c u) e ∧ (e = true ↔ a = c) :=
  ⟨(a == c), SeqAt.EqAt.int_int a t c u, by simp⟩
theorem rcLt_int (A : Around) (s : Shared) (a : Int) (t : Tok) (c : Int) (u : Tok) (prog : Program) (w : World) (E : Value → Shared → Prop) (Q : Value → Shared → Prop) (h : Q (.bool (decide (a < c))) s) :
    wpAny (model prog w) A (richCompare .Lt (.int a t) (.int c u)) Q E s :=
  (PyProof.Rows.lt_int h : wpAny (model prog w) A (compareOp .Lt (.int a t) (.int c u)) Q E s)

section
open PySem.SeqAt
open PySem.AutoSeq1 (wpAny_loadPart')
open PySem.MeetsSeq PySem.MeetsSeq2 PySem.MeetsSeq3

theorem tuple_lt_ints (l b : Addr) (items items2 : Array Value) (n n2 : Nat) (dd dd2 : Option Addr) (sl sl2 : Array (Option Value)) (ns ms : List Int) (hi : IntsAre items.toList ns) (hj : IntsAre items2.toList ms) :
    Meets (Builtin.«tuple.__lt__» ⟨[.ref l, .ref b], []⟩)
      (fun _ R s => s.heap.get? l = some { cls := .type "tuple", dict := dd, data := .seq items n, slots := sl } ∧ s.heap.get? b = some { cls := .type "tuple", dict := dd2, data := .seq items2 n2, slots := sl2 } ∧
        R (.ok (.ret (.bool (lexLt ns ms)))) s) :=
  .of_wp fun prog w A R s h => by
    obtain ⟨hp, g, d, tk, os⟩ := s; obtain ⟨hl, hb, h⟩ := h
    have f2 := AutoSeq1.sub_tuple_tuple
    have z1 : items.size = ns.length := by rw [← hi.length]; simp
    have z2 : items2.size = ms.length := by rw [← hj.length]; simp
    wp_walk using wpAny_loadPart' hl, wpAny_loadPart' hb, wpAny_forIn_list _ (fun rest b s' => b.1 = none ∧ s' = ⟨hp, g, d, tk, os⟩ ∧ ∃ (vs ws : List Value) (ns' ms' : List Int), rest = vs.zip ws ∧
      IntsAre vs ns' ∧ IntsAre ws ms' ∧ ns'.length + items2.size = ms'.length + items.size ∧ R (.ok (.ret (.bool (lexLt ns' ms')))) ⟨hp, g, d, tk, os⟩) _
    case turn =>
      rintro ⟨y, x⟩ rest b s' ⟨hb', rfl, vs, ws, ns', ms', hz, hvi, hwi, hlen, hR⟩
      cases hvi with
      | nil => rw [List.zip_nil_left] at hz; cases hz
      | cons a t hvi' =>
        cases hwi with
        | nil => rw [List.zip_nil_right] at hz; cases hz
        | cons c u hwi' =>
          rw [List.zip_cons_cons] at hz
          injection hz with hyx hrest
          injection hyx with hy hx
          subst hy hx
          rw [lexLt_cons] at hR
          simp only [List.length_cons] at hlen
          obtain ⟨e, he, hiff⟩ := eqAt_int A.in1 ⟨hp, g, d, tk, os⟩ a t c u
          refine wpAny_bind (he prog w _ _ ?_)
          cases e with
          | true =>
            rw [if_pos (hiff.mp rfl)] at hR
            wp_walk
            exact ⟨rfl, rfl, _, _, _, _, hrest, hvi', hwi', by omega, hR⟩
          | false =>
            rw [if_neg (fun q => absurd (hiff.mpr q) Bool.false_ne_true)] at hR
            have hri := rcLt_int A.in1 ⟨hp, g, d, tk, os⟩ a t c u prog w
            wp_walk using hri
            exact ⟨_, rfl, by simpa using hR⟩
    case fin =>
      rintro ⟨b1, b2⟩ s' ⟨hb', rfl, vs, ws, ns', ms', hz, hvi, hwi, hlen, hR⟩
      simp only at hb'
      subst hb'
      have hv : lexLt ns' ms' = decide (items.size < items2.size) := by
        cases hvi with
        | nil =>
          cases hwi with
          | nil =>
            simp only [List.length_nil] at hlen
            rw [lexLt_nil_nil]
            exact (decide_eq_false (by omega)).symm
          | cons c u hw =>
            simp only [List.length_nil, List.length_cons] at hlen
            rw [lexLt_nil_cons]
            exact (decide_eq_true (by omega)).symm
        | cons a t hv =>
          cases hwi with
          | nil =>
            simp only [List.length_nil, List.length_cons] at hlen
            rw [lexLt_cons_nil]
            exact (decide_eq_false (by omega)).symm
          | cons c u hw =>
            rw [List.zip_cons_cons] at hz
            cases hz
      rw [hv] at hR
      wp_walk
      exact ⟨_, rfl, by simpa [Builtin.Tuple.tupleCompareSizes] using hR⟩
    case h =>
      exact ⟨rfl, rfl, items.toList, items2.toList, ns, ms, rfl, hi, hj, by omega, h⟩
end

section
variable {prog : Program} {w : World} {A : Around} {E : Value → Shared → Prop} {s : Shared}

theorem lt_tupInts {l b : Addr} {items items2 : Array Value} {ns ms : List Int} {Q : Value → Shared → Prop} (hl : IsTup s.heap l items) (hb : IsTup s.heap b items2) (hi : IntsAre items.toList ns) (hj : IntsAre items2.toList ms)
    (hu : A.units < cLine) (h : Q (.bool (lexLt ns ms)) s) : wpAny (model prog w) A (compareOp .Lt (.ref l) (.ref b)) Q E s := by
  obtain ⟨⟨cls, dd, data, sl⟩, ho, hc, n, hd⟩ := id hl
  obtain ⟨⟨cls2, dd2, data2, sl2⟩, ho2, hc2, n2, hd2⟩ := id hb
  simp only at hc hd hc2 hd2
  subst hc hd hc2 hd2
  exact richCompare_meets_room (op := .Lt) ⟨_, ho, rfl⟩ ⟨_, ho2, rfl⟩ PySem.F.slot_tuple_lt PySem.F.entry_tuple_lt (PySem.F.args_tuple_lt_2 _ _) (tuple_lt_ints l b items items2 n n2 dd dd2 sl sl2 ns ms hi hj)
    ⟨ho, ho2, show Value.bool (lexLt ns ms) ≠ Value.notImplemented ∧ Q (.bool (lexLt ns ms)) s from ⟨(fun x => nomatch x), h⟩⟩ hu

/-- t + u, t not empty -/
theorem cat_tup {t b : Addr} {vs ws : List Value} {Q : Value → Shared → Prop} (ht : IsTup s.heap t vs.toArray) (hb : IsTup s.heap b ws.toArray) (hv : vs ≠ [])
    (h1 : ws = [] → Q (.ref t) s) (h2 : ws ≠ [] → Q (.ref s.heap.objs.size) { s with heap := s.heap.push { cls := .type "tuple", data := .seq (vs ++ ws).toArray } })
    (hsz : vs.length + ws.length ≤ sizeLine) : wpAny (model prog w) A (binaryOp .Add (.ref t) (.ref b)) Q E s := by
  obtain ⟨⟨cls, dd, data, sl⟩, ho, hc, n, hd⟩ := id ht
  obtain ⟨⟨cls2, dd2, data2, sl2⟩, ho2, hc2, n2, hd2⟩ := id hb
  simp only at hc hd hc2 hd2
  subst hc hd hc2 hd2
  have e : vs.toArray ++ ws.toArray = (vs ++ ws).toArray := by simp
  by_cases hw : ws = []
  · exact concat_meets ⟨_, ho, rfl⟩ ⟨_, ho2, rfl⟩ noFill_tuple_add seq_tuple_add PySem.F.slot_tuple_add PySem.F.entry_tuple_add (PySem.F.args_tuple_add_2 _ _)
      (tuple_addW1 t b vs.toArray ws.toArray n n2 dd dd2 sl sl2 (by simpa using hv) (by simp [hw])) ⟨ho, ho2, h1 hw⟩
  · refine concat_meets ⟨_, ho, rfl⟩ ⟨_, ho2, rfl⟩ noFill_tuple_add seq_tuple_add PySem.F.slot_tuple_add PySem.F.entry_tuple_add (PySem.F.args_tuple_add_2 _ _)
      (tuple_addW2 t b vs.toArray ws.toArray n n2 dd dd2 sl sl2 (by simpa using hv) (by simpa using hw) (by rw [List.size_toArray, List.size_toArray]; exact hsz)) ⟨ho, ho2, ?_⟩
    rw [e]
    exact h2 hw

/-! ### t[a:b], not the whole -/
/-- a slice's bound as a place among n (d where it is left out) -/
def sIx (n d : Nat) : Option Int → Nat
  | none => d
  | some v => if v < 0 then (v + (n : Int)).toNat else min v.toNat n
theorem sIx_none (n d : Nat) : sIx n d none = d := rfl
theorem sIx_nat (n d k : Nat) : sIx n d (some (k : Int)) = min k n := by
  show (if (k : Int) < 0 then ((k : Int) + (n : Int)).toNat else min (k : Int).toNat n) = min k n
  rw [if_neg (by omega), Int.toNat_natCast]
theorem sIx_le (n d : Nat) (hd : d ≤ n) (o : Option Int) : sIx n d o ≤ n := by
  cases o with
  | none => exact hd
  | some v =>
    show (if v < 0 then (v + (n : Int)).toNat else min v.toNat n) ≤ n
    by_cases hv : v < 0
    · rw [if_pos hv]; omega
    · rw [if_neg hv]; exact Nat.min_le_right _ _
theorem clip_eq (v : Int) (n d : Nat) : (if v < 0 then max (v + (n : Int)) 0 else min v (n : Int)) = ((sIx n d (some v) : Nat) : Int) := by
  show (if v < 0 then max (v + (n : Int)) 0 else min v (n : Int)) = (((if v < 0 then (v + (n : Int)).toNat else min v.toNat n) : Nat) : Int)
  by_cases hv : v < 0
  · simp only [if_pos hv]; omega
  · simp only [if_neg hv]; omega
theorem adjust_gen (lo hi : Option Int) (n : Nat) : Builtin.Slice.sliceAdjust lo hi 1 (n : Int) = (((sIx n 0 lo : Nat) : Int), ((sIx n n hi : Nat) : Int)) := by
  have h1 : ¬ ((1 : Int) < 0) := by omega
  unfold Builtin.Slice.sliceAdjust
  simp only [h1, if_false]
  refine Prod.ext ?_ ?_
  · cases lo with
    | none => rfl
    | some v => exact clip_eq v n 0
  · cases hi with
    | none => rfl
    | some v => exact clip_eq v n n
theorem places_gen (i j : Nat) : Builtin.Slice.slicePlaces (i : Int) (j : Int) 1 = j - i := by
  unfold Builtin.Slice.slicePlaces
  have h1 : (1 : Int) > 0 := by omega
  simp only [h1, if_true, Int.ediv_one]
  split <;> omega
theorem slicePart_ {v : Value} {o : Option Int} {Q : Option Int → Shared → Prop} (p : IsPart v o) (h : Q o s) : wpAny (model prog w) A (Builtin.Slice.slicePartIndex v) Q E s := by
  cases p with
  | none => exact slicePart_none h
  | int i t => exact slicePart_int h
theorem sliceApplied_gen {sl : Addr} {vl vu : Value} {lo hi : Option Int} {n : Nat} {Q : Int × Int × Nat → Shared → Prop} (hs : s.heap.IsSliceOf sl vl vu .none) (pl : IsPart vl lo) (pu : IsPart vu hi)
    (h : Q (((sIx n 0 lo : Nat) : Int), 1, sIx n n hi - sIx n 0 lo) s) : wpAny (model prog w) A (Builtin.Slice.sliceApplied (.ref sl) (pure (n : Int))) Q E s := by
  obtain ⟨os, hos, hcs, hds⟩ := id hs
  unfold Builtin.Slice.sliceApplied Builtin.Slice.sliceFields
  refine wpAny_bind (wpAny_bind (wpAny_field hos hds (x := vl) rfl (wpAny_bind (wpAny_field hos hds (x := vu) rfl (wpAny_bind (wpAny_field hos hds (x := .none) rfl (wpAny_pure ?_)))))))
  refine wpAny_bind (slicePart_none ?_)
  show wpAny _ _ (if ((1 : Int) == 0) = true then _ else _) _ _ s
  rw [if_neg (by decide)]
  refine wpAny_bind (slicePart_ pl (wpAny_bind (slicePart_ pu (wpAny_bind (wpAny_pure ?_)))))
  show wpAny _ _ (match Builtin.Slice.sliceAdjust lo hi 1 (n : Int) with | (lo, hi) => pure (lo, (1 : Int), Builtin.Slice.slicePlaces lo hi 1)) _ _ s
  rw [adjust_gen lo hi n]
  show wpAny _ _ (pure (((sIx n 0 lo : Nat) : Int), (1 : Int), Builtin.Slice.slicePlaces ((sIx n 0 lo : Nat) : Int) ((sIx n n hi : Nat) : Int) 1)) _ _ s
  rw [places_gen]
  exact wpAny_pure h
theorem pick_gen (xs : Array Value) (i k : Nat) : ((List.range k).filterMap fun (m : Nat) => xs[((i : Int) + (m : Int) * 1).toNat]?).toArray = ((xs.toList.drop i).take k).toArray := by
  have e : (fun (m : Nat) => xs[((i : Int) + (m : Int) * 1).toNat]?) = fun m => xs[i + m]? := by
    funext m
    have : ((i : Int) + (m : Int) * 1).toNat = i + m := by omega
    rw [this]
  rw [e]
  have := pick_run xs i k
  rw [List.filterMap_map] at this
  have e2 : ((fun x => xs[x]?) ∘ fun x => i + x) = fun m => xs[i + m]? := rfl
  rw [e2] at this
  rw [this]

theorem getItem_tuple_cut {t sl : Addr} {items : Array Value} {vl vu : Value} {lo hi : Option Int} {Q : Value → Shared → Prop} (ht : IsTup s.heap t items) (hs : s.heap.IsSliceOf sl vl vu .none) (pl : IsPart vl lo) (pu : IsPart vu hi)
    (hw : ¬ (sIx items.size 0 lo = 0 ∧ sIx items.size items.size hi = items.size))
    (h : Q (.ref s.heap.objs.size) { s with heap := s.heap.push { cls := .type "tuple", data := .seq ((items.toList.drop (sIx items.size 0 lo)).take (sIx items.size items.size hi - sIx items.size 0 lo)).toArray } })
    (hsz : items.size ≤ sizeLine) : wpAny (model prog w) A (getItem (.ref t) (.ref sl)) Q E s := by
  have htake : sizeOk (.seq ((items.toList.drop (sIx items.size 0 lo)).take (sIx items.size items.size hi - sIx items.size 0 lo)).toArray) := by
    show ((items.toList.drop (sIx items.size 0 lo)).take (sIx items.size items.size hi - sIx items.size 0 lo)).toArray.size ≤ sizeLine
    rw [List.size_toArray, List.length_take, List.length_drop, Array.length_toList]
    omega
  have hj : sIx items.size items.size hi ≤ items.size := sIx_le _ _ (Nat.le_refl _) hi
  obtain ⟨os, hos, hcs, hds⟩ := id hs
  have hTs : s.TypeIs (.ref sl) "slice" := ⟨os, hos, hcs⟩
  unfold getItem
  try with_reducible refine wpAny_holding ?_
  first | refine wpAny_bind (wpAny_pure ?_) | skip
  refine wpAny_bind (wpAny_sequenceKey ht.typeIs (by decide) ?_)
  refine wpAny_bind (wpAny_callSpecial?_slot (name := Str.ofString "__getitem__") ht.typeIs PyProof.Rows.slot_tuple_getitem
    (wpAny_call_entry PyProof.Rows.slot_tuple_getitem ht.typeIs entry_tuple_getitem ?_ (args_tuple_getitem _ _)))
  show wpAny _ _ (Builtin.Tuple.tupleItemsOf (.ref t) >>= _) _ _ s
  refine wpAny_bind (tupleItemsOf_ ht ?_)
  refine wpAny_bind (wpAny_typeOf hTs ?_)
  rw [if_pos (by decide)]
  refine wpAny_bind (sliceApplied_gen hs pl pu ?_)
  have hno : ¬ ((((sIx items.size 0 lo : Nat) : Int) == 0 && (1 : Int) == 1 && (sIx items.size items.size hi - sIx items.size 0 lo) == items.size) = true) := by
    intro q
    rw [Bool.and_eq_true, Bool.and_eq_true] at q
    have q1 : ((sIx items.size 0 lo : Nat) : Int) = 0 := eq_of_beq q.1.1
    have q2 : sIx items.size items.size hi - sIx items.size 0 lo = items.size := eq_of_beq q.2
    exact hw ⟨by omega, by omega⟩
  show wpAny _ _ (if (((sIx items.size 0 lo : Nat) : Int) == 0 && (1 : Int) == 1 && (sIx items.size items.size hi - sIx items.size 0 lo) == items.size) = true then _ else _) _ _ s
  rw [if_neg hno, pick_gen]
  first
    | exact wpAny_bind (m := Builtin.Tuple.tupleExact _) (wpAny_newObj_type (wpAny_pure ⟨_, rfl, wpAny_pure h⟩) htake)
    | exact wpAny_bind (m := Builtin.Tuple.tupleExact _) (wpAny_newObj_type (wpAny_bind (wpAny_pure (wpAny_pure ⟨_, rfl, wpAny_pure h⟩))) htake)
    | exact wpAny_bind (wpAny_bind (m := Builtin.Tuple.tupleExact _) (wpAny_newObj_type (wpAny_pure (wpAny_pure ⟨_, rfl, wpAny_pure h⟩)) htake))
    | exact wpAny_bind (wpAny_bind (m := Builtin.Tuple.tupleExact _) (wpAny_newObj_type (wpAny_pure ⟨_, rfl, wpAny_pure h⟩) htake))
end
end HT

namespace L2
open PySem PySem.Spec PyProof.Rows

/-! ### the parts of a slice -/
abbrev TO := St → Hp → (Option Int → Hp → Prop) → Prop
/-- a slice's part (left out, or an int) -/
def PO (X : Cx) (e : Option Expr) (t : TO) : Prop :=
  ∀ (pins : List (Addr × Obj)) (s : Shared) (σ : St) (H : Hp) (Q : Option Int → Hp → Prop), Inv X pins σ H s → t σ H Q →
    wpAny (model X.prog X.w) X.A (evalPart e X.env) (fun u s' => ∃ o H', Inv X pins σ H' s' ∧ IsPart u o ∧ Q o H') X.xe s
def tNoPart : TO := fun _ H Q => Q none H
def tPart (t : TE) : TO := fun σ H Q => t σ H fun x H1 => ∃ i, x = .int i ∧ Q (some i) H1

theorem intsAre_of {ns : List Int} : ∀ {us : List Value}, Vals (ns.map V.int) us → IntsAre us ns := by
  induction ns with
  | nil => intro us r; rw [List.map_nil] at r; cases r; exact .nil
  | cons n ns ih =>
    intro us r
    rw [List.map_cons] at r
    cases r with
    | cons r1 r2 =>
      obtain ⟨t, e⟩ := r1
      subst e
      exact .cons n t (ih r2)

section
variable {X : Cx} {e : Expr} {te : TE} {lo hi : Option Expr} {tl th : TO} {pos p2 : Pos}

theorem po_none : PO X none tNoPart := by
  intro pins s σ H Q I h
  rw [evalPart_none]
  exact wpAny_pure ⟨none, H, I, .none, h⟩
theorem po_some (h : PE X e te) : PO X (some e) (tPart te) := by
  intro pins s σ H Q I hw
  rw [evalPart_some]
  refine thn (h pins s σ H _ I hw) fun u s1 ⟨x, H1, I1, r1, q1⟩ => ?_
  obtain ⟨i, rfl, q⟩ := q1
  obtain ⟨t, rfl⟩ := r1
  exact ⟨some i, H1, I1, .int i t, q⟩

/-- what a slice of a value is, by values: the slice object stands at sl -/
def SlR (X : Cx) (r : V → Option Int → Option Int → Hp → VK → Prop) : Prop :=
  ∀ (pins : List (Addr × Obj)) (s : Shared) (σ : St) (H : Hp) (x : V) (v vl vu : Value) (lo hi : Option Int) (sl : Addr) (Q : VK), Inv X pins σ H s → RelV x v → s.heap.IsSliceOf sl vl vu .none → IsPart vl lo → IsPart vu hi → r x lo hi H Q →
    ∃ T id, typeLookup (.type T) "__getitem__" = pure (some (.builtin id)) ∧ s.TypeIs v T ∧ wpAny (model X.prog X.w) X.A (getItem v (.ref sl)) (EP X pins σ Q) X.xe s
theorem SlR.or {r r' : V → Option Int → Option Int → Hp → VK → Prop} (h : SlR X r) (h' : SlR X r') : SlR X (fun x lo hi H Q => r x lo hi H Q ∨ r' x lo hi H Q) := by
  intro pins s σ H x v vl vu lo hi sl Q I rx hs pl pu q
  rcases q with q | q
  · exact h pins s σ H x v vl vu lo hi sl Q I rx hs pl pu q
  · exact h' pins s σ H x v vl vu lo hi sl Q I rx hs pl pu q
def tSl (r : V → Option Int → Option Int → Hp → VK → Prop) (te : TE) (tl th : TO) : TE := fun σ H Q => te σ H fun x H1 => tl σ H1 fun l H2 => th σ H2 fun u H3 => r x l u H3 Q
/-- a[lo:hi], any a -/
theorem pe_slice {r : V → Option Int → Option Int → Hp → VK → Prop} (hr : SlR X r) (he : PE X e te) (hl : PO X lo tl) (hu : PO X hi th) : PE X (.Subscript e (.Slice lo hi none p2) pos) (tSl r te tl th) := by
  intro pins s σ H Q I h
  refine Subscript_ (thn (he pins s σ H _ I h) fun v s1 ⟨x, H1, I1, r1, q1⟩ => ?_)
  refine wpAny_Slice (thn (hl pins s1 σ H1 _ I1 q1) fun vl s2 ⟨l, H2, I2, pl, q2⟩ => thn (hu pins s2 σ H2 _ I2 q2) fun vu s3 ⟨u, H3, I3, pu, q3⟩ => ?_)
  rw [evalPart_none]
  refine wpAny_pure ?_
  have I4 : Inv X pins σ H3 { s3 with heap := s3.heap.push { cls := .type "slice", data := .fields #[vl, vu, .none] } } := I3.kept (t' := s3.toks) fun b ob q => Heap.get?_push_of_some _ q
  obtain ⟨T, id, hT, ht, hg⟩ := hr pins { s3 with heap := s3.heap.push { cls := .type "slice", data := .fields #[vl, vu, .none] } } σ H3 x v vl vu l u s3.heap.objs.size Q I4 r1 (Heap.IsSliceOf.new ..) pl pu q3
  show wpAny (model X.prog X.w) X.A (subscriptTail e (.Slice lo hi none p2) v (.ref s3.heap.objs.size)) (EP X pins σ Q) X.xe { s3 with heap := s3.heap.push { cls := .type "slice", data := .fields #[vl, vu, .none] } }
  exact tail_any (ops := [.ref s3.heap.objs.size, v]) ht hT hg (by with_unfolding_all rfl)

/-- the items of xs[lo:hi] -/
def cutV (xs : List V) (lo hi : Option Int) : List V := (xs.drop (HT.sIx xs.length 0 lo)).take (HT.sIx xs.length xs.length hi - HT.sIx xs.length 0 lo)
theorem cutV_length (xs : List V) (lo hi : Option Int) : (cutV xs lo hi).length ≤ xs.length := by
  unfold cutV
  rw [List.length_take, List.length_drop]
  omega
/-- t[lo:hi], not the whole of it (the whole would be t itself) -/
def rSlT (K : PySem.W.Frag) : V → Option Int → Option Int → Hp → VK → Prop := fun x lo hi H Q => ∃ a xs, x = .ref a ∧ SqT K H a xs ∧
  ¬ (HT.sIx xs.length 0 lo = 0 ∧ HT.sIx xs.length xs.length hi = xs.length) ∧ ∀ p, H p = none → Q (.ref p) (upd H p (.tup (cutV xs lo hi)))
theorem sl_tup : SlR X (rSlT X.K) := by
  intro pins s σ H x v vl vu lo hi sl Q I rx hs pl pu h
  obtain ⟨a, xs, rfl, hx, hw, q⟩ := h
  cases rx
  obtain ⟨its, r, ht, hz⟩ := I.tuple hx
  have hlen : its.toArray.size = xs.length := by rw [List.size_toArray]; exact r.length.symm
  refine ⟨"tuple", _, PyProof.Rows.slot_tuple_getitem.lookup, ht.typeIs, ?_⟩
  refine HT.getItem_tuple_cut ht hs pl pu (by rw [hlen]; exact hw) ?_ (by rw [hlen]; exact hz)
  rw [hlen]
  refine ⟨.ref s.heap.objs.size, _, I.laid (t' := s.toks) (o := .tup (cutV xs lo hi)) (fun b ob q => Heap.get?_push_of_some _ q) (Nat.le_refl _) ?_, rfl, q _ (I.hok.fresh (Nat.le_refl _))⟩
  exact ⟨Nat.le_trans (cutV_length xs lo hi) hz, _, (r.drop (HT.sIx xs.length 0 lo)).take (HT.sIx xs.length xs.length hi - HT.sIx xs.length 0 lo), IsTup.new _ _⟩

/-! ### t < u, t + u -/
def rLtT (K : PySem.W.Frag) : R2 := fun x y H Q => ∃ a b ns ms, x = .ref a ∧ y = .ref b ∧ SqT K H a (ns.map V.int) ∧ SqT K H b (ms.map V.int) ∧ Q (.bl (HT.lexLt ns ms)) H
theorem op_ltT (hu : X.A.units < cLine) : OpR X (compareOp .Lt) (rLtT X.K) := by
  intro pins s σ H x y v u Q I rx ry h
  obtain ⟨a, b, ns, ms, rfl, rfl, ha, hb, q⟩ := h
  cases rx
  cases ry
  obtain ⟨its, r1, p1, _⟩ := I.tuple ha
  obtain ⟨its2, r2, p2, _⟩ := I.tuple hb
  have i1 : IntsAre its.toArray.toList ns := intsAre_of r1
  have i2 : IntsAre its2.toArray.toList ms := intsAre_of r2
  exact HT.lt_tupInts p1 p2 i1 i2 hu ⟨.bl (HT.lexLt ns ms), H, I, rfl, q⟩
/-- t + u, t not empty: u empty gives t itself -/
def rCatT (K : PySem.W.Frag) : R2 := fun x y H Q => ∃ a b xs ys, x = .ref a ∧ y = .ref b ∧ SqT K H a xs ∧ SqT K H b ys ∧ xs ≠ [] ∧ xs.length + ys.length ≤ sizeLine ∧
  (ys = [] → Q (.ref a) H) ∧ (ys ≠ [] → ∀ p, H p = none → Q (.ref p) (upd H p (.tup (xs ++ ys))))
theorem Vals.nil_iff {xs : List V} {us : List Value} (r : Vals xs us) : us = [] ↔ xs = [] := by
  cases r with
  | nil => simp
  | cons _ _ => simp
theorem op_catT : OpR X (binaryOp .Add) (rCatT X.K) := by
  intro pins s σ H x y v u Q I rx ry h
  obtain ⟨a, b, xs, ys, rfl, rfl, ha, hb, hx, hz, q1, q2⟩ := h
  cases rx
  cases ry
  obtain ⟨its, r1, p1, _⟩ := I.tuple ha
  obtain ⟨its2, r2, p2, _⟩ := I.tuple hb
  refine HT.cat_tup p1 p2 (fun z => hx (r1.nil_iff.mp z)) (fun z => ⟨.ref a, H, I, rfl, q1 (r2.nil_iff.mp z)⟩) (fun z => ?_) (by rw [← r1.length, ← r2.length]; exact hz)
  refine ⟨.ref s.heap.objs.size, _, I.laid (t' := s.toks) (o := .tup (xs ++ ys)) (fun b ob q => Heap.get?_push_of_some _ q) (Nat.le_refl _) ?_, rfl, q2 (fun w => z (r2.nil_iff.mpr w)) _ (I.hok.fresh (Nat.le_refl _))⟩
  exact ⟨by rw [List.length_append]; exact hz, _, r1.append r2, IsTup.new _ _⟩
/-- tuple(t) -/
theorem call_tupleT : CallR X (.type "tuple") (fun xs H Q => ∃ a ys, xs = [.ref a] ∧ SqT X.K H a ys ∧ Q (.ref a) H) := by
  intro pins s σ H xs us Q I r h
  obtain ⟨a, ys, rfl, ha, q⟩ := h
  obtain ⟨u, rfl, ru⟩ := vals1 r
  cases ru
  obtain ⟨its, _, p1, _⟩ := I.tuple ha
  exact call_tuple_same (items := its.toArray) p1 ⟨.ref a, H, I, rfl, q⟩
end
end L2

namespace L2
open PySem PySem.Spec PyProof.Rows

/-! ### places -/
/-- the place that an index of any sign means -/
def ixN (n : Nat) (i : Int) : Option Nat := if 0 ≤ i then (if i < n then some i.toNat else none) else if -(n : Int) ≤ i then some (i + n).toNat else none
def atI {α : Type} (xs : List α) (i : Int) : Option α := (ixN xs.length i).bind fun j => xs[j]?
theorem ixN_seq {n : Nat} {i : Int} {j : Nat} (h : ixN n i = some j) : seqIndex? i n = some j ∧ j < n ∧ -(n : Int) ≤ i ∧ i < n := by
  unfold ixN at h
  by_cases h0 : 0 ≤ i
  · rw [if_pos h0] at h
    by_cases h1 : i < n
    · rw [if_pos h1] at h
      have e : i.toNat = j := Option.some.inj h
      exact ⟨by rw [seqIndex_of h0 h1, e], by omega, by omega, h1⟩
    · rw [if_neg h1] at h; cases h
  · rw [if_neg h0] at h
    by_cases h1 : -(n : Int) ≤ i
    · rw [if_pos h1] at h
      have e : (i + n).toNat = j := Option.some.inj h
      exact ⟨by rw [seqIndex_neg (by omega) h1, e], by omega, h1, by omega⟩
    · rw [if_neg h1] at h; cases h
theorem atI_get {α : Type} {xs : List α} {i : Int} {v : α} (h : atI xs i = some v) : ∃ j, seqIndex? i xs.length = some j ∧ xs[j]? = some v ∧ j < xs.length ∧ -(xs.length : Int) ≤ i ∧ i < xs.length := by
  unfold atI at h
  cases e : ixN xs.length i with
  | none => rw [e] at h; cases h
  | some j =>
    rw [e] at h
    obtain ⟨h1, h2, h3, h4⟩ := ixN_seq e
    exact ⟨j, h1, h, h2, h3, h4⟩
theorem atI_nat {α : Type} {xs : List α} {j : Nat} {v : α} (h : xs[j]? = some v) : atI xs (j : Int) = some v := by
  have hj : j < xs.length := (List.getElem?_eq_some_iff.mp h).1
  have e : ixN xs.length (j : Int) = some j := by
    unfold ixN
    rw [if_pos (by omega), if_pos (by omega)]; simp
  unfold atI; rw [e]; exact h
theorem atI_last {α : Type} (xs : List α) (v : α) : atI (xs ++ [v]) (-1) = some v := by
  have hl : (xs ++ [v]).length = xs.length + 1 := by simp
  have e : ixN (xs ++ [v]).length (-1) = some xs.length := by
    unfold ixN
    rw [hl, if_neg (by decide), if_pos (by omega)]
    congr 1
    omega
  unfold atI
  rw [e]
  show (xs ++ [v])[xs.length]? = some v
  simp

/-! ### what may be subscripted -/
/-- what stands as an index of a plain subscript -/
def PlainIx (b : Expr) : Prop := ∀ o i, subscripted b false o i = operate [o, i] (getItem o i)
/-- a subscript by values -/
def IxR (X : Cx) (r : R2) : Prop :=
  ∀ (value slice : Expr) (pins : List (Addr × Obj)) (s : Shared) (σ : St) (H : Hp) (x y : V) (v u : Value) (Q : VK), Inv X pins σ H s → RelV x v → RelV y u → r x y H Q →
    subscripted slice false v u = operate [v, u] (getItem v u) → wpAny (model X.prog X.w) X.A (subscriptTail value slice v u) (EP X pins σ Q) X.xe s
/-- a call of a builtin's method by values: the receiver, the arguments -/
def MtR (X : Cx) (id : String) (r : V → List V → Hp → VK → Prop) : Prop :=
  ∀ (pins : List (Addr × Obj)) (s : Shared) (σ : St) (H : Hp) (x : V) (xs : List V) (v : Value) (us : List Value) (Q : VK), Inv X pins σ H s → RelV x v → Vals xs us → r x xs H Q →
    wpAny (model X.prog X.w) X.A (call (.builtin id) (v :: us)) (EP X pins σ Q) X.xe s
section
variable {X : Cx} {a b : Expr} {ta tb : TE} {pos : Pos}
theorem IxR.or {r r' : R2} (h : IxR X r) (h' : IxR X r') : IxR X (fun x y H Q => r x y H Q ∨ r' x y H Q) := by
  intro value slice pins s σ H x y v u Q I rx ry q hs
  rcases q with q | q
  · exact h value slice pins s σ H x y v u Q I rx ry q hs
  · exact h' value slice pins s σ H x y v u Q I rx ry q hs
theorem MtR.or {id : String} {r r' : V → List V → Hp → VK → Prop} (h : MtR X id r) (h' : MtR X id r') : MtR X id (fun x xs H Q => r x xs H Q ∨ r' x xs H Q) := by
  intro pins s σ H x xs v us Q I rx rs q
  rcases q with q | q
  · exact h pins s σ H x xs v us Q I rx rs q
  · exact h' pins s σ H x xs v us Q I rx rs q
/-- a[b] -/
theorem pe_ix {r : R2} (hr : IxR X r) (ha : PE X a ta) (hb : PE X b tb) (hs : PlainIx b) : PE X (.Subscript a b pos) (tOp r ta tb) := by
  intro pins s σ H Q I h
  exact Subscript_ (binT ha hb I h fun v u s2 x y H2 I2 rx ry q => hr a b pins s2 σ H2 x y v u Q I2 rx ry q (hs _ _))

def rIxL (K : PySem.W.Frag) : R2 := fun x y H Q => ∃ p xs i v, x = .ref p ∧ y = .int i ∧ SqL K H p xs ∧ atI xs i = some v ∧ Q v H
def rIxT (K : PySem.W.Frag) : R2 := fun x y H Q => ∃ p xs i v, x = .ref p ∧ y = .int i ∧ SqT K H p xs ∧ atI xs i = some v ∧ Q v H
def rIxS : R2 := fun x y H Q => ∃ z i c, x = .str z ∧ y = .int i ∧ z.length ≤ sizeLine ∧ atI z.cps.toList i = some c ∧ Q (.str ⟨#[c]⟩) H
theorem ix_list : IxR X (rIxL X.K) := by
  intro value slice pins s σ H x y v u Q I rx ry h hs
  obtain ⟨p, xs, i, z, rfl, rfl, hq, he, q⟩ := h
  cases rx
  obtain ⟨t, rfl⟩ := ry
  obtain ⟨its, r, pl, hz⟩ := I.list hq
  obtain ⟨j, h1, h2, h3, h4, h5⟩ := atI_get he
  obtain ⟨w, ew, rw'⟩ := r.get h2
  have hl := r.length
  have hn := line63
  have fin : EP X pins σ Q w s := ⟨z, H, I, rw', q⟩
  by_cases h0 : 0 ≤ i
  · have hj : i.toNat = j := by
      rw [seqIndex_of h0 h5] at h1
      exact Option.some.inj h1
    exact item_listR pl.isList h0 (by omega) (by rw [hj]; simpa using ew) fin hs
  · have hj : (i + (its.toArray.size : Int)).toNat = j := by
      rw [seqIndex_neg (by omega) h4] at h1
      rw [List.size_toArray, ← hl]
      exact Option.some.inj h1
    exact subscriptTail_builtinR (x := w) pl.isList.typeIs slot_list_getitem.lookup
      (wpAny_getItem_list_neg (Q := fun r s' => r = w ∧ EP X pins σ Q r s') pl.isList (by omega) (by rw [List.size_toArray] <;> omega) (by omega) (by rw [hj]; simpa using ew) ⟨rfl, fin⟩) hs
theorem ix_tup : IxR X (rIxT X.K) := by
  intro value slice pins s σ H x y v u Q I rx ry h hs
  obtain ⟨p, xs, i, z, rfl, rfl, hq, he, q⟩ := h
  cases rx
  obtain ⟨t, rfl⟩ := ry
  obtain ⟨its, r, pl, hz⟩ := I.tuple hq
  obtain ⟨j, h1, h2, h3, h4, h5⟩ := atI_get he
  obtain ⟨w, ew, rw'⟩ := r.get h2
  have hl := r.length
  have hn := line63
  have fin : EP X pins σ Q w s := ⟨z, H, I, rw', q⟩
  exact subscriptTail_builtinR (x := w) pl.typeIs slot_tuple_getitem.lookup
    (getItem_tuple (j := j) (Q := fun r s' => r = w ∧ EP X pins σ Q r s') pl (by omega) (by omega) (by rw [List.size_toArray, ← hl]; exact h1) (by simpa using ew) ⟨rfl, fin⟩) hs
theorem ix_str : IxR X rIxS := by
  intro value slice pins s σ H x y v u Q I rx ry h hs
  obtain ⟨z, i, c, rfl, rfl, hz, he, q⟩ := h
  obtain ⟨t, rfl⟩ := rx
  obtain ⟨t', rfl⟩ := ry
  obtain ⟨j, h1, h2, h3, h4, h5⟩ := atI_get he
  have hl : z.cps.toList.length = z.length := by simp [Str.length]
  rw [hl] at h1 h4 h5
  have hn := line63
  exact tail_any (typeIs_str s z t) slot_str_getitem.lookup (getItem_str (c := c) (by
    have e1 : decide (i < -(2 ^ 63 : Int)) = false := decide_eq_false (by omega)
    have e2 : decide (i ≥ 2 ^ 63) = false := decide_eq_false (by omega)
    rw [e1, e2, Bool.or_false]) (by rw [h1]; simpa using h2) ⟨.str ⟨#[c]⟩, H, I.tok _, ⟨_, rfl⟩, q⟩) hs
/-- list, tuple or str -/
def rIx (K : PySem.W.Frag) : R2 := fun x y H Q => rIxL K x y H Q ∨ rIxT K x y H Q ∨ rIxS x y H Q
theorem ix_seq : IxR X (rIx X.K) := ix_list.or (ix_tup.or ix_str)

/-! ### xs[i] = v, any sign -/
/-- the list's object behind a store -/
theorem mapSeq_set (its : List Value) (n j : Nat) (u : Value) : Obj.mapSeq (·.setIfInBounds j u) { cls := .type "list", data := .seq its.toArray n } = { cls := .type "list", data := .seq (its.set j u).toArray n } := by
  simp [Obj.mapSeq]
theorem Inv.lst {pins : List (Addr × Obj)} {σ : St} {H : Hp} {s : Shared} {p : Addr} {xs : List V} (I : Inv X pins σ H s) (h : H p = some (.lst xs)) :
    ∃ (its : List Value) (n : Nat), Vals xs its ∧ s.heap.get? p = some { cls := .type "list", data := .seq its.toArray n } ∧ xs.length ≤ sizeLine := by
  obtain ⟨z, its, n, r, e⟩ := I.hok p _ h
  exact ⟨its, n, r, e, z⟩
/-- the list at p is written by an update of its object -/
theorem Inv.lstUpd {pins : List (Addr × Obj)} {σ : St} {H : Hp} {s : Shared} {p : Addr} {xs ys : List V} {its its' : List Value} {n n' : Nat} {f : Obj → Obj} (I : Inv X pins σ H s) (h : H p = some (.lst xs))
    (ho : s.heap.get? p = some { cls := .type "list", data := .seq its.toArray n }) (hf : f { cls := .type "list", data := .seq its.toArray n } = { cls := .type "list", data := .seq its'.toArray n' }) (r : Vals ys its') (hz : ys.length ≤ sizeLine) (t : Nat) :
    Inv X pins σ (upd H p (.lst ys)) { s with heap := s.heap.update p f, toks := t } := by
  have e : (s.heap.update p f).get? p = some { cls := .type "list", data := .seq its'.toArray n' } := by
    rw [Heap.get?_update_self f ho (by rw [hf] <;> rfl), hf]
  refine I.write (x := p) (e := p) (by rw [h]; trivial) (.inl rfl) (fun b u hb q => (Heap.get?_update_other _ _ (Ne.symm hb)).trans q) ⟨_, e⟩ ?_
  exact ⟨hz, its', n', r, e⟩
def rSetL : V → V → V → Hp → (Hp → Prop) → Prop := fun o i v H Q => ∃ p xs k j, o = .ref p ∧ i = .int k ∧ H p = some (.lst xs) ∧ ixN xs.length k = some j ∧ Q (upd H p (.lst (xs.set j v)))
theorem set_list : PSet X rSetL := by
  intro pins s σ H o i v ov iv u Q I ro ri rv h
  obtain ⟨p, xs, k, j, rfl, rfl, hp, hj, q⟩ := h
  cases ro
  obtain ⟨t, rfl⟩ := ri
  obtain ⟨its, n, r, ho, hz⟩ := I.lst hp
  obtain ⟨h1, h2, h3, h4⟩ := ixN_seq hj
  have hl := r.length
  have hn := line63
  have I' : Inv X pins σ (upd H p (.lst (xs.set j v))) { s with heap := s.heap.update p (Obj.mapSeq (·.setIfInBounds j u)) } :=
    I.lstUpd hp ho (mapSeq_set its n j u) (r.set rv j) (by rw [List.length_set]; exact hz) s.toks
  by_cases h0 : 0 ≤ k
  · have hk : k.toNat = j := by
      rw [seqIndex_of h0 h4] at h1
      exact Option.some.inj h1
    exact PySem.W.ki_setAt ho h0 (by omega) (by rw [List.size_toArray, ← hl]; exact h4) (by rw [hk]; exact ⟨_, I', q⟩)
  · have hk : (k + (its.toArray.size : Int)).toNat = j := by
      rw [seqIndex_neg (by omega) h3] at h1
      rw [List.size_toArray, ← hl]
      exact Option.some.inj h1
    exact PySem.W.ki_setBack ho (by omega) (by rw [List.size_toArray, ← hl]; exact h3) (by omega) (by rw [hk]; exact ⟨_, I', q⟩)

/-! ### slices -/
theorem slice_bounds (lo hi : Option Int) (n : Nat) : (sliceBounds lo hi none n).1 = ((HT.sIx n 0 lo : Nat) : Int) ∧ (sliceBounds lo hi none n).2.1 = ((HT.sIx n n hi : Nat) : Int) ∧ (sliceBounds lo hi none n).2.2 = 1 := by
  refine ⟨?_, ?_, rfl⟩
  · cases lo with
    | none => simp [sliceBounds, HT.sIx]
    | some i =>
      simp only [sliceBounds, HT.sIx, Option.getD_none, show (1 : Int) > 0 by decide, if_true]
      by_cases h : i < 0
      · simp only [h, if_true] <;> omega
      · simp only [h, if_false] <;> omega
  · cases hi with
    | none => simp [sliceBounds, HT.sIx]
    | some i =>
      simp only [sliceBounds, HT.sIx, Option.getD_none, show (1 : Int) > 0 by decide, if_true]
      by_cases h : i < 0
      · simp only [h, if_true] <;> omega
      · simp only [h, if_false] <;> omega
theorem slicePick_cut (its : List Value) (lo hi : Option Int) : slicePick its.toArray lo hi none = ((its.drop (HT.sIx its.length 0 lo)).take (HT.sIx its.length its.length hi - HT.sIx its.length 0 lo)).toArray := by
  obtain ⟨h1, h2, h3⟩ := slice_bounds lo hi its.toArray.size
  unfold slicePick
  rw [h1, h2, h3]
  simp only [sliceRange_one, pick_run, List.size_toArray] <;> rfl
/-- xs[lo:hi] of a list: a new list -/
def rSlL (K : PySem.W.Frag) : V → Option Int → Option Int → Hp → VK → Prop := fun x lo hi H Q => ∃ a xs, x = .ref a ∧ SqL K H a xs ∧ ∀ p, H p = none → Q (.ref p) (upd H p (.lst (cutV xs lo hi)))
theorem sl_list : SlR X (rSlL X.K) := by
  intro pins s σ H x v vl vu lo hi sl Q I rx hs pl pu h
  obtain ⟨a, xs, rfl, hx, q⟩ := h
  cases rx
  obtain ⟨its, r, ht, hz⟩ := I.list hx
  have hlen := r.length
  refine ⟨"list", _, slot_list_getitem.lookup, ht.isList.typeIs, ?_⟩
  refine wpAny_getItem_list_slice ht.isList hs pl pu .none (by simp) ?_ (by rw [List.size_toArray] <;> omega)
  rw [slicePick_cut, ← hlen]
  refine ⟨.ref s.heap.objs.size, _, I.laid (t' := s.toks) (o := .lst (cutV xs lo hi)) (fun b ob q => Heap.get?_push_of_some _ q) (Nat.le_refl _) ?_, rfl, q _ (I.hok.fresh (Nat.le_refl _))⟩
  exact ⟨Nat.le_trans (cutV_length xs lo hi) hz, _, 0, (r.drop (HT.sIx xs.length 0 lo)).take (HT.sIx xs.length xs.length hi - HT.sIx xs.length 0 lo), Heap.get?_push_size _ rfl⟩

/-! ### in, not in: flat items -/
def flatV : V → Bool
  | .non => true
  | .bl _ => true
  | .int _ => true
  | .str _ => true
  | _ => false
/-- == of flat values -/
def eqV : V → V → Bool
  | .non, .non => true
  | .bl a, .bl b => a == b
  | .bl a, .int b => (if a then 1 else 0) == b
  | .int a, .bl b => a == (if b then 1 else 0)
  | .int a, .int b => a == b
  | .str a, .str b => a == b
  | _, _ => false
theorem eqAt_V {A : Around} {s : Shared} {y x : V} {u v : Value} (ry : RelV y u) (rx : RelV x v) (fy : flatV y = true) (fx : flatV x = true) : SeqAt.EqAt A s u v (eqV y x) := by
  cases y with
  | non =>
    cases ry
    cases x with
    | non => cases rx; exact SeqAt.EqAt.same _
    | bl b => cases rx; exact SeqAt.EqAt.none_bool b
    | int b => obtain ⟨t, rfl⟩ := rx; exact SeqAt.EqAt.none_int b t
    | str b => obtain ⟨t, rfl⟩ := rx; exact SeqAt.EqAt.none_str b t
    | _ => exact absurd (show false = true from fx) Bool.false_ne_true
  | bl a =>
    cases ry
    cases x with
    | non => cases rx; exact SeqAt.EqAt.bool_none a
    | bl b => cases rx; exact SeqAt.EqAt.bool_bool a b
    | int b => obtain ⟨t, rfl⟩ := rx; exact SeqAt.EqAt.bool_int a b t
    | str b => obtain ⟨t, rfl⟩ := rx; exact SeqAt.EqAt.bool_str a b t
    | _ => exact absurd (show false = true from fx) Bool.false_ne_true
  | int a =>
    obtain ⟨t', rfl⟩ := ry
    cases x with
    | non => cases rx; exact SeqAt.EqAt.int_none a t'
    | bl b => cases rx; exact SeqAt.EqAt.int_bool a t' b
    | int b => obtain ⟨t, rfl⟩ := rx; exact SeqAt.EqAt.int_int a t' b t
    | str b => obtain ⟨t, rfl⟩ := rx; exact SeqAt.EqAt.int_str a t' b t
    | _ => exact absurd (show false = true from fx) Bool.false_ne_true
  | str a =>
    obtain ⟨t', rfl⟩ := ry
    cases x with
    | non => cases rx; exact SeqAt.EqAt.str_none a t'
    | bl b => cases rx; exact SeqAt.EqAt.str_bool a t' b
    | int b => obtain ⟨t, rfl⟩ := rx; exact SeqAt.EqAt.str_int a t' b t
    | str b => obtain ⟨t, rfl⟩ := rx; exact SeqAt.EqAt.str_str a t' b t
    | _ => exact absurd (show false = true from fx) Bool.false_ne_true
  | _ => exact absurd (show false = true from fy) Bool.false_ne_true
/-- the items' answers, read off the values (a value's own answer does not lean on its token) -/
def eqU (x : V) (u : Value) : Bool := match u with
  | .none => eqV .non x
  | .bool b => eqV (.bl b) x
  | .int i _ => eqV (.int i) x
  | .str z _ => eqV (.str z) x
  | _ => false
theorem eqU_of {x y : V} {u : Value} (r : RelV y u) (f : flatV y = true) : eqU x u = eqV y x := by
  cases y with
  | non => cases r; rfl
  | bl b => cases r; rfl
  | int i => obtain ⟨t, rfl⟩ := r; rfl
  | str z => obtain ⟨t, rfl⟩ := r; rfl
  | _ => exact absurd (show false = true from f) Bool.false_ne_true
theorem any_eqU {x : V} : ∀ {xs : List V} {us : List Value}, Vals xs us → xs.all flatV = true → us.any (eqU x) = xs.any fun y => eqV y x
  | _, _, .nil, _ => rfl
  | y :: xs, u :: us, .cons r t, f => by
    rw [List.all_cons, Bool.and_eq_true] at f
    rw [List.any_cons, List.any_cons, eqU_of r f.1, any_eqU t f.2]
theorem mem_eqAt {A : Around} {s : Shared} {x : V} {v : Value} (rx : RelV x v) (fx : flatV x = true) : ∀ {xs : List V} {us : List Value}, Vals xs us → xs.all flatV = true → ∀ u ∈ us, SeqAt.EqAt A s u v (eqU x u)
  | _, _, .nil, _ => fun u hu => by cases hu
  | y :: xs, u :: us, .cons r t, f => fun u' hu => by
    rw [List.all_cons, Bool.and_eq_true] at f
    rcases List.mem_cons.mp hu with rfl | hu
    · rw [eqU_of r f.1]; exact eqAt_V r rx f.1 fx
    · exact mem_eqAt rx fx t f.2 u' hu
def inV (x : V) (xs : List V) : Bool := xs.any fun y => eqV y x
/-- x in a list or tuple of flat items -/
def rIn (K : PySem.W.Frag) (neg : Bool) : R2 := fun x y H Q => ∃ p xs, y = .ref p ∧ (SqL K H p xs ∨ SqT K H p xs) ∧ flatV x = true ∧ xs.all flatV = true ∧ Q (.bl (if neg then !inV x xs else inV x xs)) H
theorem op_in_seq : OpR X (compareOp .In) (rIn X.K false) := by
  intro pins s σ H x y v u Q I rx ry h
  obtain ⟨p, xs, rfl, hq, fx, fs, q⟩ := h
  cases ry
  rcases hq with hq | hq
  · obtain ⟨its, r, pl, hz⟩ := I.list hq
    refine SeqAt.in_listAt (eqU x) pl.isList (fun w hw => mem_eqAt rx fx r fs w (by simpa using hw)) ⟨.bl _, H, I, rfl, ?_⟩
    rw [show its.toArray.any (eqU x) = its.any (eqU x) by simp, any_eqU r fs]
    exact q
  · obtain ⟨its, r, pl, hz⟩ := I.tuple hq
    refine SeqAt.in_tupleAt (eqU x) pl (fun w hw => mem_eqAt rx fx r fs w (by simpa using hw)) ⟨.bl _, H, I, rfl, ?_⟩
    rw [show its.toArray.any (eqU x) = its.any (eqU x) by simp, any_eqU r fs]
    exact q
theorem op_notIn_seq : OpR X (compareOp .NotIn) (rIn X.K true) := by
  intro pins s σ H x y v u Q I rx ry h
  obtain ⟨p, xs, rfl, hq, fx, fs, q⟩ := h
  cases ry
  rcases hq with hq | hq
  · obtain ⟨its, r, pl, hz⟩ := I.list hq
    refine SeqAt.notIn_listAt (eqU x) pl.isList (fun w hw => mem_eqAt rx fx r fs w (by simpa using hw)) ⟨.bl _, H, I, rfl, ?_⟩
    rw [show its.toArray.any (eqU x) = its.any (eqU x) by simp, any_eqU r fs]
    exact q
  · obtain ⟨its, r, pl, hz⟩ := I.tuple hq
    refine SeqAt.notIn_tupleAt (eqU x) pl (fun w hw => mem_eqAt rx fx r fs w (by simpa using hw)) ⟨.bl _, H, I, rfl, ?_⟩
    rw [show its.toArray.any (eqU x) = its.any (eqU x) by simp, any_eqU r fs]
    exact q
theorem op_notIn_str : OpR X (compareOp .NotIn) (fun x y H Q => ∃ i j, x = .str i ∧ y = .str j ∧ Q (.bl (!(!(Builtin.Str.occurrences j i 0 j.length 1).isEmpty))) H) := by
  intro pins s σ H x y v u Q I rx ry h
  obtain ⟨i, j, rfl, rfl, q⟩ := h
  obtain ⟨t, rfl⟩ := rx
  obtain ⟨t', rfl⟩ := ry
  exact notIn_str ⟨.bl _, H, I, rfl, q⟩

/-! ### len, list(x), tuple(x) of any list or tuple that is read -/
theorem call_len_seq : CallR X (.builtin "len") (fun xs H Q => ∃ p ys, xs = [.ref p] ∧ (SqL X.K H p ys ∨ SqT X.K H p ys) ∧ Q (.int ys.length) H) := by
  intro pins s σ H xs us Q I r h
  obtain ⟨p, ys, rfl, hq, q⟩ := h
  obtain ⟨u, rfl, rx⟩ := vals1 r
  cases rx
  have hn := line63
  rcases hq with hq | hq
  · obtain ⟨its, r', pl, hz⟩ := I.list hq
    have hlen := r'.length
    exact Calls.call_len_list pl.isList (by simp only [List.size_toArray] <;> omega) ⟨.int ys.length, H, I.tok _, ⟨s.toks + 1, by rw [List.size_toArray, hlen]⟩, q⟩
  · obtain ⟨its, r', pl, hz⟩ := I.tuple hq
    have hlen := r'.length
    exact len_tuple pl (by simp only [List.size_toArray] <;> omega) ⟨.int ys.length, H, I.tok _, ⟨s.toks + 1, by rw [List.size_toArray, hlen]⟩, q⟩
theorem call_len_str : CallR X (.builtin "len") (fun xs H Q => ∃ z, xs = [.str z] ∧ z.length ≤ sizeLine ∧ Q (.int z.length) H) := by
  intro pins s σ H xs us Q I r h
  obtain ⟨z, rfl, hz, q⟩ := h
  obtain ⟨u, rfl, t, rfl⟩ := vals1 r
  have hn := line63
  exact len_str (by omega) ⟨.int z.length, H, I.tok _, ⟨_, rfl⟩, q⟩
theorem CallR.or {f : Value} {r r' : List V → Hp → VK → Prop} (h : CallR X f r) (h' : CallR X f r') : CallR X f (fun xs H Q => r xs H Q ∨ r' xs H Q) := by
  intro pins s σ H xs us Q I rs q
  rcases q with q | q
  · exact h pins s σ H xs us Q I rs q
  · exact h' pins s σ H xs us Q I rs q
theorem call_list_of : CallR X (.type "list") (fun xs H Q => ∃ p ys, xs = [.ref p] ∧ (SqL X.K H p ys ∨ SqT X.K H p ys) ∧ ∀ l, H l = none → Q (.ref l) (upd H l (.lst ys))) := by
  intro pins s σ H xs us Q I r h
  obtain ⟨p, ys, rfl, hq, q⟩ := h
  obtain ⟨u, rfl, rx⟩ := vals1 r
  cases rx
  have fin : ∀ (its : List Value), Vals ys its → ys.length ≤ sizeLine → ∀ (h' : Heap) (c' : Nat), (∀ b o', s.heap.get? b = some o' → h'.get? b = some o') →
      h'.get? s.heap.objs.size = some { cls := .type "list", dict := none, data := .seq its.toArray c', slots := #[] } → EP X pins σ Q (.ref s.heap.objs.size) { s with heap := h' } := fun its r' hz h' c' kp e =>
    ⟨.ref s.heap.objs.size, _, I.laid (t' := s.toks) kp (Nat.le_refl _) (show ObjOk X.prog X.w _ h' _ (.lst ys) from ⟨hz, its, c', r', e⟩), rfl, q _ (I.hok.fresh (Nat.le_refl _))⟩
  rcases hq with hq | hq
  · obtain ⟨its, r', pl, hz⟩ := I.list hq
    have hlen := r'.length
    obtain ⟨o, ho, hc, n, hd⟩ := pl.isList
    exact call_list_seq p (.inl rfl) ho hc hd (fun h' c' kp e => fin its r' hz h' c' kp e) (by simp only [List.size_toArray] <;> omega)
  · obtain ⟨its, r', pl, hz⟩ := I.tuple hq
    have hlen := r'.length
    obtain ⟨o, ho, hc, n, hd⟩ := pl
    exact call_list_seq p (.inr rfl) ho hc hd (fun h' c' kp e => fin its r' hz h' c' kp e) (by simp only [List.size_toArray] <;> omega)
theorem call_tuple_of : CallR X (.type "tuple") (fun xs H Q => ∃ p ys, xs = [.ref p] ∧ ((SqL X.K H p ys ∧ ∀ l, H l = none → Q (.ref l) (upd H l (.tup ys))) ∨ (SqT X.K H p ys ∧ Q (.ref p) H))) := by
  intro pins s σ H xs us Q I r h
  obtain ⟨p, ys, rfl, h⟩ := h
  obtain ⟨u, rfl, rx⟩ := vals1 r
  cases rx
  rcases h with ⟨hq, q⟩ | ⟨hq, q⟩
  · obtain ⟨its, r', pl, hz⟩ := I.list hq
    have hlen := r'.length
    refine call_tuple_list pl.isList (fun h' kp => ?_) (by simp only [List.size_toArray] <;> omega)
    have I1 : Inv X pins σ H { s with heap := h' } := I.kept (t' := s.toks) kp
    have I2 : Inv X pins σ (upd H h'.objs.size (.tup ys)) { s with heap := h'.push { cls := .type "tuple", data := .seq its.toArray } } :=
      I1.laid (t' := s.toks) (fun b o e => Heap.get?_push_of_some _ e) (Nat.le_refl _) (show ObjOk X.prog X.w _ _ _ (.tup ys) from ⟨hz, its, r', IsTup.new _ _⟩)
    exact ⟨.ref h'.objs.size, _, I2, rfl, q _ (I1.hok.fresh (Nat.le_refl _))⟩
  · obtain ⟨its, r', pl, hz⟩ := I.tuple hq
    exact call_tuple_same pl ⟨.ref p, H, I, rfl, q⟩

/-! ### the call of a builtin's method: o.m(..) -/
/-- the value is of that builtin type -/
def tyV (K : PySem.W.Frag) (T : String) (x : V) (H : Hp) : Prop := match x with
  | .str _ => T = "str"
  | .int _ => T = "int"
  | .ref p => (T = "list" ∧ ∃ xs, SqL K H p xs) ∨ (T = "tuple" ∧ ∃ o, K.lookup p = some o ∧ o.cls = .type "tuple" ∧ o.dict = none) ∨
      (T = "dict" ∧ ((∃ kvs, H p = some (.dK kvs)) ∨ ∃ kvs, H p = some (.dT kvs))) ∨ (T = "set" ∧ ∃ S n, H p = some (.set S n))
  | _ => False
theorem tyV_is {pins : List (Addr × Obj)} {σ : St} {H : Hp} {s : Shared} {T : String} {x : V} {v : Value} (I : Inv X pins σ H s) (r : RelV x v) (ty : tyV X.K T x H) :
    s.TypeIs v T ∧ ∀ a, v = .ref a → ∃ ob, s.heap.get? a = some ob ∧ ob.dict = none := by
  cases x with
  | str z =>
    obtain ⟨t, rfl⟩ := r
    cases (show T = "str" from ty)
    exact ⟨typeIs_str s z t, fun _ e => nomatch e⟩
  | int i =>
    obtain ⟨t, rfl⟩ := r
    cases (show T = "int" from ty)
    exact ⟨typeIs_int s i t, fun _ e => nomatch e⟩
  | ref p =>
    cases r
    rcases ty with ⟨rfl, xs, hq⟩ | ⟨rfl, o, hk, hc, hd⟩ | ⟨rfl, hk⟩ | ⟨rfl, S, n, hk⟩
    · obtain ⟨its, _, pl, _⟩ := I.list hq
      refine ⟨pl.isList.typeIs, fun a e => ?_⟩
      cases e
      obtain ⟨o, n, e, c, hd, _⟩ := pl
      exact ⟨o, e, hd⟩
    · refine ⟨⟨o, I.kIn p o hk, hc⟩, fun a e => ?_⟩
      cases e
      exact ⟨o, I.kIn _ o hk, hd⟩
    · have z : ∃ o, s.heap.get? p = some o ∧ o.ExactDict := by
        rcases hk with ⟨kvs, hk⟩ | ⟨kvs, hk⟩
        · obtain ⟨_, _, _, _, o, _, _, e, ex, _⟩ := I.hok p _ hk
          exact ⟨o, e, ex⟩
        · obtain ⟨_, _, _, _, o, _, _, e, ex, _⟩ := I.hok p _ hk
          exact ⟨o, e, ex⟩
      obtain ⟨o, e, ex⟩ := z
      refine ⟨⟨o, e, ex.1⟩, fun a e2 => ?_⟩
      cases e2
      exact ⟨o, e, ex.2.1⟩
    · obtain ⟨o, _, _, _, e, ex, _⟩ := I.hok p _ hk
      refine ⟨⟨o, e, ex.1⟩, fun a e2 => ?_⟩
      cases e2
      exact ⟨o, e, ex.2.1⟩
  | _ => exact False.elim ty
def tBM0 (K : PySem.W.Frag) (T : String) (r : V → List V → Hp → VK → Prop) (to : TE) : TE := fun σ H Q => to σ H fun x H1 => tyV K T x H1 ∧ r x [] H1 Q
def tBM (K : PySem.W.Frag) (T : String) (r : V → List V → Hp → VK → Prop) (to : TE) (t : TA) : TE := fun σ H Q => to σ H fun x H1 => tyV K T x H1 ∧ t σ H1 fun xs H2 => r x xs H2 Q
variable {o e : Expr} {es : List Expr} {to : TE} {t : TA} {name : Str} {apos cpos : Pos} {T id : String} {r : V → List V → Hp → VK → Prop}
theorem pe_bm0 (pa : PlainAttrs T) (slot : Slot T name id) (hty : typeOf (.builtin id) = pure (.type "method_descriptor")) (hm : MtR X id r) (ho : PE X o to)
    (hbase : attributeBase o name X.env (eval o X.env) = eval o X.env := by rfl) (hline : (apos.endLine == cpos.line) = true := by rfl) : PE X (.Call (.Attribute o name apos) [] [] cpos) (tBM0 X.K T r to) := by
  intro pins s σ H Q I h
  refine wpAny_Call_method0_late hbase hline (thn (ho pins s σ H _ I h) fun v s1 ⟨x, H1, I1, r1, ty, q1⟩ => ?_)
  obtain ⟨h1, h2⟩ := tyV_is I1 r1 ty
  exact ⟨T, id, pa, slot, hty, h1, h2, Calls.callWith_builtin rfl (PySem.evalArgs_none (hm pins s1 σ H1 x [] v [] Q I1 r1 .nil q1))⟩
theorem pe_bm (pa : PlainAttrs T) (slot : Slot T name id) (hty : typeOf (.builtin id) = pure (.type "method_descriptor")) (hm : MtR X id r) (ho : PE X o to) (ha : PA X (e :: es) t)
    (hbase : attributeBase o name X.env (eval o X.env) = eval o X.env := by rfl)
    (hfew : ((backTo cpos (starEach (e :: es) X.env)).all (fun x => !x.1) && (backToKw cpos (keywordEach [] X.env)).all (fun x => x.1.isSome)
      && decide ((e :: es).length + ([] : List Keyword).length + (if ([] : List Keyword).isEmpty then 0 else 1) < 30)) = true := by rfl)
    (hline : (apos.endLine == cpos.line) = true := by rfl) (hs : starEach (e :: es) X.env = (false, eval e X.env) :: starEach es X.env := by rfl) (hplain : (backTo cpos (starEach es X.env)).any (·.1) = false := by rfl) :
    PE X (.Call (.Attribute o name apos) (e :: es) [] cpos) (tBM X.K T r to t) := by
  intro pins s σ H Q I h
  refine wpAny_Call_method_late hbase hfew hline rfl (thn (ho pins s σ H _ I h) fun v s1 ⟨x, H1, I1, r1, ty, q1⟩ => ?_)
  obtain ⟨h1, h2⟩ := tyV_is I1 r1 ty
  refine ⟨T, id, pa, slot, hty, h1, h2, ?_⟩
  have hA := ha cpos pins s1 σ H1 _ I1 q1
  rw [hs] at hA ⊢
  refine Calls.callWith_builtin (by show (false || (backTo cpos (starEach es X.env)).any (·.1)) = false; rw [hplain] <;> rfl) (Calls.evalArgs_plain ?_)
  exact thn hA fun us s2 ⟨vs, H2, I2, r2, q2⟩ => hm pins s2 σ H2 x vs v us Q I2 r1 r2 q2
/- xs.append(e), list.index on a module's tuple .. are MtR facts of 06m -/
end
end L2

namespace L2
open PySem PySem.Spec PyProof.Rows

def MtM (X : Cx) (id : String) (r : V → List V → Hp → VK → Prop) : Prop :=
  ∀ (pins : List (Addr × Obj)) (s : Shared) (σ : St) (H : Hp) (x : V) (xs : List V) (v : Value) (us : List Value) (Q : VK), Inv X pins σ H s → RelV x v → Vals xs us → r x xs H Q →
    wpAny (model X.prog X.w) X.A (call (.builtin id) (v :: us)) (EP X pins σ Q) X.xe s

/-! ### lists of values -/
theorem Vals.one : ∀ {x : V} {us : List Value}, Vals [x] us → ∃ u, us = [u] ∧ RelV x u
  | _, _, .cons r .nil => ⟨_, rfl, r⟩
theorem Vals.two : ∀ {x y : V} {us : List Value}, Vals [x, y] us → ∃ u v, us = [u, v] ∧ RelV x u ∧ RelV y v
  | _, _, _, .cons r (.cons q .nil) => ⟨_, _, rfl, r, q⟩
theorem Vals.zero : ∀ {us : List Value}, Vals [] us → us = []
  | _, .nil => rfl
theorem Vals.dropLast {xs : List V} {us : List Value} (h : Vals xs us) : Vals xs.dropLast us.dropLast := by
  induction h with
  | nil => exact .nil
  | cons r t ih =>
    cases t with
    | nil => exact .nil
    | cons q t' => exact .cons r ih
theorem Vals.eraseIdx : ∀ {xs : List V} {us : List Value} (i : Nat), Vals xs us → Vals (xs.eraseIdx i) (us.eraseIdx i)
  | _, _, _, .nil => .nil
  | _, _, 0, .cons _ t => t
  | _, _, i + 1, .cons r t => .cons r (Vals.eraseIdx i t)
theorem Vals.reverse {xs : List V} {us : List Value} (h : Vals xs us) : Vals xs.reverse us.reverse := by
  induction h with
  | nil => exact .nil
  | cons r t ih => rw [List.reverse_cons, List.reverse_cons]; exact Vals.append ih (.cons r .nil)
theorem Vals.rep {xs : List V} {us : List Value} (h : Vals xs us) : ∀ k : Nat, Vals (List.replicate k xs).flatten (List.replicate k us).flatten
  | 0 => .nil
  | k + 1 => by
    rw [List.replicate_succ, List.replicate_succ, List.flatten_cons, List.flatten_cons]
    exact Vals.append h (Vals.rep h k)
theorem erase_last {α : Type} (l : List α) : l.eraseIdx (l.length - 1) = l.dropLast := by
  induction l with
  | nil => rfl
  | cons a r ih =>
    cases r with
    | nil => rfl
    | cons b r =>
      have e : (a :: b :: r).length - 1 = ((b :: r).length - 1) + 1 := by
        have h1 : (a :: b :: r).length = r.length + 2 := rfl
        have h2 : (b :: r).length = r.length + 1 := rfl
        omega
      rw [e, List.eraseIdx_cons_succ, ih]
      all_goals rfl
theorem len_erase {α : Type} : ∀ (l : List α) (i : Nat), (l.eraseIdx i).length ≤ l.length
  | [], _ => Nat.le_refl _
  | _ :: _, 0 => Nat.le_succ _
  | _ :: r, i + 1 => Nat.succ_le_succ (len_erase r i)
theorem foldl_rep (its : List Value) : ∀ (k : Nat) (acc : List Value),
    List.foldl (fun x1 x2 => x1 ++ x2) acc.toArray (List.replicate k its.toArray) = (acc ++ (List.replicate k its).flatten).toArray
  | 0, acc => by simp
  | k + 1, acc => by
    have e : acc.toArray ++ its.toArray = (acc ++ its).toArray := by simp
    have e2 : (acc ++ its) ++ (List.replicate k its).flatten = acc ++ (List.replicate (k + 1) its).flatten := by
      rw [List.replicate_succ, List.flatten_cons, List.append_assoc]
    rw [← e2, ← foldl_rep its k (acc ++ its), ← e, List.replicate_succ, List.foldl_cons]

section
variable {X : Cx} {pins : List (Addr × Obj)} {σ : St} {H : Hp} {s : Shared} {l b : Addr} {xs ys zs : List V}

/-! ### the two steps: a tracked list is rewritten, a new list is laid -/
theorem Inv.lset {its its' : List Value} {n : Nat} {f : Array Value → Array Value} {t' : Nat} (I : Inv X pins σ H s) (hH : H l = some (.lst xs))
    (e : s.heap.get? l = some { cls := .type "list", data := .seq its.toArray n }) (hf : f its.toArray = its'.toArray) (hv : Vals ys its') (hz : ys.length ≤ sizeLine) :
    Inv X pins σ (upd H l (.lst ys)) { s with heap := s.heap.update l (Obj.mapSeq f), toks := t' } := by
  have q := PySem.IsL.update e f
  rw [hf] at q
  refine I.write (x := l) (e := l) (by rw [hH]; exact trivial) (.inl rfl) (fun b' u hb hu => (Heap.get?_update_other s.heap (Obj.mapSeq f) (Ne.symm hb)).trans hu) ⟨_, q⟩ ?_
  exact ⟨hz, its', _, hv, q⟩
theorem Inv.lnew {its : List Value} {t' : Nat} (I : Inv X pins σ H s) (hv : Vals ys its) (hz : ys.length ≤ sizeLine) :
    Inv X pins σ (upd H s.heap.objs.size (.lst ys)) { s with heap := s.heap.push { cls := .type "list", data := .seq its.toArray }, toks := t' } :=
  I.laid (fun _ _ q => Heap.get?_push_of_some _ q) (Nat.le_refl _) ⟨hz, its, 0, hv, Heap.get?_push_size _ rfl⟩
theorem Inv.fresh (I : Inv X pins σ H s) : H s.heap.objs.size = none := I.hok.fresh (Nat.le_refl _)
theorem Inv.lstM (I : Inv X pins σ H s) (hH : H l = some (.lst xs)) : xs.length ≤ sizeLine ∧ ∃ (its : List Value) (n : Nat), Vals xs its ∧ xs.length = its.length ∧ s.heap.get? l = some { cls := .type "list", data := .seq its.toArray n } := by
  obtain ⟨z, its, n, r, e⟩ := I.hok l _ hH
  exact ⟨z, its, n, r, r.length, e⟩

theorem notLongL {n : Nat} (h : n ≤ sizeLine) : Builtin.List.listTooLong n = false := by
  unfold Builtin.List.listTooLong
  exact decide_eq_false (by omega)
end

section
variable {X : Cx}

/-! ### methods -/
def rAppend : V → List V → Hp → VK → Prop := fun x vs H Q => ∃ l xs y, x = .ref l ∧ vs = [y] ∧ H l = some (.lst xs) ∧ xs.length < sizeLine ∧ Q .non (upd H l (.lst (xs ++ [y])))
theorem mt_append : MtM X "list.append" rAppend := by
  intro pins s σ H x vs v us Q I rx rv h
  obtain ⟨l, xs, y, rfl, rfl, hH, hz, q⟩ := h
  cases rx
  obtain ⟨u, rfl, ru⟩ := rv.one
  obtain ⟨z, its, n, r, hl, e⟩ := I.lstM hH
  refine call_meets F.slot_list_append ⟨_, e, rfl⟩ F.entry_list_append (F.args_list_append_2 _ _) (PySem.list_append l its.toArray n u (by rw [List.size_toArray]; omega)) ⟨e, ?_⟩
  refine ⟨.non, _, I.lset (its' := its ++ [u]) hH e (by simp) (r.append (.cons ru .nil)) ?_, rfl, q⟩
  rw [List.length_append, List.length_singleton]
  omega

def rExtend : V → List V → Hp → VK → Prop := fun x vs H Q => ∃ l b xs zs, x = .ref l ∧ vs = [.ref b] ∧ H l = some (.lst xs) ∧ H b = some (.lst zs) ∧ xs.length + zs.length ≤ sizeLine ∧ Q .non (upd H l (.lst (xs ++ zs)))
theorem mt_extend : MtM X "list.extend" rExtend := by
  intro pins s σ H x vs v us Q I rx rv h
  obtain ⟨l, b, xs, zs, rfl, rfl, hH, hB, hz, q⟩ := h
  cases rx
  obtain ⟨u, rfl, ru⟩ := rv.one
  cases ru
  obtain ⟨z, its, n, r, hl, e⟩ := I.lstM hH
  obtain ⟨z2, its2, n2, r2, hl2, e2⟩ := I.lstM hB
  have hsz : its.toArray.size + its2.toArray.size ≤ sizeLine := by rw [List.size_toArray, List.size_toArray]; omega
  have hlong : ¬ (!its.toArray.isEmpty && Builtin.List.listTooLong (its.toArray.size + its2.toArray.size)) = true := by
    rw [notLongL hsz, Bool.and_false]
    exact Bool.false_ne_true
  refine call_meets F.slot_list_extend ⟨_, e, rfl⟩ F.entry_list_extend (F.args_list_extend_2 _ _)
    (AutoSeq1.list_extend_list_list_0 l its.toArray n b its2.toArray n2 hlong (by rw [List.size_toArray]; omega) (by omega)) ⟨e, e2, ?_⟩
  refine ⟨.non, _, I.lset (its' := its ++ its2) hH e (by simp) (r.append r2) ?_, rfl, q⟩
  rw [List.length_append]
  omega

def rPop : V → List V → Hp → VK → Prop := fun x vs H Q => ∃ l xs y, x = .ref l ∧ vs = [] ∧ H l = some (.lst xs) ∧ xs[xs.length - 1]? = some y ∧ Q y (upd H l (.lst xs.dropLast))
theorem mt_pop : MtM X "list.pop" rPop := by
  intro pins s σ H x vs v us Q I rx rv h
  obtain ⟨l, xs, y, rfl, rfl, hH, hy, q⟩ := h
  cases rx
  have hus := rv.zero
  subst hus
  obtain ⟨z, its, n, r, hl, e⟩ := I.lstM hH
  obtain ⟨u, hu, ru⟩ := r.get hy
  have hy' : its.toArray[its.toArray.size - 1]? = some u := by
    show its.toArray[its.length - 1]? = some u
    rw [← Array.getElem?_toList, ← hl]
    exact hu
  refine call_meets F.slot_list_pop ⟨_, e, rfl⟩ F.entry_list_pop (F.args_list_pop_1 _) (MeetsSeq.list_pop_last l its.toArray n u hy' (by rw [List.size_toArray]; omega)) ⟨e, ?_⟩
  refine ⟨y, _, I.lset (its' := its.dropLast) hH e ?_ r.dropLast ?_, ru, q⟩
  · show its.toArray.eraseIdxIfInBounds (its.toArray.size - 1) = its.dropLast.toArray
    rw [List.size_toArray, List.eraseIdxIfInBounds_toArray, erase_last]
  · rw [List.length_dropLast]
    omega

def rPopAt : V → List V → Hp → VK → Prop := fun x vs H Q => ∃ l xs i k y, x = .ref l ∧ vs = [.int i] ∧ H l = some (.lst xs) ∧ -(2 ^ 63) ≤ i ∧ i < 2 ^ 63 ∧ seqIndex? i xs.length = some k ∧ xs[k]? = some y ∧ Q y (upd H l (.lst (xs.eraseIdx k)))
theorem mt_popAt : MtM X "list.pop" rPopAt := by
  intro pins s σ H x vs v us Q I rx rv h
  obtain ⟨l, xs, i, k, y, rfl, rfl, hH, h1, h2, hk, hy, q⟩ := h
  cases rx
  obtain ⟨u, rfl, ru⟩ := rv.one
  obtain ⟨t, rfl⟩ := ru
  obtain ⟨z, its, n, r, hl, e⟩ := I.lstM hH
  obtain ⟨w, hw, rw'⟩ := r.get hy
  refine call_meets F.slot_list_pop ⟨_, e, rfl⟩ F.entry_list_pop (F.args_list_pop_2 _ _)
    (MeetsSeq.list_pop_at l its.toArray n i t k w (fitsIndex_both h1 h2) (by rw [List.size_toArray, ← hl]; exact hk) (by rw [← Array.getElem?_toList]; exact hw) (by rw [List.size_toArray]; omega)) ⟨e, ?_⟩
  refine ⟨y, _, I.lset (its' := its.eraseIdx k) hH e ?_ (r.eraseIdx k) ?_, rw', q⟩
  · show its.toArray.eraseIdxIfInBounds k = (its.eraseIdx k).toArray
    rw [List.eraseIdxIfInBounds_toArray]
  · have := len_erase xs k
    omega

def rReverse : V → List V → Hp → VK → Prop := fun x vs H Q => ∃ l xs, x = .ref l ∧ vs = [] ∧ H l = some (.lst xs) ∧ Q .non (upd H l (.lst xs.reverse))
theorem mt_reverse : MtM X "list.reverse" rReverse := by
  intro pins s σ H x vs v us Q I rx rv h
  obtain ⟨l, xs, rfl, rfl, hH, q⟩ := h
  cases rx
  have hus := rv.zero
  subst hus
  obtain ⟨z, its, n, r, hl, e⟩ := I.lstM hH
  refine call_meets F.slot_list_reverse ⟨_, e, rfl⟩ F.entry_list_reverse (F.args_list_reverse_1 _) (AutoSeq1.list_reverse_list_0 l its.toArray n (by rw [List.size_toArray]; omega)) ⟨e, ?_⟩
  refine ⟨.non, _, I.lset (its' := its.reverse) hH e (by simp) r.reverse ?_, rfl, q⟩
  rw [List.length_reverse]
  omega

def rClear : V → List V → Hp → VK → Prop := fun x vs H Q => ∃ l xs, x = .ref l ∧ vs = [] ∧ H l = some (.lst xs) ∧ Q .non (upd H l (.lst []))
theorem mt_clear : MtM X "list.clear" rClear := by
  intro pins s σ H x vs v us Q I rx rv h
  obtain ⟨l, xs, rfl, rfl, hH, q⟩ := h
  cases rx
  have hus := rv.zero
  subst hus
  obtain ⟨z, its, n, r, hl, e⟩ := I.lstM hH
  refine call_meets F.slot_list_clear ⟨_, e, rfl⟩ F.entry_list_clear (F.args_list_clear_1 _) (AutoSeq1.list_clear_list_0 l its.toArray n (by rw [List.size_toArray]; omega)) ⟨e, ?_⟩
  exact ⟨.non, _, I.lset (its' := []) (ys := []) hH e rfl .nil (Nat.zero_le _), rfl, q⟩

/-! ### list + list, list += list, list * int -/
def rCat : R2 := fun x y H Q => ∃ l b xs zs, x = .ref l ∧ y = .ref b ∧ H l = some (.lst xs) ∧ H b = some (.lst zs) ∧ xs.length + zs.length ≤ sizeLine ∧ ∀ p, H p = none → Q (.ref p) (upd H p (.lst (xs ++ zs)))
theorem op_cat : OpR X (binaryOp .Add) rCat := by
  intro pins s σ H x y v u Q I rx ry h
  obtain ⟨l, b, xs, zs, rfl, rfl, hH, hB, hz, q⟩ := h
  cases rx
  cases ry
  obtain ⟨z, its, n, r, hl, e⟩ := I.lstM hH
  obtain ⟨z2, its2, n2, r2, hl2, e2⟩ := I.lstM hB
  refine PySem.P.add_list e e2 ?_ (by rw [List.size_toArray, List.size_toArray]; omega)
  have ea : its.toArray ++ its2.toArray = (its ++ its2).toArray := by simp
  rw [ea]
  exact ⟨.ref _, _, I.lnew (t' := s.toks) (r.append r2) (by rw [List.length_append]; omega), rfl, q _ I.fresh⟩
/-- a list times an int (a negative one is nothing) -/
def rRep : R2 := fun x y H Q => ∃ l k xs, x = .ref l ∧ y = .int k ∧ H l = some (.lst xs) ∧ -(2 ^ 63) ≤ k ∧ k < 2 ^ 63 ∧ xs.length * k.toNat ≤ sizeLine ∧
  ∀ p, H p = none → Q (.ref p) (upd H p (.lst (List.replicate k.toNat xs).flatten))
theorem len_rep {α : Type} (xs : List α) (k : Nat) : (List.replicate k xs).flatten.length = k * xs.length := by
  induction k with
  | zero => simp
  | succ k ih => rw [List.replicate_succ, List.flatten_cons, List.length_append, ih, Nat.succ_mul, Nat.add_comm]
theorem op_rep : OpR X (binaryOp .Mult) rRep := by
  intro pins s σ H x y v u Q I rx ry h
  obtain ⟨l, k, xs, rfl, rfl, hH, h1, h2, hz, q⟩ := h
  cases rx
  obtain ⟨t, rfl⟩ := ry
  obtain ⟨z, its, n, r, hl, e⟩ := I.lstM hH
  have hlen : its.toArray.size * k.toNat ≤ sizeLine := by rw [List.size_toArray, ← hl]; exact hz
  have hcap : ¬ its.toArray.size * k.toNat > (2 ^ 63 - 1) / 8 := by
    have : (sizeLine : Nat) ≤ (2 ^ 63 - 1) / 8 := by decide
    omega
  have hfit : ¬ (!Builtin.List.listFitsIndex k) = true := by
    rw [fitsIndex_both h1 h2]
    exact Bool.false_ne_true
  have hlong : ¬ Builtin.List.listTooLong (its.toArray.size * k.toNat) = true := by
    rw [notLongL hlen]
    exact Bool.false_ne_true
  have hnew : List.foldl (fun x1 x2 => x1 ++ x2) #[] (List.replicate (if its.toArray.isEmpty = true then 0 else k.toNat) its.toArray) = (List.replicate k.toNat its).flatten.toArray := by
    have f0 : ∀ m : Nat, List.foldl (fun x1 x2 => x1 ++ x2) #[] (List.replicate m its.toArray) = (List.replicate m its).flatten.toArray := fun m => by
      have := foldl_rep its m []
      rw [List.nil_append] at this
      exact this
    rw [f0]
    cases its with
    | nil => simp
    | cons a r' => rw [if_neg (by simp)]
  refine wpAny_binaryOp_repeat_ref (T := "list") (U := "int") (by decide) ⟨_, e, rfl⟩ (fun s' => typeIs_int s' k t) noFill_list_mul F.fills_int_mul F.slot_int_rmul repeat_list F.slot_int_index.lookup
    (call_meets F.slot_int_rmul (typeIs_int s k t) F.entry_int_rmul (F.args_int_rmul_2 _ _) (int___rmul___int_list k t l its.toArray n)
      ⟨e, rfl, ⟨_, e, rfl⟩, call_meets F.slot_list_mul ⟨_, e, rfl⟩ F.entry_list_mul (F.args_list_mul_2 _ _) (AutoListH.list___mul___list_int_3 l its.toArray n k t hfit hcap hlong) ⟨e, ?_⟩⟩)
  rw [hnew]
  exact ⟨.ref _, _, I.lnew (t' := s.toks) (r.rep k.toNat) (by rw [len_rep, Nat.mul_comm]; exact hz), rfl, q _ I.fresh⟩

/-! ### del xs[i] -/
theorem del_list {pins : List (Addr × Obj)} {s : Shared} {σ : St} {H : Hp} {l : Addr} {xs : List V} {i : Int} {t : Tok} {k : Nat} {Q : Unit → Shared → Prop} (I : Inv X pins σ H s) (hH : H l = some (.lst xs))
    (h1 : -(2 ^ 63) ≤ i) (h2 : i < 2 ^ 63) (hk : seqIndex? i xs.length = some k) (h : ∀ s', Inv X pins σ (upd H l (.lst (xs.eraseIdx k))) s' → Q () s') :
    wpAny (model X.prog X.w) X.A (delItem (.ref l) (.int i t)) Q X.xe s := by
  obtain ⟨z, its, n, r, hl, e⟩ := I.lstM hH
  refine PySem.P.delItem_list (k := k) e (fitsIndex_both h1 h2) (by rw [List.size_toArray, ← hl]; exact hk) (h _ ?_) (by rw [List.size_toArray]; omega)
  refine I.lset (its' := its.eraseIdx k) (t' := s.toks) hH e ?_ (r.eraseIdx k) ?_
  · show its.toArray.eraseIdxIfInBounds k = (its.eraseIdx k).toArray
    rw [List.eraseIdxIfInBounds_toArray]
  · have := len_erase xs k
    omega
end

/-! ### xs[a:b] = ys -/
section
variable {prog : Program} {w : World} {A : Around} {E : Value → Shared → Prop} {s : Shared}
theorem splice_eq (its its2 : List Value) (a c : Nat) : its.toArray.extract 0 a ++ its2.toArray ++ its.toArray.extract c its.toArray.size = (its.take a ++ its2 ++ its.drop c).toArray := by
  apply Array.toList_inj.mp
  first
    | (simp
       exact List.take_of_length_le (by simp))
    | simp [List.take_of_length_le]
    | simp
theorem bounds_run {a c n : Nat} (hac : a ≤ c) (hc : c ≤ n) : sliceBounds (some (a : Int)) (some (c : Int)) none n = ((a : Int), (c : Int), 1) := by
  simp only [sliceBounds, Option.getD_none]
  have h1 : ¬ ((a : Int) < 0) := by omega
  have h2 : ¬ ((c : Int) < 0) := by omega
  simp only [h1, h2, if_false, show (1 : Int) > 0 by decide, if_true]
  congr 1
  · omega
  · congr 1; omega
set_option maxRecDepth 100000 in
/-- list.__setitem__ with a slice of step one and another list -/
theorem setItem_slice {l b sl : Addr} {items new : Array Value} {n n2 : Nat} {vl vu : Value} {a c : Nat} {Q : Unit → Shared → Prop}
    (e : s.heap.get? l = some { cls := .type "list", data := .seq items n }) (e2 : s.heap.get? b = some { cls := .type "list", data := .seq new n2 }) (hne : l ≠ b)
    (hs : s.heap.IsSliceOf sl vl vu .none) (pl : IsPart vl (some (a : Int))) (pu : IsPart vu (some (c : Int))) (hac : a ≤ c) (hc : c ≤ items.size)
    (hsz : items.size + new.size ≤ sizeLine) (h : Q () { s with heap := s.heap.update l (Obj.mapSeq fun xs => xs.extract 0 a ++ new ++ xs.extract c xs.size) }) :
    wpAny (model prog w) A (setItem (.ref l) (.ref sl) (.ref b)) Q E s := by
  have hl : s.heap.IsList l items := PySem.IsL.isList e
  have hb : s.heap.IsList b new := PySem.IsL.isList e2
  obtain ⟨os, hos, hcs, hds⟩ := id hs
  have hTs : s.TypeIs (.ref sl) "slice" := ⟨os, hos, hcs⟩
  have hstep : ¬ ((rawPart none == rawInt 0) = true) := Bool.false_ne_true
  have hsame : Builtin.List.listSameRef (.ref l) (.ref b) = false := by
    unfold Builtin.List.listSameRef
    exact beq_eq_false_iff_ne.mpr hne
  have hmax : (max (a : Int) (c : Int)).toNat = c := by omega
  have hz' : ((fun xs : Array Value => xs.extract 0 a ++ new ++ xs.extract c xs.size) items).size ≤ sizeLine + 1 := by
    simp only [Array.size_append, Array.size_extract]
    omega
  unfold setItem
  try with_reducible refine wpAny_holding ?_
  first | refine wpAny_bind (wpAny_pure ?_) | skip
  refine wpAny_bind (wpAny_sequenceKey hl.typeIs (by decide) ?_)
  refine wpAny_bind (wpAny_callSpecial?_slot (name := Str.ofString "__setitem__") hl.typeIs slot_list_setitem
    (wpAny_call_entry slot_list_setitem hl.typeIs entry_list_setitem ?_ (args_list_setitem _ _ _)))
  show wpAny _ _ (Builtin.List.listSubscript? (.ref sl) >>= _) _ _ s
  refine wpAny_bind ?_
  unfold Builtin.List.listSubscript?
  refine wpAny_bind (wpAny_specialOf hTs slice_no_index ?_)
  simp only [Option.isNone_none, if_true]
  refine wpAny_pure ?_
  show wpAny _ _ (typeOf (.ref sl) >>= _) _ _ s
  refine wpAny_bind (wpAny_typeOf hTs ?_)
  first
    | rw [if_neg (by decide)]
    | refine PySem.W.KFB.if_not (by decide) ?_
  rw [listSliceParts_eq]
  refine wpAny_bind (wpAny_bind (wpAny_field hos hds (x := .none) rfl (wpAny_bind (wpAny_listPart .none ?_))))
  rw [if_neg hstep]
  refine wpAny_bind (wpAny_field hos hds (x := vl) rfl (wpAny_bind (wpAny_listPart pl ?_)))
  refine wpAny_bind (wpAny_field hos hds (x := vu) rfl (wpAny_bind (wpAny_listPart pu (wpAny_pure ?_))))
  first
    | simp only [hsame, Bool.false_eq_true, if_false]
    | refine PySem.W.KFB.if_not hsame ?_
    | (dsimp only
       rw [if_neg (by rw [hsame]; exact Bool.false_ne_true)])
  refine wpAny_bind (m := Builtin.List.listAllItems (.ref b) "must assign iterable to extended slice") ?_
  unfold Builtin.List.listAllItems
  refine wpAny_bind (wpAny_typeOf hb.typeIs ?_)
  first
    | refine PySem.W.KFB.if_so (by decide) ?_
    | rw [if_pos (by decide)]
    | simp only [beq_self_eq_true, Bool.true_or, if_true]
  unfold Builtin.List.listItems
  refine wpAny_bind (wpAny_seqItems e2 rfl (wpAny_pure ?_))
  refine wpAny_bind (wpAny_bind (wpAny_seqItems e rfl (wpAny_pure ?_)))
  refine wpAny_bind (wpAny_of_eq ((sliceIndices_raw (some (a : Int)) (some (c : Int)) none items.size (by simp)).trans (congrArg (pure : Int × Int × Int → Sem (Int × Int × Int)) (bounds_run hac hc))) ?_)
  show wpAny _ _ (if ((1 : Int) == 1) = true then _ else _) _ _ s
  rw [if_pos (by decide)]
  refine wpAny_bind (wpAny_rule ?_)
  first
    | simp only [notLongL hsz, Bool.false_eq_true, if_false]
    | refine PySem.W.KFB.if_not (notLongL hsz) ?_
  first | refine wpAny_bind (wpAny_pure ?_) | skip
  show wpAny _ _ (updateSeq l (fun xs => xs.extract 0 ((a : Int)).toNat ++ new ++ xs.extract (max (a : Int) (c : Int)).toNat xs.size) >>= _) _ _ s
  rw [hmax, Int.toNat_natCast]
  refine wpAny_bind (wpAny_updateSeq (hz := Nat.le_trans (Nat.le_add_right _ _) hsz) (_hz' := hz') e rfl ?_)
  refine wpAny_bind (wpAny_letGo ?_)
  first
    | exact wpAny_bind (wpAny_pure (wpAny_pure ⟨.none, rfl, wpAny_pure h⟩))
    | exact wpAny_pure ⟨.none, rfl, wpAny_pure h⟩
end

section
variable {X : Cx}
/-- xs[a:c] = ys of another list, at the value level: sl is the slice object that was just made -/
theorem set_slice {pins : List (Addr × Obj)} {s : Shared} {σ : St} {H : Hp} {l b sl : Addr} {xs ys : List V} {a c : Int} {vl vu : Value} {Q : Unit → Shared → Prop} (I : Inv X pins σ H s)
    (hH : H l = some (.lst xs)) (hB : H b = some (.lst ys)) (hne : l ≠ b) (hs : s.heap.IsSliceOf sl vl vu .none) (ra : RelV (.int a) vl) (rc : RelV (.int c) vu) (h0 : 0 ≤ a) (hac : a ≤ c) (hc : c ≤ xs.length)
    (hz : xs.length + ys.length ≤ sizeLine) (h : ∀ s', Inv X pins σ (upd H l (.lst (xs.take a.toNat ++ ys ++ xs.drop c.toNat))) s' → Q () s') :
    wpAny (model X.prog X.w) X.A (setItem (.ref l) (.ref sl) (.ref b)) Q X.xe s := by
  obtain ⟨ta, rfl⟩ := ra
  obtain ⟨tc, rfl⟩ := rc
  obtain ⟨z, its, n, r, hl, e⟩ := I.lstM hH
  obtain ⟨z2, its2, n2, r2, hl2, e2⟩ := I.lstM hB
  obtain ⟨a', rfl⟩ := Int.eq_ofNat_of_zero_le h0
  obtain ⟨c', rfl⟩ := Int.eq_ofNat_of_zero_le (Int.le_trans h0 hac)
  simp only [Int.toNat_natCast] at h
  refine setItem_slice (a := a') (c := c') e e2 hne hs (.int _ _) (.int _ _) (by omega) (by rw [List.size_toArray]; omega) (by rw [List.size_toArray, List.size_toArray]; omega) (h _ ?_)
  refine I.lset (its' := its.take a' ++ its2 ++ its.drop c') (t' := s.toks) hH e ?_ (Vals.append (Vals.append (r.take _) r2) (r.drop _)) ?_
  · exact splice_eq its its2 a' c'
  · rw [List.length_append, List.length_append, List.length_take, List.length_drop]
    omega
end
end L2

namespace L2
open PySem PySem.Spec PyProof.Rows

/-! ### lists of pairs as tables -/
section
variable {κ : Type} [DecidableEq κ]
def valV (kvs : List (κ × V)) (k : κ) : Option V := (kvs.find? fun kv => decide (kv.1 = k)).map (·.2)
/-- in its place, or at the end -/
def putK (kvs : List (κ × V)) (k : κ) (v : V) : List (κ × V) :=
  if (kvs.any fun kv => decide (kv.1 = k)) = true then kvs.map (fun kv => if kv.1 = k then (kv.1, v) else kv) else kvs ++ [(k, v)]
def dropK (kvs : List (κ × V)) (k : κ) : List (κ × V) := kvs.filter fun kv => decide (kv.1 ≠ k)

theorem valV_nil {k : κ} : valV ([] : List (κ × V)) k = none := rfl
theorem valV_pos {p : κ × V} {r : List (κ × V)} {k : κ} (e : p.1 = k) : valV (p :: r) k = some p.2 := by simp [valV, List.find?_cons, e]
theorem valV_neg {p : κ × V} {r : List (κ × V)} {k : κ} (e : ¬ p.1 = k) : valV (p :: r) k = valV r k := by simp [valV, List.find?_cons, e]
theorem valV_any (k : κ) : ∀ kvs : List (κ × V), (kvs.any fun kv => decide (kv.1 = k)) = (valV kvs k).isSome
  | [] => rfl
  | p :: r => by
    rw [List.any_cons]
    by_cases e : p.1 = k
    · simp only [valV_pos e, decide_eq_true e, Bool.true_or, Option.isSome_some]
    · rw [valV_neg e, decide_eq_false e, Bool.false_or]; exact valV_any k r
theorem valV_map (k j : κ) (y : V) : ∀ kvs : List (κ × V), valV (kvs.map fun kv => if kv.1 = k then (kv.1, y) else kv) j = (valV kvs j).map fun x => if j = k then y else x
  | [] => rfl
  | p :: r => by
    have ih := valV_map k j y r
    rw [List.map_cons]
    by_cases h : p.1 = k
    · rw [if_pos h]
      by_cases e : p.1 = j
      · rw [valV_pos (p := (p.1, y)) e, valV_pos e, Option.map_some, if_pos (e.symm.trans h)]
      · rw [valV_neg (p := (p.1, y)) e, valV_neg e, ih]
    · rw [if_neg h]
      by_cases e : p.1 = j
      · rw [valV_pos (p := p) e, valV_pos e, Option.map_some, if_neg (fun z => h (e.trans z))]
      · rw [valV_neg (p := p) e, valV_neg e, ih]
theorem valV_snoc (k j : κ) (y : V) : ∀ kvs : List (κ × V), valV kvs k = none → valV (kvs ++ [(k, y)]) j = if j = k then some y else valV kvs j
  | [], _ => by
    by_cases e : k = j
    · rw [if_pos e.symm]; exact valV_pos (p := (k, y)) e
    · rw [if_neg (fun z => e z.symm)]; exact valV_neg (p := (k, y)) e
  | p :: r, hn => by
    rw [List.cons_append]
    have hk : ¬ p.1 = k := fun z => by rw [valV_pos z] at hn; cases hn
    rw [valV_neg hk] at hn
    have ih := valV_snoc k j y r hn
    by_cases e : p.1 = j
    · rw [valV_pos e, valV_pos e, if_neg (fun z => hk (e.trans z))]
    · rw [valV_neg e, valV_neg e, ih]
theorem valV_put (kvs : List (κ × V)) (k j : κ) (y : V) : valV (putK kvs k y) j = if j = k then some y else valV kvs j := by
  unfold putK
  by_cases a : (kvs.any fun kv => decide (kv.1 = k)) = true
  · rw [if_pos a, valV_map]
    rw [valV_any] at a
    by_cases e : j = k
    · obtain ⟨x, hx⟩ := Option.isSome_iff_exists.mp a
      rw [if_pos e, e, hx, Option.map_some, if_pos rfl]
    · rw [if_neg e]
      cases valV kvs j with
      | none => rfl
      | some x => rw [Option.map_some, if_neg e]
  · rw [if_neg a]
    refine valV_snoc k j y kvs ?_
    rw [valV_any] at a
    cases q : valV kvs k with
    | none => rfl
    | some x => rw [q] at a; exact (a rfl).elim
theorem length_putK (kvs : List (κ × V)) (k : κ) (v : V) : (putK kvs k v).length ≤ kvs.length + 1 := by
  unfold putK
  split
  · rw [List.length_map]; omega
  · rw [List.length_append, List.length_cons, List.length_nil]; omega
theorem putK_new {kvs : List (κ × V)} {k : κ} (v : V) (h : valV kvs k = none) : putK kvs k v = kvs ++ [(k, v)] := by
  unfold putK
  rw [valV_any, h]
  exact if_neg (by decide)

theorem RelO.isSome_eq {o : Option V} {u : Option Value} (r : RelO o u) : o.isSome = u.isSome := by
  cases o with
  | none => cases u with
    | none => rfl
    | some _ => exact (show False from r).elim
  | some _ => cases u with
    | none => exact (show False from r).elim
    | some _ => rfl
theorem RelO.getD {o : Option V} {u : Option Value} {d : V} {d' : Value} (r : RelO o u) (rd : RelV d d') : RelV (o.getD d) (u.getD d') := by
  cases o with
  | none => cases u with
    | none => exact rd
    | some _ => exact (show False from r).elim
  | some _ => cases u with
    | none => exact (show False from r).elim
    | some _ => exact r

/-- raw tables of the same keys -/
theorem KV.val {kvs : List (κ × V)} {vs : List (κ × Value)} (r : KV kvs vs) (k : κ) : RelO (valV kvs k) (valueAt vs k) := by
  unfold KV at r
  induction r with
  | nil => exact True.intro
  | @cons p q ps qs h t ih =>
    obtain ⟨h1, h2⟩ := h
    by_cases e : p.1 = k
    · have e' : q.1 = k := h1.symm.trans e
      have b : valueAt (q :: qs) k = some q.2 := by simp [valueAt, List.find?_cons, e']
      rw [valV_pos e, b]; exact h2
    · have e' : ¬ q.1 = k := fun z => e (h1.trans z)
      have b : valueAt (q :: qs) k = valueAt qs k := by simp [valueAt, List.find?_cons, e']
      rw [valV_neg e, b]; exact ih
theorem KV.any {kvs : List (κ × V)} {vs : List (κ × Value)} (r : KV kvs vs) (k : κ) : (kvs.any fun kv => decide (kv.1 = k)) = vs.any fun kv => decide (kv.1 = k) := by
  unfold KV at r
  induction r with
  | nil => rfl
  | cons h t ih => rw [List.any_cons, List.any_cons, ih, h.1]
theorem KV.repl {kvs : List (κ × V)} {vs : List (κ × Value)} (r : KV kvs vs) (k : κ) {y : V} {u : Value} (ry : RelV y u) :
    KV (kvs.map fun kv => if kv.1 = k then (kv.1, y) else kv) (vs.map fun kv => if kv.1 = k then (kv.1, u) else kv) := by
  unfold KV at r ⊢
  induction r with
  | nil => exact .nil
  | @cons p q ps qs h t ih =>
    rw [List.map_cons, List.map_cons]
    refine .cons ?_ ih
    obtain ⟨h1, h2⟩ := h
    by_cases e : p.1 = k
    · rw [if_pos e, if_pos (h1.symm.trans e)]; exact ⟨h1, ry⟩
    · rw [if_neg e, if_neg (fun z => e (h1.trans z))]; exact ⟨h1, h2⟩
theorem KV.put {kvs : List (κ × V)} {vs : List (κ × Value)} (r : KV kvs vs) (k : κ) {y : V} {u : Value} (ry : RelV y u) : KV (putK kvs k y) (stored vs k u) := by
  unfold putK stored
  rw [r.any k]
  by_cases e : (vs.any fun kv => decide (kv.1 = k)) = true
  · rw [if_pos e, if_pos e]; exact r.repl k ry
  · rw [if_neg e, if_neg e]; exact Paired.snoc r ⟨rfl, ry⟩
theorem KV.drop {kvs : List (κ × V)} {vs : List (κ × Value)} (r : KV kvs vs) (k : κ) : KV (dropK kvs k) (without vs k) := by
  unfold KV at r ⊢
  unfold dropK without
  induction r with
  | nil => exact .nil
  | @cons p q ps qs h t ih =>
    obtain ⟨h1, h2⟩ := h
    rw [List.filter_cons, List.filter_cons]
    by_cases e : p.1 = k
    · have a : ¬ decide (p.1 ≠ k) = true := by simp [e]
      have b : ¬ decide (q.1 ≠ k) = true := by simp [h1.symm.trans e]
      rw [if_neg a, if_neg b]; exact ih
    · have e' : ¬ q.1 = k := fun z => e (h1.trans z)
      have a : decide (p.1 ≠ k) = true := by simp [e]
      have b : decide (q.1 ≠ k) = true := by simp [e']
      rw [if_pos a, if_pos b]; exact .cons ⟨h1, h2⟩ ih
theorem KV.keys {kvs : List (κ × V)} {vs : List (κ × Value)} (r : KV kvs vs) : kvs.map (·.1) = vs.map (·.1) := by
  unfold KV at r
  induction r with
  | nil => rfl
  | cons h t ih => rw [List.map_cons, List.map_cons, ih, h.1]
theorem KV.length {kvs : List (κ × V)} {vs : List (κ × Value)} (r : KV kvs vs) : kvs.length = vs.length := Paired.length r
theorem dropK_le (kvs : List (κ × V)) (k : κ) : (dropK kvs k).length ≤ kvs.length := List.length_filter_le _ _
end


/-! ### a tracked dict, its keys ints and texts or tuples of these -/
theorem kV_is {P : Program} {w : World} {k : Key} {u : Value} (r : RelV (kV k) u) : (mixKind P w).is k u = true := by
  cases k with
  | inl i => obtain ⟨t, e⟩ := (show ∃ t, u = Value.int i t from r); subst e; exact mixKind_int P w i t
  | inr x => obtain ⟨t, e⟩ := (show ∃ t, u = Value.str x t from r); subst e; exact mixKind_str P w x t
theorem kV_inj {a b : Key} (e : kV a = kV b) : a = b := by
  cases a with
  | inl i => cases b with
    | inl j => have e' : V.int i = V.int j := e; injection e' with e'; rw [e']
    | inr y => exact nomatch (show V.int i = V.str y from e)
  | inr x => cases b with
    | inl j => exact nomatch (show V.str x = V.int j from e)
    | inr y => have e' : V.str x = V.str y := e; injection e' with e'; rw [e']
theorem kVs_inj : ∀ {a b : List Key}, a.map kV = b.map kV → a = b
  | [], [], _ => rfl
  | [], _ :: _, e => by simp at e
  | _ :: _, [], e => by simp at e
  | x :: xs, y :: ys, e => by
    rw [List.map_cons, List.map_cons] at e
    injection e with e1 e2
    rw [kV_inj e1, kVs_inj e2]
theorem items_are {P : Program} {w : World} : ∀ {ks : List Key} {us : List Value}, Vals (ks.map kV) us → ItemsAre (mixKind P w) ks us
  | [], _, r => by rw [List.map_nil] at r; cases r; exact .nil
  | k :: ks, _, r => by
    rw [List.map_cons] at r
    cases r with
    | cons h t => exact .cons (kV_is h) (items_are t)

/-- raw entries of a dict with tuple keys -/
abbrev KT (H : Hp) : List (List Key × V) → List (List Key × Addr × Value) → Prop := Paired fun p q => p.1 = q.1 ∧ H q.2.1 = some (.tup (p.1.map kV)) ∧ RelV p.2 q.2.2
theorem KT.val {H : Hp} {kvs : List (List Key × V)} {xs : List (List Key × Addr × Value)} (r : KT H kvs xs) (k : List Key) : RelO (valV kvs k) ((atKey xs k).map (·.2)) := by
  induction r with
  | nil => exact True.intro
  | @cons p q ps qs h t ih =>
    obtain ⟨h1, _, h2⟩ := h
    by_cases e : p.1 = k
    · have e' : q.1 = k := h1.symm.trans e
      have b : atKey (q :: qs) k = some q.2 := by simp [atKey, List.find?_cons, e']
      rw [valV_pos e, b]; exact h2
    · have e' : ¬ q.1 = k := fun z => e (h1.trans z)
      have b : atKey (q :: qs) k = atKey qs k := by simp [atKey, List.find?_cons, e']
      rw [valV_neg e, b]; exact ih
theorem KT.repl {H : Hp} {kvs : List (List Key × V)} {xs : List (List Key × Addr × Value)} (r : KT H kvs xs) (k : List Key) {y : V} {u : Value} (ry : RelV y u) :
    KT H (kvs.map fun kv => if kv.1 = k then (kv.1, y) else kv) (xs.map (putAt k u)) := by
  induction r with
  | nil => exact .nil
  | @cons p q ps qs h t ih =>
    rw [List.map_cons, List.map_cons]
    refine .cons ?_ ih
    obtain ⟨h1, h2, h3⟩ := h
    unfold putAt
    by_cases e : p.1 = k
    · rw [if_pos e, if_pos (h1.symm.trans e)]; exact ⟨h1, h2, ry⟩
    · rw [if_neg e, if_neg (fun z => e (h1.trans z))]; exact ⟨h1, h2, h3⟩
theorem KT.put {H : Hp} {kvs : List (List Key × V)} {xs : List (List Key × Addr × Value)} (r : KT H kvs xs) (k : List Key) {b : Addr} {y : V} {u : Value} (hb : H b = some (.tup (k.map kV))) (ry : RelV y u) :
    KT H (putK kvs k y) (storedH xs k b u) := by
  have e : (kvs.any fun kv => decide (kv.1 = k)) = (atKey xs k).isSome := by
    rw [valV_any, (r.val k).isSome_eq, Option.isSome_map]
  unfold putK storedH
  rw [e]
  by_cases q : (atKey xs k).isSome = true
  · rw [if_pos q, if_pos q]; exact r.repl k ry
  · rw [if_neg q, if_neg q]; exact Paired.snoc r ⟨rfl, hb, ry⟩
theorem KT.keeps {H H' : Hp} {kvs : List (List Key × V)} {xs : List (List Key × Addr × Value)} (r : KT H kvs xs) (ht : ∀ b ys, H b = some (.tup ys) → H' b = some (.tup ys)) : KT H' kvs xs :=
  Paired.mapP r fun _ _ z => ⟨z.1, ht _ _ z.2.1, z.2.2⟩

section
variable {P : Program} {w : World} {H : Hp} {h : Heap} {a : Addr}
theorem rd_of {u : HO} (ok : HOk P w H h) (e : Rd H a u) : ObjOk P w H h a u := e.ok ok
theorem dk_rd {kvs : List (Key × V)} (ok : HOk P w H h) (e : Rd H a (.dK kvs)) : kvs.length ≤ sizeLine ∧ (a == sysModules) = false ∧ ∃ vs, KV kvs vs ∧ h.DictOf (mixKind P w) a vs :=
  show ObjOk P w H h a (.dK kvs) from rd_of ok e
theorem dk_of {kvs : List (Key × V)} (ok : HOk P w H h) (e : H a = some (.dK kvs)) : kvs.length ≤ sizeLine ∧ (a == sysModules) = false ∧ ∃ vs, KV kvs vs ∧ h.DictOf (mixKind P w) a vs := dk_rd ok (.inl e)
/-- a tracked tuple of ints and texts is a key -/
theorem key_of {ks : List Key} (ok : HOk P w H h) (e : H a = some (.tup (ks.map kV))) : (tupleKind (mixKind P w)).is h ks a := by
  obtain ⟨_, its, r, o, h1, h2, n, h3⟩ := (show ObjOk P w H h a (.tup (ks.map kV)) from ok a _ e)
  exact ⟨o, its.toArray, n, h1, h2, h3, by simpa using items_are r⟩
theorem dt_rd {kvs : List (List Key × V)} (ok : HOk P w H h) (e : Rd H a (.dT kvs)) : kvs.length ≤ sizeLine ∧ (a == sysModules) = false ∧
    ∃ xs, KT H kvs xs ∧ h.DictOfH (tupleKind (mixKind P w)) a xs := by
  obtain ⟨z, y, xs, r, o, es, ep, h1, h2, h3, h4, h5⟩ := (show ObjOk P w H h a (.dT kvs) from rd_of ok e)
  refine ⟨z, y, xs, r, o, es, ep, h1, h2, h3, h4, fun x hx => ?_, h5⟩
  have all : ∀ {l : List (List Key × V)} {m : List (List Key × Addr × Value)}, KT H l m → ∀ x ∈ m, (tupleKind (mixKind P w)).is h x.1 x.2.1 := by
    intro l m q
    induction q with
    | nil => intro x hx; exact nomatch hx
    | @cons p q ps qs hq t ih =>
      intro x hx
      rcases List.mem_cons.mp hx with e | hx
      · subst e
        exact key_of ok (by rw [← hq.1]; exact hq.2.1)
      · exact ih x hx
  exact all r x hx
theorem dt_of {kvs : List (List Key × V)} (ok : HOk P w H h) (e : H a = some (.dT kvs)) : kvs.length ≤ sizeLine ∧ (a == sysModules) = false ∧
    ∃ xs, KT H kvs xs ∧ h.DictOfH (tupleKind (mixKind P w)) a xs := dt_rd ok (.inl e)
end

/-- what the dict at a holds at the key y -/
def DGet (H : Hp) (a : Addr) (y : V) (r : Option V) : Prop :=
  (∃ kvs k, Rd H a (.dK kvs) ∧ y = kV k ∧ r = valV kvs k) ∨ ∃ kvs k b, Rd H a (.dT kvs) ∧ y = .ref b ∧ H b = some (.tup (k.map kV)) ∧ r = valV kvs k
/-- the heap behind a[y] = v -/
def DPut (H : Hp) (a : Addr) (y v : V) (H' : Hp) : Prop :=
  (∃ kvs k, H a = some (.dK kvs) ∧ y = kV k ∧ kvs.length < sizeLine ∧ H' = upd H a (.dK (putK kvs k v))) ∨
  ∃ kvs k b, H a = some (.dT kvs) ∧ y = .ref b ∧ H b = some (.tup (k.map kV)) ∧ kvs.length < sizeLine ∧ H' = upd H a (.dT (putK kvs k v))
theorem DGet.k {H : Hp} {a : Addr} {kvs : List (Key × V)} {k : Key} (e : H a = some (.dK kvs)) : DGet H a (kV k) (valV kvs k) := .inl ⟨kvs, k, .inl e, rfl, rfl⟩
theorem DGet.t {H : Hp} {a b : Addr} {kvs : List (List Key × V)} {k : List Key} (e : H a = some (.dT kvs)) (eb : H b = some (.tup (k.map kV))) : DGet H a (.ref b) (valV kvs k) := .inr ⟨kvs, k, b, .inl e, rfl, eb, rfl⟩
theorem DPut.k {H : Hp} {a : Addr} {kvs : List (Key × V)} {k : Key} {v : V} (e : H a = some (.dK kvs)) (hl : kvs.length < sizeLine) : DPut H a (kV k) v (upd H a (.dK (putK kvs k v))) := .inl ⟨kvs, k, e, rfl, hl, rfl⟩
theorem DPut.t {H : Hp} {a b : Addr} {kvs : List (List Key × V)} {k : List Key} {v : V} (e : H a = some (.dT kvs)) (eb : H b = some (.tup (k.map kV))) (hl : kvs.length < sizeLine) :
    DPut H a (.ref b) v (upd H a (.dT (putK kvs k v))) := .inr ⟨kvs, k, b, e, rfl, eb, hl, rfl⟩


section
variable {X : Cx} {pins : List (Addr × Obj)} {σ : St} {H : Hp} {s : Shared} {a : Addr} {y v : V} {u r : Value} {o : Option V} {A : Around} {E : Value → Shared → Prop}

theorem Inv.big (I : Inv X pins σ H s) : sysModules < s.heap.objs.size := by
  have h : mainGlobals < s.heap.objs.size := (I.mod.glob.keeps I.bk).lt
  exact Nat.lt_trans (by decide) h

/-- d[y], there -/
theorem d_getItem {Q : Value → Shared → Prop} (hu : A.units + 1 < cLine) (I : Inv X pins σ H s) (g : DGet H a y (some v)) (ry : RelV y u) (h : ∀ w' s', Inv X pins σ H s' → RelV v w' → Q w' s') :
    wpAny (model X.prog X.w) A (getItem (.ref a) u) Q E s := by
  rcases g with ⟨kvs, k, e, ey, l⟩ | ⟨kvs, k, b, e, ey, eb, l⟩
  · subst ey
    obtain ⟨z, hd, vs, rel, dd⟩ := dk_rd I.hok e
    obtain ⟨w', hw, rw'⟩ := RelO.some_of (v := v) (o := valueAt vs k) (by rw [l]; exact rel.val k)
    exact wpAny_getItem_of (kV_is ry) dd.mapOf hw (h w' _ (I.tok _) rw')
  · subst ey
    cases (show u = Value.ref b from ry)
    obtain ⟨z, hd, xs, rel, dd⟩ := dt_rd I.hok e
    obtain ⟨w', hw, rw'⟩ := RelO.some_of (v := v) (o := (atKey xs k).map (·.2)) (by rw [l]; exact rel.val k)
    obtain ⟨p, hp, hp2⟩ := Option.map_eq_some_iff.mp hw
    refine wpAny_getItem_heap (tupleKind_room_in1 hu) (key_of I.hok eb) dd hp ?_
    rw [hp2]
    exact h w' _ (I.tok _) rw'
/-- y in d -/
theorem d_in {Q : Value → Shared → Prop} (hu : A.units + 1 < cLine) (I : Inv X pins σ H s) (g : DGet H a y o) (ry : RelV y u) (h : ∀ s', Inv X pins σ H s' → Q (.bool o.isSome) s') :
    wpAny (model X.prog X.w) A (compareOp .In u (.ref a)) Q E s := by
  rcases g with ⟨kvs, k, e, ey, l⟩ | ⟨kvs, k, b, e, ey, eb, l⟩
  · subst ey
    obtain ⟨z, hd, vs, rel, dd⟩ := dk_rd I.hok e
    refine wpAny_in_of (kV_is ry) hd dd.mapOf ?_
    rw [← (rel.val k).isSome_eq, ← l]
    exact h _ (I.tok _)
  · subst ey
    cases (show u = Value.ref b from ry)
    obtain ⟨z, hd, xs, rel, dd⟩ := dt_rd I.hok e
    refine wpAny_in_heap (tupleKind_room_in1 hu) (key_of I.hok eb) hd dd ?_
    have q := (rel.val k).isSome_eq
    rw [Option.isSome_map] at q
    rw [← q, ← l]
    exact h _ (I.tok _)
theorem d_notIn {Q : Value → Shared → Prop} (hu : A.units + 1 < cLine) (I : Inv X pins σ H s) (g : DGet H a y o) (ry : RelV y u) (h : ∀ s', Inv X pins σ H s' → Q (.bool (!o.isSome)) s') :
    wpAny (model X.prog X.w) A (compareOp .NotIn u (.ref a)) Q E s := by
  rcases g with ⟨kvs, k, e, ey, l⟩ | ⟨kvs, k, b, e, ey, eb, l⟩
  · subst ey
    obtain ⟨z, hd, vs, rel, dd⟩ := dk_rd I.hok e
    refine wpAny_notIn_of (kV_is ry) hd dd.mapOf ?_
    rw [← (rel.val k).isSome_eq, ← l]
    exact h _ (I.tok _)
  · subst ey
    cases (show u = Value.ref b from ry)
    obtain ⟨z, hd, xs, rel, dd⟩ := dt_rd I.hok e
    refine wpAny_notIn_heap (tupleKind_room_in1 hu) (key_of I.hok eb) hd dd ?_
    have q := (rel.val k).isSome_eq
    rw [Option.isSome_map] at q
    rw [← q, ← l]
    exact h _ (I.tok _)
/-- a dict's object is replaced -/
theorem d_write {h' : Heap} {t' : Nat} {ob : HO} (I : Inv X pins σ H s) (mu : Mut (H a)) (hs : Heap.SameBut a s.heap h') (he : ∃ q, h'.get? a = some q) (new : ObjOk X.prog X.w (upd H a ob) h' a ob) :
    Inv X pins σ (upd H a ob) { s with heap := h', toks := t' } :=
  I.write (x := a) (e := a) mu (.inl rfl) (fun b q hb z => (hs.2 b hb).trans z) he new
theorem dk_new {P : Program} {w : World} {H' : Hp} {h' : Heap} {kvs : List (Key × V)} {vs : List (Key × Value)} (z : kvs.length ≤ sizeLine) (hd : (a == sysModules) = false) (rel : KV kvs vs) (dd : h'.DictOf (mixKind P w) a vs) :
    ObjOk P w H' h' a (.dK kvs) := ⟨z, hd, vs, rel, dd⟩
/-- d[y] = v -/
theorem d_setItem {H' : Hp} {Q : Unit → Shared → Prop} (hu : A.units + 1 < cLine) (I : Inv X pins σ H s) (g : DPut H a y v H') (ry : RelV y u) (rv : RelV v r) (h : ∀ s', Inv X pins σ H' s' → Q () s') :
    wpAny (model X.prog X.w) A (setItem (.ref a) u r) Q E s := by
  rcases g with ⟨kvs, k, e, ey, l, eH⟩ | ⟨kvs, k, b, e, ey, eb, l, eH⟩
  · subst ey eH
    obtain ⟨z, hd, vs, rel, dd⟩ := dk_of I.hok e
    have hz : vs.length ≤ sizeLine := by rw [← rel.length]; exact z
    have hl : (putK kvs k v).length ≤ sizeLine := by have := length_putK kvs k v; omega
    refine wpAny_setItem_pairs (hsz := hz) (kV_is ry) dd fun h' dd' hs => h _ ?_
    have he : ∃ q, h'.get? a = some q := let ⟨q, _, _, hq, _⟩ := dd'; ⟨q, hq⟩
    exact d_write I (by rw [e]; exact True.intro) hs he (dk_new hl hd (rel.put k rv) dd')
  · subst ey eH
    cases (show u = Value.ref b from ry)
    obtain ⟨z, hd, xs, rel, dd⟩ := dt_of I.hok e
    have hz : xs.length ≤ sizeLine := by rw [← Paired.length rel]; exact z
    have hl : (putK kvs k v).length ≤ sizeLine := by have := length_putK kvs k v; omega
    refine wpAny_setItem_heap (hsz := hz) (tupleKind_room_in1 hu) (key_of I.hok eb) dd fun h' dd' hs => h _ ?_
    obtain ⟨q, es, ep, hq, h2, h3, h4, _, h5⟩ := dd'
    refine d_write I (by rw [e]; exact True.intro) hs ⟨q, hq⟩ ⟨hl, hd, _, (rel.put k eb rv).keeps fun c ys ec => ?_, q, es, ep, hq, h2, h3, h4, h5⟩
    rw [upd_ne (ne_of ec e (fun z => nomatch z))]
    exact ec
end

section
variable {X : Cx} {pins : List (Addr × Obj)} {σ : St} {H : Hp} {s : Shared} {a : Addr} {kvs : List (Key × V)} {k : Key} {u : Value} {A : Around} {E : Value → Shared → Prop}
/-- del d[k] -/
theorem d_delItem {Q : Unit → Shared → Prop} (I : Inv X pins σ H s) (e : H a = some (.dK kvs)) (ry : RelV (kV k) u) (l : (valV kvs k).isSome = true) (h : ∀ s', Inv X pins σ (upd H a (.dK (dropK kvs k))) s' → Q () s') :
    wpAny (model X.prog X.w) A (delItem (.ref a) u) Q E s := by
  obtain ⟨z, hd, vs, rel, dd⟩ := dk_of I.hok e
  refine wpAny_delItem_slot dd.typeIs (by decide) PySem.F.slot_dict_delitem
    (call_meetsIn PySem.F.slot_dict_delitem dd.typeIs PySem.F.entry_dict_delitem (PySem.F.args_dict_delitem_2 _ _) (meets_dict_delitem_pairs (mixKind X.prog X.w) a (kV_is ry)) ⟨vs, dd, by rw [← rel.length]; exact z, by rw [← (rel.val k).isSome_eq]; exact l, fun h' dd' hs => h _ ?_⟩)
  have he : ∃ q, h'.get? a = some q := let ⟨q, _, _, hq, _⟩ := dd'; ⟨q, hq⟩
  exact d_write I (by rw [e]; exact True.intro) hs he (dk_new (Nat.le_trans (dropK_le kvs k) z) hd (rel.drop k) dd')
/-- d.pop(k[, x]), there -/
theorem d_pop {v : V} {more : List Value} {Q : Value → Shared → Prop} (I : Inv X pins σ H s) (e : H a = some (.dK kvs)) (ry : RelV (kV k) u) (l : valV kvs k = some v) (hm : more = [] ∨ ∃ x, more = [x])
    (h : ∀ w' s', Inv X pins σ (upd H a (.dK (dropK kvs k))) s' → RelV v w' → Q w' s') : wpAny (model X.prog X.w) A (call (.builtin "dict.pop") (.ref a :: u :: more)) Q E s := by
  obtain ⟨z, hd, vs, rel, dd⟩ := dk_of I.hok e
  obtain ⟨w', hw, rw'⟩ := RelO.some_of (v := v) (o := valueAt vs k) (by rw [← l]; exact rel.val k)
  have hp : (keyPart u).isSome = true := by
    cases k with
    | inl i => obtain ⟨t, q⟩ := (show ∃ t, u = Value.int i t from ry); subst q; rfl
    | inr x => obtain ⟨t, q⟩ := (show ∃ t, u = Value.str x t from ry); subst q; rfl
  have ha : argsOk "dict.pop" ⟨.ref a :: u :: more, []⟩ := by
    rcases hm with q | ⟨x, q⟩
    · subst q; exact PySem.F.args_dict_pop_2 _ _
    · subst q; exact PySem.F.args_dict_pop_3 _ _ _
  refine call_meetsIn PySem.F.slot_dict_pop dd.typeIs PySem.F.entry_dict_pop ha (meets_dict_pop_there (mixKind X.prog X.w) a (kV_is ry) more hm hp)
    ⟨vs, w', dd, by rw [← rel.length]; exact z, hw, fun h' dd' hs => h w' _ ?_ rw'⟩
  have he : ∃ q, h'.get? a = some q := let ⟨q, _, _, hq, _⟩ := dd'; ⟨q, hq⟩
  exact d_write I (by rw [e]; exact True.intro) hs he (dk_new (Nat.le_trans (dropK_le kvs k) z) hd (rel.drop k) dd')
/-- d.pop(k, x), not there -/
theorem d_popD {r : Value} {Q : Value → Shared → Prop} (I : Inv X pins σ H s) (e : H a = some (.dK kvs)) (ry : RelV (kV k) u) (l : valV kvs k = none) (h : ∀ s', Inv X pins σ H s' → Q r s') :
    wpAny (model X.prog X.w) A (call (.builtin "dict.pop") [.ref a, u, r]) Q E s := by
  obtain ⟨z, hd, vs, rel, dd⟩ := dk_of I.hok e
  have hn : valueAt vs k = none := RelO.none_of (by rw [← l]; exact rel.val k)
  have hp : (keyPart u).isSome = true := by
    cases k with
    | inl i => obtain ⟨t, q⟩ := (show ∃ t, u = Value.int i t from ry); subst q; rfl
    | inr x => obtain ⟨t, q⟩ := (show ∃ t, u = Value.str x t from ry); subst q; rfl
  exact call_meetsIn PySem.F.slot_dict_pop dd.typeIs PySem.F.entry_dict_pop (PySem.F.args_dict_pop_3 _ _ _) (meets_dict_pop_default (mixKind X.prog X.w) a (kV_is ry) hd hp r) ⟨vs, dd, hn, h _ (I.tok _)⟩
/-- d.clear() -/
theorem d_clear {Q : Value → Shared → Prop} (I : Inv X pins σ H s) (e : H a = some (.dK kvs)) (h : ∀ s', Inv X pins σ (upd H a (.dK [])) s' → Q .none s') : wpAny (model X.prog X.w) A (call (.builtin "dict.clear") [.ref a]) Q E s := by
  obtain ⟨z, hd, vs, rel, dd⟩ := dk_of I.hok e
  refine call_meetsIn PySem.F.slot_dict_clear dd.typeIs PySem.F.entry_dict_clear (PySem.F.args_dict_clear_1 _) (meets_dict_clear (mixKind X.prog X.w) a) ⟨vs, dd, by rw [← rel.length]; exact z, fun h' dd' hs => h _ ?_⟩
  have he : ∃ q, h'.get? a = some q := let ⟨q, _, _, hq, _⟩ := dd'; ⟨q, hq⟩
  exact d_write (t' := s.toks) I (by rw [e]; exact True.intro) hs he (dk_new (Nat.zero_le _) hd .nil dd')
/-- len(d) -/
theorem d_len {Q : Value → Shared → Prop} (I : Inv X pins σ H s) (e : Rd H a (.dK kvs)) (h : ∀ t s', Inv X pins σ H s' → Q (.int kvs.length t) s') : wpAny (model X.prog X.w) A (call (.builtin "len") [.ref a]) Q E s := by
  obtain ⟨z, hd, vs, rel, dd⟩ := dk_rd I.hok e
  refine call_len_dict hd dd (by rw [← rel.length]; rw [sizeLine_eq] at z; omega) ?_
  rw [← rel.length]
  exact h _ _ (I.tok _)
/-- if d -/
theorem d_truth {Q : Bool → Shared → Prop} (I : Inv X pins σ H s) (e : Rd H a (.dK kvs)) (h : ∀ s', Inv X pins σ H s' → Q (!kvs.isEmpty) s') : wpAny (model X.prog X.w) A (truthy (.ref a)) Q E s := by
  obtain ⟨z, hd, vs, rel, dd⟩ := dk_rd I.hok e
  refine wpAny_truthy_dict hd dd (by rw [← rel.length]; rw [sizeLine_eq] at z; omega) ?_
  have q : kvs.isEmpty = vs.isEmpty := by cases rel <;> rfl
  rw [← q]
  exact h _ (I.tok _)
end


/-! ### readings and rules -/
/-- the element of a subscription, not a slice -/
def NoSl (i : Expr) : Prop := ∀ ov iv, subscripted i false ov iv = operate [ov, iv] (getItem ov iv)
theorem subD_of {prog : Program} {w : World} {A : Around} {E : Value → Shared → Prop} {s : Shared} {env : Env} {value slice : Expr} {pos : Pos} {T id : String} {Q : Value → Shared → Prop}
    (hl : typeLookup (.type T) "__getitem__" = pure (some (.builtin id))) (hs : NoSl slice)
    (h : wpAny (model prog w) A (eval value env) (fun o s₁ => wpAny (model prog w) A (eval slice env) (fun i s₂ => s₂.TypeIs o T ∧ wpAny (model prog w) A (getItem o i) Q E s₂) E s₁) E s) :
    wpAny (model prog w) A (eval (.Subscript value slice pos) env) Q E s := by
  refine Subscript_ (wpAny_mono h (fun o s₁ h₁ => wpAny_mono h₁ (fun i s₂ h₂ => ?_) fun _ _ x => x) fun _ _ x => x)
  obtain ⟨hT, h₂⟩ := h₂
  unfold subscriptTail
  refine wpAny_bind ?_
  rw [getitemInPython_of_ne hT.not_modules]
  refine wpAny_bind (wpAny_specialOf hT hl ?_)
  have fin : wpAny (model prog w) A (subscripted slice false o i) (fun r s₃ => wpAny (model prog w) A (letTemporaryGo value o r >>= fun _ => pure r) Q E s₃) E s₂ := by
    rw [hs o i]
    exact wpAny_operating (wpAny_mono h₂ (fun r s₃ h₃ => wpAny_bind (wpAny_letTemporaryGo (wpAny_pure h₃))) fun _ _ x => x)
  first
    | exact wpAny_pure (wpAny_bind fin)
    | exact wpAny_bind (wpAny_pure (wpAny_bind fin))
    | exact wpAny_bind fin

theorem dict_typeIs {X : Cx} {pins : List (Addr × Obj)} {σ : St} {H : Hp} {s : Shared} {a : Addr} {y : V} {o : Option V} (I : Inv X pins σ H s) (g : DGet H a y o) : s.TypeIs (.ref a) "dict" := by
  rcases g with ⟨kvs, k, e, _, _⟩ | ⟨kvs, k, b, e, _, _, _⟩
  · obtain ⟨_, _, vs, _, dd⟩ := dk_rd I.hok e
    exact dd.typeIs
  · obtain ⟨_, _, xs, _, dd⟩ := dt_rd I.hok e
    exact dd.typeIs
theorem dict_noDict {X : Cx} {pins : List (Addr × Obj)} {σ : St} {H : Hp} {s : Shared} {a : Addr} {y : V} {o : Option V} (I : Inv X pins σ H s) (g : DGet H a y o) :
    ∀ b, Value.ref a = .ref b → ∃ ob, s.heap.get? b = some ob ∧ ob.dict = none := fun b q => by
  cases q
  rcases g with ⟨kvs, k, e, _, _⟩ | ⟨kvs, k, b, e, _, _, _⟩
  · obtain ⟨_, _, vs, _, ob, _, _, h1, h2, _⟩ := dk_rd I.hok e
    exact ⟨ob, h1, h2.2.1⟩
  · obtain ⟨_, _, xs, _, ob, _, _, h1, h2, _⟩ := dt_rd I.hok e
    exact ⟨ob, h1, h2.2.1⟩

/-- d[y] -/
def tDGet (td ty : TE) : TE := fun σ H Q => td σ H fun x H1 => ty σ H1 fun y H2 => ∃ a v, x = .ref a ∧ DGet H2 a y (some v) ∧ Q v H2
/-- y in d, y not in d -/
def tDIn (ty td : TE) : TE := fun σ H Q => ty σ H fun y H1 => td σ H1 fun x H2 => ∃ a o, x = .ref a ∧ DGet H2 a y o ∧ Q (.bl o.isSome) H2
def tDNotIn (ty td : TE) : TE := fun σ H Q => ty σ H fun y H1 => td σ H1 fun x H2 => ∃ a o, x = .ref a ∧ DGet H2 a y o ∧ Q (.bl (!o.isSome)) H2
/-- d[y] = v -/
def sDPut (td ty tv : TE) : TS := fun D σ H => tv σ H fun v H1 => td σ H1 fun x H2 => ty σ H2 fun y H3 => ∃ a H4, x = .ref a ∧ DPut H3 a y v H4 ∧ D.nx σ H4
/-- d[y] op= v -/
def sDAug (td ty tv : TE) (rd : V → V → Hp → VK → Prop) : TS := fun D σ H => td σ H fun x H1 => ty σ H1 fun y H2 => ∃ a v, x = .ref a ∧ DGet H2 a y (some v) ∧
  tv σ H2 fun y2 H3 => rd v y2 H3 fun z H4 => ∃ H5, DPut H4 a y z H5 ∧ D.nx σ H5
/-- del d[y] -/
def sDDel (td ty : TE) : TS := fun D σ H => td σ H fun x H1 => ty σ H1 fun y H2 => ∃ a kvs k, x = .ref a ∧ H2 a = some (.dK kvs) ∧ y = kV k ∧ (valV kvs k).isSome = true ∧ D.nx σ (upd H2 a (.dK (dropK kvs k)))

section
variable {X : Cx} {o i e value : Expr} {pos pos' tpos : Pos} {td ty tv : TE}
theorem pe_dget (hu : X.A.units + 1 < cLine) (ho : PE X o td) (hi : PE X i ty) (hs : NoSl i) : PE X (.Subscript o i pos) (tDGet td ty) := by
  intro pins s σ H Q I h
  refine subD_of PySem.F.slot_dict_getitem.lookup hs (thn (ho pins s σ H _ I h) fun u s1 ⟨x, H1, I1, rx, q1⟩ => thn (hi pins s1 σ H1 _ I1 q1) fun iv s2 ⟨y, H2, I2, ry, a, v, ex, g, q2⟩ => ?_)
  subst ex
  obtain rfl : u = Value.ref a := rx
  exact ⟨dict_typeIs I2 g, d_getItem hu I2 g ry fun w' s3 I3 rw' => ⟨v, H2, I3, rw', q2⟩⟩
theorem pc_din (hu : X.A.units + 1 < cLine) (hi : PE X i ty) (ho : PE X o td) : PC X .In i o (tDIn ty td) := by
  intro pins s σ H Q I h
  refine thn (hi pins s σ H _ I h) fun iv s1 ⟨y, H1, I1, ry, q1⟩ => thn (ho pins s1 σ H1 _ I1 q1) fun u s2 ⟨x, H2, I2, rx, a, ov, ex, g, q2⟩ => ?_
  subst ex
  obtain rfl : u = Value.ref a := rx
  exact d_in hu I2 g ry fun s3 I3 => ⟨.bl ov.isSome, H2, I3, rfl, q2⟩
theorem pc_dnotin (hu : X.A.units + 1 < cLine) (hi : PE X i ty) (ho : PE X o td) : PC X .NotIn i o (tDNotIn ty td) := by
  intro pins s σ H Q I h
  refine thn (hi pins s σ H _ I h) fun iv s1 ⟨y, H1, I1, ry, q1⟩ => thn (ho pins s1 σ H1 _ I1 q1) fun u s2 ⟨x, H2, I2, rx, a, ov, ex, g, q2⟩ => ?_
  subst ex
  obtain rfl : u = Value.ref a := rx
  exact d_notIn hu I2 g ry fun s3 I3 => ⟨.bl (!ov.isSome), H2, I3, rfl, q2⟩
theorem ps_dput (hu : X.A.units + 1 < cLine) (ho : PE X o td) (hi : PE X i ty) (hv : PE X value tv) (hs : swapsWith value (some (.Subscript o i pos')) pos.line X.env = pure false) :
    PS X (.Assign [.Subscript o i pos'] value pos) (sDPut td ty tv) := by
  intro pins s σ H D I h
  refine wpAny_Assign_Subscript (thn (hv pins s σ H _ I h) fun r s1 ⟨v, H1, I1, rv, q1⟩ => thn (ho pins s1 σ H1 _ I1 q1) fun u s2 ⟨x, H2, I2, rx, q2⟩ => thn (hi pins s2 σ H2 _ I2 q2) fun iv s3 ⟨y, H3, I3, ry, a, H4, ex, g, q3⟩ => ?_) hs
  subst ex
  obtain rfl : u = Value.ref a := rx
  exact d_setItem hu I3 g ry rv fun s4 I4 => ⟨σ, H4, I4, q3⟩
theorem ps_daug {op : Operator} {rd : V → V → Hp → VK → Prop} (hu : X.A.units + 1 < cLine) (ho : PE X o td) (hi : PE X i ty) (hv : PE X value tv) (hop : InOp X op rd)
    (ha : ∀ ov iv new, augStore i ov iv new = (do holding [new, ov, iv] (setItem ov iv new); release [new, ov, iv] []; pure .next)) : PS X (.AugAssign (.Subscript o i tpos) op value pos) (sDAug td ty tv rd) := by
  intro pins s σ H D I h
  refine wpAny_AugAssign_SubscriptAny (thn (ho pins s σ H _ I h) fun u s1 ⟨x, H1, I1, rx, q1⟩ => thn (hi pins s1 σ H1 _ I1 q1) fun iv s2 ⟨y, H2, I2, ry, a, v, ex, g, q2⟩ => ?_) ha
  subst ex
  obtain rfl : u = Value.ref a := rx
  refine d_getItem hu I2 g ry fun w' s3 I3 rw' => thn (hv pins s3 σ H2 _ I3 q2) fun w2 s4 ⟨y2, H3, I4, ry2, q3⟩ => thn (hop pins s4 σ H3 v y2 w' w2 _ I4 rw' ry2 q3) fun w3 s5 ⟨z, H4, I5, rz, H5, g5, q4⟩ => ?_
  exact d_setItem hu I5 g5 ry rz fun s6 I6 => ⟨σ, H5, I6, q4⟩
theorem ps_ddel (ho : PE X o td) (hi : PE X i ty) : PS X (.Delete [.Subscript o i tpos] pos) (sDDel td ty) := by
  intro pins s σ H D I h
  refine wpAny_Delete (wpAny_deleteEach_cons (wpAny_delete_Subscript (thn (ho pins s σ H _ I h) fun u s1 ⟨x, H1, I1, rx, q1⟩ => thn (hi pins s1 σ H1 _ I1 q1) fun iv s2 ⟨y, H2, I2, ry, a, kvs, k, ex, e, ey, l, q2⟩ => ?_)))
  subst ex ey
  obtain rfl : u = Value.ref a := rx
  exact d_delItem I2 e ry l fun s3 I3 => wpAny_deleteEach_nil ⟨σ, _, I3, q2⟩
end


/-! ### displays -/
theorem dk_empty {P : Program} {w : World} {H : Hp} (h : Heap) (hb : sysModules < h.objs.size) : ObjOk P w H (h.push { cls := .type "dict", data := .dict #[] }) h.objs.size (.dK []) :=
  ⟨Nat.zero_le _, beq_eq_false_iff_ne.mpr (Ne.symm (Nat.ne_of_lt hb)), [], .nil, Heap.DictOf.new h⟩
theorem dt_empty {P : Program} {w : World} {H : Hp} (h : Heap) (hb : sysModules < h.objs.size) : ObjOk P w H (h.push { cls := .type "dict", data := .dict #[] }) h.objs.size (.dT []) :=
  ⟨Nat.zero_le _, beq_eq_false_iff_ne.mpr (Ne.symm (Nat.ne_of_lt hb)), [], .nil, _, #[], 0, Heap.get?_push_size _ rfl, ⟨rfl, rfl, rfl⟩, rfl, rfl, List.nodup_nil⟩
/-- {}, to be a dict of the kind that is wanted -/
def tDNewK : TE := fun _ H Q => ∀ p, H p = none → Q (.ref p) (upd H p (.dK []))
def tDNewT : TE := fun _ H Q => ∀ p, H p = none → Q (.ref p) (upd H p (.dT []))
section
variable {X : Cx} {pos : Pos}
theorem pe_dnewK : PE X (.Dict [] [] pos) tDNewK := fun pins s σ H Q I h =>
  wpAny_Dict_empty ⟨.ref s.heap.objs.size, _, I.laid (a := s.heap.objs.size) (o := .dK []) (t' := s.toks) (fun _ _ q => Heap.get?_push_of_some _ q) (Nat.le_refl _) (dk_empty s.heap I.big), rfl, h _ (I.hok.fresh (Nat.le_refl _))⟩
theorem pe_dnewT : PE X (.Dict [] [] pos) tDNewT := fun pins s σ H Q I h =>
  wpAny_Dict_empty ⟨.ref s.heap.objs.size, _, I.laid (a := s.heap.objs.size) (o := .dT []) (t' := s.toks) (fun _ _ q => Heap.get?_push_of_some _ q) (Nat.le_refl _) (dt_empty s.heap I.big), rfl, h _ (I.hok.fresh (Nat.le_refl _))⟩
end

/-- the pairs of a display, from the left -/
def tPairs : List (TE × TE) → St → Hp → (List (V × V) → Hp → Prop) → Prop
  | [], _, H, Q => Q [] H
  | (tk, tv) :: r, σ, H, Q => tk σ H fun x H1 => tv σ H1 fun y H2 => tPairs r σ H2 fun ps H3 => Q ((x, y) :: ps) H3
abbrev VV : List (V × V) → List (Value × Value) → Prop := Paired fun p q => RelV p.1 q.1 ∧ RelV p.2 q.2
def PPs (X : Cx) (pos : Pos) (keys : List (Option Expr)) (values : List Expr) (trs : List (TE × TE)) : Prop :=
  ∀ (pins : List (Addr × Obj)) (s : Shared) (σ : St) (H : Hp) (Q : List (V × V) → Hp → Prop), Inv X pins σ H s → tPairs trs σ H Q →
    wpAny (model X.prog X.w) X.A (evalPairs (pairTrees keys values X.env pos)) (fun vs s' => ∃ ps H', Inv X pins σ H' s' ∧ VV ps vs ∧ Q ps H') X.xe s
theorem pps_nil {X : Cx} {pos : Pos} : PPs X pos [] [] [] := fun pins s σ H Q I h => pairTrees_nil_walk ⟨[], H, I, .nil, h⟩
theorem pps_cons {X : Cx} {pos : Pos} {k v : Expr} {ks : List (Option Expr)} {vs : List Expr} {tk tv : TE} {trs : List (TE × TE)} (hk : PE X k tk) (hv : PE X v tv) (hr : PPs X pos ks vs trs) :
    PPs X pos (some k :: ks) (v :: vs) ((tk, tv) :: trs) := fun pins s σ H Q I h =>
  pairTrees_cons_walk (thn (hk pins s σ H _ I h) fun u s1 ⟨x, H1, I1, rx, q1⟩ => thn (hv pins s1 σ H1 _ I1 q1) fun w2 s2 ⟨y, H2, I2, ry, q2⟩ =>
    thn (hr pins s2 σ H2 _ I2 q2) fun ws s3 ⟨ps, H3, I3, rel, q3⟩ => ⟨(x, y) :: ps, H3, I3, .cons ⟨rx, ry⟩ rel, q3⟩)

def mergeK (kvs more : List (Key × V)) : List (Key × V) := more.foldl (fun acc kv => putK acc kv.1 kv.2) kvs
theorem KV.merge : ∀ {more : List (Key × V)} {rs : List (Key × Value)} {kvs : List (Key × V)} {vs : List (Key × Value)}, KV more rs → KV kvs vs → KV (mergeK kvs more) (merged vs rs) := by
  intro more rs kvs vs r
  unfold KV at r
  induction r generalizing kvs vs with
  | nil => intro q; exact q
  | @cons p q ps qs h t ih =>
    intro r0
    have e : KV (putK kvs p.1 p.2) (stored vs q.1 q.2) := by
      have := r0.put p.1 h.2
      rw [← h.1]; exact this
    exact ih e
theorem length_mergeK : ∀ (more kvs : List (Key × V)), (mergeK kvs more).length ≤ kvs.length + more.length
  | [], kvs => by show kvs.length ≤ kvs.length + 0; omega
  | p :: r, kvs => by
    have h1 := length_mergeK r (putK kvs p.1 p.2)
    have h2 := length_putK kvs p.1 p.2
    show (mergeK (putK kvs p.1 p.2) r).length ≤ _
    rw [List.length_cons]; omega
theorem carries_of {P : Program} {w : World} : ∀ {kvs : List (Key × V)} {ws : List (Value × Value)}, VV (kvs.map fun kv => (kV kv.1, kv.2)) ws → ∃ rs, Carries (mixKind P w) ws rs ∧ KV kvs rs
  | [], _, r => by rw [List.map_nil] at r; cases r; exact ⟨[], True.intro, .nil⟩
  | p :: kvs, _, r => by
    rw [List.map_cons] at r
    cases r with
    | @cons a b as bs h t =>
      obtain ⟨rs, c, q⟩ := carries_of (P := P) (w := w) t
      obtain ⟨b1, b2⟩ := b
      exact ⟨(p.1, b2) :: rs, ⟨kV_is h.1, rfl, c⟩, .cons ⟨rfl, h.2⟩ q⟩
/-- {k: v, ..} with keys ints and texts; the new dict stands empty while the pairs are made -/
def tDisp (trs : List (TE × TE)) : TE := fun σ H Q => ∀ p, H p = none → tPairs trs σ (upd H p (.dK [])) fun ps H2 => H2 p = some (.dK []) ∧ ∃ kvs : List (Key × V), ps = kvs.map (fun kv => (kV kv.1, kv.2)) ∧ kvs.length ≤ 15 ∧ Q (.ref p) (upd H2 p (.dK (mergeK [] kvs)))
theorem pe_disp {X : Cx} {pos : Pos} {keys : List (Option Expr)} {values : List Expr} {trs : List (TE × TE)} (h : PPs X pos keys values trs) (hall : keys.all (·.isSome) = true) (hl : keys.length = values.length) (h0 : keys ≠ [])
    (h15 : keys.length ≤ 15) : PE X (.Dict keys values pos) (tDisp trs) := by
  intro pins s σ H Q I q
  have hn := I.hok.fresh (Nat.le_refl s.heap.objs.size)
  have I1 := I.laid (a := s.heap.objs.size) (o := .dK []) (h' := s.heap.push { cls := .type "dict", data := .dict #[] }) (t' := s.toks) (fun _ _ q => Heap.get?_push_of_some _ q) (Nat.le_refl _) (dk_empty s.heap I.big)
  refine wpAny_Dict_walk (knd := mixKind X.prog X.w) hall hl h0 h15 (thn (h pins _ σ _ _ I1 (q _ hn)) fun ws s2 ⟨ps, H2, I2, rel, e, kvs, ep, lk, q2⟩ => ?_)
  subst ep
  obtain ⟨rs, c, rk⟩ := carries_of (P := X.prog) (w := X.w) rel
  obtain ⟨z, hd, vs0, r0, dd⟩ := dk_of I2.hok e
  cases r0
  refine ⟨rs, c, dd, fun h' dd' hs => ⟨.ref s.heap.objs.size, _, ?_, rfl, q2⟩⟩
  have hz : (mergeK [] kvs).length ≤ sizeLine := by
    have h1 := length_mergeK kvs []
    rw [List.length_nil] at h1
    rw [sizeLine_eq]; omega
  have he : ∃ q, h'.get? s.heap.objs.size = some q := let ⟨q, _, _, hq, _⟩ := dd'; ⟨q, hq⟩
  exact d_write I2 (by rw [e]; exact True.intro) hs he (dk_new hz hd (rk.merge .nil) dd')


/-! ### methods -/
/-- a method call o.m(e) of a built-in, with one argument: what must be seen of the text -/
structure M1 (X : Cx) (o : Expr) (m : Str) (apos : Pos) (e : Expr) (cpos : Pos) : Prop where
  base : attributeBase o m X.env (eval o X.env) = eval o X.env
  few : ((backTo cpos (starEach [e] X.env)).all (fun x => !x.1) && (backToKw cpos (keywordEach [] X.env)).all (fun x => x.1.isSome)
    && decide (([e] : List Expr).length + ([] : List Keyword).length + (if ([] : List Keyword).isEmpty then 0 else 1) < 30)) = true
  line : (apos.endLine == cpos.line) = true
  trees : backTo cpos (starEach [e] X.env) = [(false, eval e X.env)]
structure M2 (X : Cx) (o : Expr) (m : Str) (apos : Pos) (e f : Expr) (cpos : Pos) : Prop where
  base : attributeBase o m X.env (eval o X.env) = eval o X.env
  few : ((backTo cpos (starEach [e, f] X.env)).all (fun x => !x.1) && (backToKw cpos (keywordEach [] X.env)).all (fun x => x.1.isSome)
    && decide (([e, f] : List Expr).length + ([] : List Keyword).length + (if ([] : List Keyword).isEmpty then 0 else 1) < 30)) = true
  line : (apos.endLine == cpos.line) = true
  trees : backTo cpos (starEach [e, f] X.env) = [(false, eval e X.env), (false, eval f X.env)]

/-- a is a dict, whatever its keys -/
def IsD (H : Hp) (a : Addr) : Prop := (∃ kvs, Rd H a (.dK kvs)) ∨ ∃ kvs, Rd H a (.dT kvs)
theorem isD_at {X : Cx} {pins : List (Addr × Obj)} {σ : St} {H : Hp} {s : Shared} {a : Addr} (I : Inv X pins σ H s) (d : IsD H a) :
    s.TypeIs (.ref a) "dict" ∧ (∀ b, Value.ref a = .ref b → ∃ ob, s.heap.get? b = some ob ∧ ob.dict = none) ∧ (a == sysModules) = false := by
  rcases d with ⟨kvs, e⟩ | ⟨kvs, e⟩
  · obtain ⟨_, hd, vs, _, dd⟩ := dk_rd I.hok e
    refine ⟨dd.typeIs, fun b q => ?_, hd⟩
    cases q
    obtain ⟨ob, _, _, h1, h2, _⟩ := dd
    exact ⟨ob, h1, h2.2.1⟩
  · obtain ⟨_, hd, xs, _, dd⟩ := dt_rd I.hok e
    refine ⟨dd.typeIs, fun b q => ?_, hd⟩
    cases q
    obtain ⟨ob, _, _, h1, h2, _⟩ := dd
    exact ⟨ob, h1, h2.2.1⟩

section
variable {X : Cx} {pins : List (Addr × Obj)} {σ : St} {H : Hp} {s : Shared} {a : Addr} {y d : V} {u r : Value} {o : Option V} {A : Around} {E : Value → Shared → Prop}
/-- d.get(y) -/
theorem d_get1 {Q : Value → Shared → Prop} (hu : A.units + 1 < cLine) (I : Inv X pins σ H s) (g : DGet H a y o) (ry : RelV y u) (h : ∀ w' s', Inv X pins σ H s' → RelV (o.getD .non) w' → Q w' s') :
    wpAny (model X.prog X.w) A (call (.builtin "dict.get") [.ref a, u]) Q E s := by
  rcases g with ⟨kvs, k, e, ey, l⟩ | ⟨kvs, k, b, e, ey, eb, l⟩
  · subst ey
    obtain ⟨z, hd, vs, rel, dd⟩ := dk_rd I.hok e
    refine call_meetsIn PySem.F.slot_dict_get dd.typeIs PySem.F.entry_dict_get (PySem.F.args_dict_get_2 _ _) (meets_dict_get (mixKind X.prog X.w) a (kV_is ry) hd) ⟨_, dd.mapOf, h _ _ (I.tok _) ?_⟩
    rw [l]
    exact (rel.val k).getD rfl
  · subst ey
    cases (show u = Value.ref b from ry)
    obtain ⟨z, hd, xs, rel, dd⟩ := dt_rd I.hok e
    refine call_meetsIn PySem.F.slot_dict_get dd.typeIs PySem.F.entry_dict_get (PySem.F.args_dict_get_2 _ _) (meetsH_dict_get (tupleKind (mixKind X.prog X.w)) a b hd) ⟨tupleKind_room_in1 hu, k, xs, key_of I.hok eb, dd, h _ _ (I.tok _) ?_⟩
    rw [l]
    exact (rel.val k).getD rfl
/-- d.get(y, x) -/
theorem d_get2 {Q : Value → Shared → Prop} (hu : A.units + 1 < cLine) (I : Inv X pins σ H s) (g : DGet H a y o) (ry : RelV y u) (rd : RelV d r) (h : ∀ w' s', Inv X pins σ H s' → RelV (o.getD d) w' → Q w' s') :
    wpAny (model X.prog X.w) A (call (.builtin "dict.get") [.ref a, u, r]) Q E s := by
  rcases g with ⟨kvs, k, e, ey, l⟩ | ⟨kvs, k, b, e, ey, eb, l⟩
  · subst ey
    obtain ⟨z, hd, vs, rel, dd⟩ := dk_rd I.hok e
    refine call_meetsIn PySem.F.slot_dict_get dd.typeIs PySem.F.entry_dict_get (PySem.F.args_dict_get_3 _ _ _) (meets_dict_get_default (mixKind X.prog X.w) a (kV_is ry) hd r) ⟨_, dd.mapOf, h _ _ (I.tok _) ?_⟩
    rw [l]
    exact (rel.val k).getD rd
  · subst ey
    cases (show u = Value.ref b from ry)
    obtain ⟨z, hd, xs, rel, dd⟩ := dt_rd I.hok e
    refine call_meetsIn PySem.F.slot_dict_get dd.typeIs PySem.F.entry_dict_get (PySem.F.args_dict_get_3 _ _ _) (meetsH_dict_get_default (tupleKind (mixKind X.prog X.w)) a b hd r) ⟨tupleKind_room_in1 hu, k, xs, key_of I.hok eb, dd, h _ _ (I.tok _) ?_⟩
    rw [l]
    exact (rel.val k).getD rd
end

def tDGet1 (td ty : TE) : TE := fun σ H Q => td σ H fun x H1 => ∃ a, x = .ref a ∧ IsD H1 a ∧ ty σ H1 fun y H2 => ∃ o, DGet H2 a y o ∧ Q (o.getD .non) H2
def tDGet2 (td ty tx : TE) : TE := fun σ H Q => td σ H fun x H1 => ∃ a, x = .ref a ∧ IsD H1 a ∧ ty σ H1 fun y H2 => tx σ H2 fun z H3 => ∃ o, DGet H3 a y o ∧ Q (o.getD z) H3
/-- d.pop(k): there; d.pop(k, x): there or not -/
def tDPop1 (td ty : TE) : TE := fun σ H Q => td σ H fun x H1 => ∃ a, x = .ref a ∧ IsD H1 a ∧ ty σ H1 fun y H2 => ∃ kvs k v, H2 a = some (.dK kvs) ∧ y = kV k ∧ valV kvs k = some v ∧ Q v (upd H2 a (.dK (dropK kvs k)))
def tDPop2 (td ty tx : TE) : TE := fun σ H Q => td σ H fun x H1 => ∃ a, x = .ref a ∧ IsD H1 a ∧ ty σ H1 fun y H2 => tx σ H2 fun z H3 => ∃ kvs k, H3 a = some (.dK kvs) ∧ y = kV k ∧
  (∀ v, valV kvs k = some v → Q v (upd H3 a (.dK (dropK kvs k)))) ∧ (valV kvs k = none → Q z H3)
section
variable {X : Cx} {o e f : Expr} {apos cpos : Pos} {td ty tx : TE}
theorem pe_dget1 (hu : X.A.units + 1 < cLine) (ho : PE X o td) (he : PE X e ty) (m : M1 X o "get" apos e cpos) : PE X (.Call (.Attribute o "get" apos) [e] [] cpos) (tDGet1 td ty) := by
  intro pins s σ H Q I h
  refine wpAny_Call_method m.base m.few m.line PySem.F.plainAttrs_dict PySem.F.slot_dict_get PySem.F.type_dict_get (thn (ho pins s σ H _ I h) fun u s1 ⟨x, H1, I1, rx, a, ex, d, q1⟩ => ?_)
  subst ex
  obtain rfl : u = Value.ref a := rx
  obtain ⟨t1, t2, _⟩ := isD_at I1 d
  refine ⟨t1, t2, ?_⟩
  rw [m.trees]
  refine Calls.callWith_builtin rfl (Calls.evalArgs_plain (Calls.spliced_cons (thn (he pins s1 σ H1 _ I1 q1) fun iv s2 ⟨y, H2, I2, ry, ov, g, q2⟩ => Calls.spliced_nil ?_)))
  exact d_get1 hu I2 g ry fun w' s3 I3 rw' => ⟨_, H2, I3, rw', q2⟩
theorem pe_dget2 (hu : X.A.units + 1 < cLine) (ho : PE X o td) (he : PE X e ty) (hf : PE X f tx) (m : M2 X o "get" apos e f cpos) : PE X (.Call (.Attribute o "get" apos) [e, f] [] cpos) (tDGet2 td ty tx) := by
  intro pins s σ H Q I h
  refine wpAny_Call_method m.base m.few m.line PySem.F.plainAttrs_dict PySem.F.slot_dict_get PySem.F.type_dict_get (thn (ho pins s σ H _ I h) fun u s1 ⟨x, H1, I1, rx, a, ex, d, q1⟩ => ?_)
  subst ex
  obtain rfl : u = Value.ref a := rx
  obtain ⟨t1, t2, _⟩ := isD_at I1 d
  refine ⟨t1, t2, ?_⟩
  rw [m.trees]
  refine Calls.callWith_builtin rfl (Calls.evalArgs_plain (Calls.spliced_cons (thn (he pins s1 σ H1 _ I1 q1) fun iv s2 ⟨y, H2, I2, ry, q2⟩ =>
    Calls.spliced_cons (thn (hf pins s2 σ H2 _ I2 q2) fun fv s3 ⟨z, H3, I3, rz, ov, g, q3⟩ => Calls.spliced_nil ?_))))
  exact d_get2 hu I3 g ry rz fun w' s4 I4 rw' => ⟨_, H3, I4, rw', q3⟩
theorem pe_dpop1 (ho : PE X o td) (he : PE X e ty) (m : M1 X o "pop" apos e cpos) : PE X (.Call (.Attribute o "pop" apos) [e] [] cpos) (tDPop1 td ty) := by
  intro pins s σ H Q I h
  refine wpAny_Call_method m.base m.few m.line PySem.F.plainAttrs_dict PySem.F.slot_dict_pop PySem.F.type_dict_pop (thn (ho pins s σ H _ I h) fun u s1 ⟨x, H1, I1, rx, a, ex, d, q1⟩ => ?_)
  subst ex
  obtain rfl : u = Value.ref a := rx
  obtain ⟨t1, t2, _⟩ := isD_at I1 d
  refine ⟨t1, t2, ?_⟩
  rw [m.trees]
  refine Calls.callWith_builtin rfl (Calls.evalArgs_plain (Calls.spliced_cons (thn (he pins s1 σ H1 _ I1 q1) fun iv s2 ⟨y, H2, I2, ry, kvs, k, v, ea, ey, l, q2⟩ => Calls.spliced_nil ?_)))
  subst ey
  exact d_pop I2 ea ry l (.inl rfl) fun w' s3 I3 rw' => ⟨v, _, I3, rw', q2⟩
theorem pe_dpop2 (ho : PE X o td) (he : PE X e ty) (hf : PE X f tx) (m : M2 X o "pop" apos e f cpos) : PE X (.Call (.Attribute o "pop" apos) [e, f] [] cpos) (tDPop2 td ty tx) := by
  intro pins s σ H Q I h
  refine wpAny_Call_method m.base m.few m.line PySem.F.plainAttrs_dict PySem.F.slot_dict_pop PySem.F.type_dict_pop (thn (ho pins s σ H _ I h) fun u s1 ⟨x, H1, I1, rx, a, ex, d, q1⟩ => ?_)
  subst ex
  obtain rfl : u = Value.ref a := rx
  obtain ⟨t1, t2, _⟩ := isD_at I1 d
  refine ⟨t1, t2, ?_⟩
  rw [m.trees]
  refine Calls.callWith_builtin rfl (Calls.evalArgs_plain (Calls.spliced_cons (thn (he pins s1 σ H1 _ I1 q1) fun iv s2 ⟨y, H2, I2, ry, q2⟩ =>
    Calls.spliced_cons (thn (hf pins s2 σ H2 _ I2 q2) fun fv s3 ⟨z, H3, I3, rz, kvs, k, ea, ey, q3, q4⟩ => Calls.spliced_nil ?_))))
  subst ey
  cases l : valV kvs k with
  | some v => exact d_pop I3 ea ry l (.inr ⟨fv, rfl⟩) fun w' s4 I4 rw' => ⟨v, _, I4, rw', q3 v l⟩
  | none => exact d_popD I3 ea ry l fun s4 I4 => ⟨z, H3, I4, rz, q4 l⟩
end

/-! ### dict(d): a copy -/
section
variable {X : Cx} {pins : List (Addr × Obj)} {σ : St} {H : Hp} {s : Shared} {a : Addr} {kvs : List (Key × V)} {A : Around} {E : Value → Shared → Prop}
theorem d_copyOf {Q : Value → Shared → Prop} (I : Inv X pins σ H s) (e : Rd H a (.dK kvs)) (h : ∀ p s', H p = none → Inv X pins σ (upd H p (.dK kvs)) s' → Q (.ref p) s') : wpAny (model X.prog X.w) A (call (.type "dict") [.ref a]) Q E s := by
  obtain ⟨z, hd, vs, rel, dd⟩ := dk_rd I.hok e
  refine kt_call_dict hd dd (by rw [← rel.length]; exact z) fun h' dd' hs => ?_
  refine h _ _ (I.hok.fresh (Nat.le_refl _)) (I.laid (a := s.heap.objs.size) (o := .dK kvs) (t' := s.toks) (fun b q hq => ?_) (Nat.le_refl _) (dk_new z (beq_eq_false_iff_ne.mpr (Ne.symm (Nat.ne_of_lt I.big))) rel dd'))
  exact (hs.2 b (Nat.ne_of_lt (Heap.lt_size hq))).trans (Heap.get?_push_of_some _ hq)
end


section
variable {X : Cx} {pins : List (Addr × Obj)} {σ : St} {H : Hp} {s : Shared} {a : Addr} {y : V} {u : Value} {A : Around} {E : Value → Shared → Prop}
/-- d[y], not there: a KeyError -/
theorem d_missing {Q : Value → Shared → Prop} (hu : A.units + 1 < cLine) (hh : A.handled = none) (I : Inv X pins σ H s) (g : DGet H a y none) (ry : RelV y u)
    (h : ∀ h' e t', Heap.NewExc s.heap h' e "KeyError" → E (.ref e) { s with heap := h', toks := t' }) : wpAny (model X.prog X.w) A (getItem (.ref a) u) Q E s := by
  rcases g with ⟨kvs, k, e, ey, l⟩ | ⟨kvs, k, b, e, ey, eb, l⟩
  · subst ey
    obtain ⟨z, hd, vs, rel, dd⟩ := dk_rd I.hok e
    have hn : valueAt vs k = none := RelO.none_of (by rw [l]; exact rel.val k)
    exact wpAny_getItem_missing_of (kV_is ry) hd hh dd.mapOf hn fun h' ex ne => h h' ex _ ne
  · subst ey
    cases (show u = Value.ref b from ry)
    obtain ⟨z, hd, xs, rel, dd⟩ := dt_rd I.hok e
    have hn : (atKey xs k).map (·.2) = none := RelO.none_of (by rw [l]; exact rel.val k)
    exact wpAny_getItem_missing_heap (tupleKind_room_in1 hu) (key_of I.hok eb) hd hh dd (Option.map_eq_none_iff.mp hn) fun h' ex ne => h h' ex _ ne
end
end L2

namespace Att
open PySem PySem.W PySem.Calls PyProof.Rows

/-! ### the script -/
theorem ints_of_wellAll {P : Params} {h : Heap} : ∀ (ns : List Int) (vs : List Value), WellAll P h vs (ns.map WData.int) → IntsAre vs ns := by
  intro ns
  induction ns with
  | nil =>
    intro vs w
    rw [List.map_nil] at w
    cases w
    exact .nil
  | cons n ns ih =>
    intro vs w
    rw [List.map_cons] at w
    cases w with
    | cons a b =>
      cases a
      exact .cons _ _ (ih _ b)

theorem script_of {l : OpenLaw} {n : Nat} (hn : l.most = some n) {P : Params} {h : Heap} {args : List WData} {vals : List Value}
    (hpre : l.row.toRowW.claim.pre args = true) (hwl : WellAll P h vals args) :
    ∃ a vs ns, vals = [Value.ref a] ∧ args = [WData.list (ns.map WData.int)] ∧ h.get? a = some { cls := .type "list", data := .seq vs.toArray } ∧ IntsAre vs ns ∧ ns.length ≤ n := by
  have hsh : WShape.hasAll [] args [.list .int] = true := (pre_splitW hpre).1
  have hc : l.pre.holds [] { args := args } = true := (pre_splitW hpre).2
  obtain ⟨d, r, rfl, h1, h2⟩ := hasAllW_cons hsh
  obtain rfl := hasAllW_nil h2
  obtain ⟨xs, rfl, h3⟩ := hasW_list h1
  obtain ⟨ns, rfl⟩ := items_int h3
  have hlen : ns.length ≤ n := by
    unfold OpenLaw.pre at hc
    have h4 : (WTm.not (.lt (.lit (.int (n : Int))) (.len (.arg 0)))).holds [] { args := [.list (ns.map .int)] } = true := by
      have h4 := (holds_andW hc).1
      rw [hn] at h4
      exact h4
    have h5 := condW_of h4 (w_not (w_lt w_lit (w_len_list (w_arg rfl))))
    rw [List.length_map] at h5
    refine Nat.le_of_not_lt fun q => ?_
    have q' : (n : Int) < ((ns.length : Nat) : Int) := by omega
    first
      | (rw [decide_eq_true q'] at h5; exact absurd h5 (by decide))
      | (simp at h5; omega)
  cases hwl with
  | cons w1 w2 =>
    cases w2
    cases w1 with
    | list ho hall => exact ⟨_, _, ns, rfl, rfl, ho, ints_of_wellAll ns _ hall, hlen⟩

theorem post_true (l : OpenLaw) (args : List WData) : l.row.toRowW.claim.post args (.bool true) args = true :=
  postW_of (r := l.row.toRowW) (X := (true == true))
    (show WShape.has [] (.bool true) .bool = true by first | rfl | decide | simp [WShape.has, WShape.arms, WShape.armsAll])
    (show (WTm.eq .res (.lit (.bool true))).value [] { args := args, res := some (.bool true), after := args } = some (.bool (true == true)) from w_eq_bool (w_res rfl) w_lit) rfl

/-! ### the attachment: holds_open's last premise (the goal 'hc' behind k_head) from a wpAny of the law's body -/
theorem attach {l : OpenLaw} {n : Nat} {q : Program} {loose : List Str} {XP : (Str → Option Value) → Heap → Prop} {YP : World → Heap → Prop} {d : DefRec} {x : Str}
    (hn : l.most = some n) (hdf : d.params.defaults = [])
    (hbind : ∀ pm cd doc v : Value, bindArgs (docDef d.name d.params d.body d.scope pm cd doc) ⟨[v], []⟩ = pure [(x, v)])
    (hx : d.scope.names.lookup x = some .local ∨ d.scope.names.lookup x = some .cell)
    (hk : d.scope.kind = .function) (hco : d.scope.isCoroutine = false) (hgen : d.scope.isGenerator = false)
    (body : ∀ (w : World) (s₀ s₁ s : Shared) (mg mb : Str → Option Value) (fa : Addr) (o : Obj) (pm cd doc : Value) (a : Addr) (vs : List Value) (ns : List Int),
      Ground q loose [] XP w s₀ mg mb s₁.heap → YP w s₁.heap →
      s₁.heap.get? fa = some o → o.data = .func (docDef d.name d.params d.body d.scope pm cd doc) → s₁.heap.CodeRec cd d.name → mg d.name = some (.ref fa) →
      s₁.heap.get? a = some { cls := .type "list", data := .seq vs.toArray } → IntsAre vs ns → ns.length ≤ n →
      s.gens = #[] → s.os = s₁.os →
      Fr s₁.heap s₁.heap.objs.size s.heap (bindL (envOfC d.name d.scope s₁.heap.objs.size fa cd).kindOf [(x, .ref a)] fun _ => none) →
      Cl s₁.heap.objs.size (cellsFrom (s₁.heap.objs.size + 1) d.scope.names []) s.heap (bindC (envOfC d.name d.scope s₁.heap.objs.size fa cd).kindOf [(x, .ref a)] fun _ => none) →
      wpAny (model l.prog w) (callerA.deeper (envOfC d.name d.scope s₁.heap.objs.size fa cd)) (execs d.body (envOfC d.name d.scope s₁.heap.objs.size fa cd))
        (fun f s' => f = .ret (.bool true) ∧ OldK s₁.heap s'.heap ∧ s'.os = s₁.os ∧ AllBare s'.gens) (fun _ _ => False) s) :
    WalkO q loose XP YP l.row.toRowW d [] (fun f vs => PySem.call f vs) := by
  intro w s₀ s₁ mg mb G Y fa o pm cd doc dV kV ho hd hcd hD hmg hg args vals as hpre hlay hrd hwl hlo
  obtain rfl : dV = .none := Dflts.none hD hdf
  obtain rfl : kV = .none := Dflts.noKw hD
  obtain ⟨a, vs, ns, rfl, rfl, hobj, hints, hlen⟩ := script_of hn hpre hwl
  refine enter_call ?_
  refine call_cells_ret (o := o) (by rw [depth_caller]; decide) ho (fd_plain hd) G.T.nolimit hcd (hbind pm cd doc (.ref a)) (fun y hy => ?_) (fun h₁ tk F X => ?_) hco hgen hk
  · obtain rfl : y = (x, Value.ref a) := List.mem_singleton.mp hy
    rcases hx with e | e
    · exact .inl e
    · exact .inr ⟨e, cellsFrom_some _ _ _ (.inl e)⟩
  · refine wpAny_mono (body w s₀ s₁ { s₁ with heap := h₁, toks := tk } mg mb fa o pm cd doc a vs ns G Y ho (fd_plain hd) hcd hmg hobj hints hlen hg rfl F X) (fun f s' hq => ?_) (fun _ _ hq => hq)
    obtain ⟨rfl, h2, h3, h4⟩ := hq
    exact ⟨.inl ⟨.bool true, .bool true, [], rfl, fun _ => rfl, .bool true, post_true l _, fun _ => ⟨List.Pairwise.nil, fun _ hm => (nomatch hm)⟩⟩, h2, h3, h4⟩

/-- the same from a codeAny of the CALL (for a layer whose function contracts speak of calls) -/
theorem attach_call {l : OpenLaw} {n : Nat} {q : Program} {loose : List Str} {XP : (Str → Option Value) → Heap → Prop} {YP : World → Heap → Prop} {d : DefRec}
    (hn : l.most = some n) (hdf : d.params.defaults = [])
    (call : ∀ (w : World) (s₀ s₁ : Shared) (mg mb : Str → Option Value) (fa : Addr) (o : Obj) (pm cd doc : Value) (a : Addr) (vs : List Value) (ns : List Int),
      Ground q loose [] XP w s₀ mg mb s₁.heap → YP w s₁.heap →
      s₁.heap.get? fa = some o → o.data = .func (docDef d.name d.params d.body d.scope pm cd doc) → s₁.heap.CodeRec cd d.name → mg d.name = some (.ref fa) →
      s₁.heap.get? a = some { cls := .type "list", data := .seq vs.toArray } → IntsAre vs ns → ns.length ≤ n → s₁.gens = #[] →
      codeAny (model l.prog w) callerA (.call (.ref fa) ⟨[.ref a], []⟩) (fun r s' => r = .ok (.ret (.bool true)) ∧ OldK s₁.heap s'.heap ∧ s'.os = s₁.os ∧ AllBare s'.gens) s₁) :
    WalkO q loose XP YP l.row.toRowW d [] (fun f vs => PySem.call f vs) := by
  intro w s₀ s₁ mg mb G Y fa o pm cd doc dV kV ho hd hcd hD hmg hg args vals as hpre hlay hrd hwl hlo
  obtain rfl : dV = .none := Dflts.none hD hdf
  obtain rfl : kV = .none := Dflts.noKw hD
  obtain ⟨a, vs, ns, rfl, rfl, hobj, hints, hlen⟩ := script_of hn hpre hwl
  refine enter_call (codeAny_mono (call w s₀ s₁ mg mb fa o pm cd doc a vs ns G Y ho (fd_plain hd) hcd hmg hobj hints hlen hg) fun r s' hq => ?_)
  obtain ⟨rfl, h2, h3, h4⟩ := hq
  exact ⟨.inl ⟨.bool true, .bool true, [], rfl, fun _ => rfl, .bool true, post_true l _, fun _ => ⟨List.Pairwise.nil, fun _ hm => (nomatch hm)⟩⟩, h2, h3, h4⟩

/-- the same where the top left finished generators (o_head chose holds_openN): nothing may have changed at all and no generator may be left -/
theorem attachN {l : OpenLaw} {n : Nat} {q : Program} {loose : List Str} {XP : (Str → Option Value) → Heap → Prop} {YP : World → Heap → Prop} {d : DefRec} {x : Str}
    (hn : l.most = some n) (hdf : d.params.defaults = [])
    (hbind : ∀ pm cd doc v : Value, bindArgs (docDef d.name d.params d.body d.scope pm cd doc) ⟨[v], []⟩ = pure [(x, v)])
    (hx : d.scope.names.lookup x = some .local ∨ d.scope.names.lookup x = some .cell)
    (hk : d.scope.kind = .function) (hco : d.scope.isCoroutine = false) (hgen : d.scope.isGenerator = false)
    (body : ∀ (w : World) (s₀ s₁ s : Shared) (mg mb : Str → Option Value) (fa : Addr) (o : Obj) (pm cd doc : Value) (a : Addr) (vs : List Value) (ns : List Int),
      Ground q loose [] XP w s₀ mg mb s₁.heap → YP w s₁.heap →
      s₁.heap.get? fa = some o → o.data = .func (docDef d.name d.params d.body d.scope pm cd doc) → s₁.heap.CodeRec cd d.name → mg d.name = some (.ref fa) →
      s₁.heap.get? a = some { cls := .type "list", data := .seq vs.toArray } → IntsAre vs ns → ns.length ≤ n →
      s.gens = #[] → s.os = s₁.os →
      Fr s₁.heap s₁.heap.objs.size s.heap (bindL (envOfC d.name d.scope s₁.heap.objs.size fa cd).kindOf [(x, .ref a)] fun _ => none) →
      Cl s₁.heap.objs.size (cellsFrom (s₁.heap.objs.size + 1) d.scope.names []) s.heap (bindC (envOfC d.name d.scope s₁.heap.objs.size fa cd).kindOf [(x, .ref a)] fun _ => none) →
      wpAny (model l.prog w) (callerA.deeper (envOfC d.name d.scope s₁.heap.objs.size fa cd)) (execs d.body (envOfC d.name d.scope s₁.heap.objs.size fa cd))
        (fun f s' => f = .ret (.bool true) ∧ (∀ b o, s₁.heap.get? b = some o → s'.heap.get? b = some o) ∧ s'.os = s₁.os ∧ s'.gens = #[]) (fun _ _ => False) s) :
    WalkN q loose XP YP l.row.toRowW d [] (fun f vs => PySem.call f vs) := by
  intro w s₀ s₁ mg mb G Y fa o pm cd doc dV kV ho hd hcd hD hmg hg args vals as hpre hlay hrd hwl hlo
  obtain rfl : dV = .none := Dflts.none hD hdf
  obtain rfl : kV = .none := Dflts.noKw hD
  obtain ⟨a, vs, ns, rfl, rfl, hobj, hints, hlen⟩ := script_of hn hpre hwl
  refine enter_callW ?_
  refine call_cells_ret (o := o) (by rw [depth_caller]; decide) ho (fd_plain hd) G.T.nolimit hcd (hbind pm cd doc (.ref a)) (fun y hy => ?_) (fun h₁ tk F X => ?_) hco hgen hk
  · obtain rfl : y = (x, Value.ref a) := List.mem_singleton.mp hy
    rcases hx with e | e
    · exact .inl e
    · exact .inr ⟨e, cellsFrom_some _ _ _ (.inl e)⟩
  · refine wpAny_mono (body w s₀ s₁ { s₁ with heap := h₁, toks := tk } mg mb fa o pm cd doc a vs ns G Y ho (fd_plain hd) hcd hmg hobj hints hlen hg rfl F X) (fun f s' hq => ?_) (fun _ _ hq => hq)
    obtain ⟨rfl, h2, h3, h4⟩ := hq
    exact ⟨.inl ⟨.bool true, .bool true, [], rfl, fun _ => rfl, .bool true, post_true l _, fun _ => ⟨List.Pairwise.nil, fun _ hm => (nomatch hm)⟩⟩, h2, h3, h4⟩

/-! ### rules over ANY heap (no ledger) from facts about the written part K: the library's own take a ledger (News) for what they write -/
section
variable {prog : Program} {w : World} {A : Around} {E : Value → Shared → Prop} {s : Shared} {K : Frag}

/-- a def of the module, or a method (qual 'C.m'), entered: the frame is the next address; cells behind it -/
theorem call_fn {R : Result → Shared → Prop} {name qual : Str} {params : Arguments} {body : List Stmt} {scope : Scope} {dV kV doc pm cdv ct oc : Value} {an od : Option Addr} {osl : Array (Option Value)} {f : Addr} {args : Args} {binds : List (Str × Value)}
    (X : K.In s.heap) (hlim : s.heap.NoLimit) (ho : K.lookup f = some ⟨oc, od, .func (fnOf name qual params body scope dV kV doc pm an cdv ct), osl⟩) (hcd : codeIn K cdv qual = true) (hroom : A.depth < recursionLimit)
    (hbind : BindsTo s (fnOf name qual params body scope dV kV doc pm an cdv ct) args binds)
    (hkind : (binds.all fun y => scope.names.lookup y.1 == some .local || scope.names.lookup y.1 == some .cell) = true)
    (h : ∀ s₁, InCallC s s.heap.objs.size (bindL (envOfC qual scope s.heap.objs.size f cdv).kindOf binds fun _ => none) (cellsFrom (s.heap.objs.size + 1) scope.names [])
        (bindC (envOfC qual scope s.heap.objs.size f cdv).kindOf binds fun _ => none) s₁ →
      wpAny (model prog w) (A.deeper (envOfC qual scope s.heap.objs.size f cdv)) (execs body (envOfC qual scope s.heap.objs.size f cdv))
        (fun fl s' => R (.ok (.ret (match fl with | .ret v => v | _ => .none))) s')
        (fun e s' => wpAny (model prog w) (A.deeper (envOfC qual scope s.heap.objs.size f cdv)) (leaving (envOfC qual scope s.heap.objs.size f cdv) e) (fun _ s'' => R (.error e) s'') (fun e' s'' => R (.error e') s'') s') s₁)
    (hco : scope.isCoroutine = false) (hgen : scope.isGenerator = false) (hk : scope.kind = .function) : codeAny (model prog w) A (.call (.ref f) args) R s := by
  refine codeAny_call_function hroom (X _ _ ho) rfl hco hgen rfl (codeRec_of X hcd) (hbind _ _ _ _ ?_)
  refine wpAny_newFunctionEnv_cells hk (kindsX hkind _) fun env he s₁ x => ?_
  subst he
  exact ⟨hlim.keeps x.toInCall.keep, codeAny_func (h s₁ x)⟩

/-- C(..): dict at size, instance at size + 1, then __init__ -/
theorem make_obj {R : Result → Shared → Prop} {C fI : Addr} {rest : List Value} {kw : List (Str × Value)}
    (X : K.In s.heap) (hm : makesIn K C = true) (hi : findIn K (.ref C) "__init__" = some (some (.ref fI))) (hf : isFn K (.ref fI) = true)
    (h : codeAny (model prog w) (A.under (.builtin "type.__call__" ⟨.ref C :: rest, kw⟩)) (.call (.ref fI) ⟨.ref (s.heap.objs.size + 1) :: rest, kw⟩) (InitBack (s.heap.objs.size + 1) R)
      { s with heap := (s.heap.push emptyDict).push (instObj C s.heap.objs.size) }) : codeAny (model prog w) A (.call (.ref C) ⟨rest, kw⟩) R s := by
  obtain ⟨hh, g, d, t, os⟩ := s
  exact make_core (makes_of X hm) (looks_findIn X hi) (fun self => bind_fn X self (beq_iff_eq.mp hf)) (.inl rfl) h

/-- x.name where the instance's dict holds the name and the class does not -/
theorem get_field {x C : Addr} {ox : Obj} {es : List DictEntry} {n : Nat} {name : Str} {expr : Bool} {v : Value} {Q : Value → Shared → Prop}
    (X : K.In s.heap) (I : PySem.W.InstAt s.heap x ox C (some (dictOf es n))) (hg : plainGet K C name = true) (hh : hasDictIn K C = true) (ha : findIn K (.ref C) name = some none)
    (hl : getL name es = some (some v)) (hv : handedIn v = true) (h : Q v { s with toks := s.toks + 1 }) : wpAny (model prog w) A (getAttr (.ref x) name expr) Q E s :=
  get_value X I (plainGet_of hg).1 (findObj_own hh ha rfl hl) hv h

/-- x.m(..): the method found in the class -/
theorem get_method {x C f : Addr} {ox : Obj} {es : List DictEntry} {n : Nat} {name : Str} {pl : Sem Bool} {Q : Value × List Value → Shared → Prop}
    (X : K.In s.heap) (I : PySem.W.InstAt s.heap x ox C (some (dictOf es n))) (hg : plainGet K C name = true) (hf : findIn K (.ref C) name = some (some (.ref f))) (ht : isFn K (.ref f) = true)
    (hl : getL name es = some none) (h : Q (.ref f, [.ref x]) s) : wpAny (model prog w) A (getMethod (.ref x) name pl) Q E s :=
  method_fn X I (plainGet_of hg).1 (plainGet_of hg).2 hf (beq_iff_eq.mp ht) (by show (lookIn name (dictOf es n)).map _ = _; rw [lookIn_dict, hl]; rfl) h

/-! the whole heap as the ledger: makes every rule that writes through a ledger a rule over any heap -/
def noObjs (h : Heap) : Heap := { h with objs := #[] }
theorem noObjs_get (h : Heap) (b : Addr) : (noObjs h).get? b = none := by
  cases e : (noObjs h).get? b with
  | none => rfl
  | some o => exact absurd (Heap.lt_size e) (Nat.not_lt_zero _)
def ledger (h : Heap) (L d : Addr) : List (Addr × Obj) := (List.range h.objs.size).filterMap fun a => if a = L ∨ a = d then none else (h.get? a).map fun o => (a, o)
theorem mem_ledger {h : Heap} {L d a : Addr} {o : Obj} : (a, o) ∈ ledger h L d ↔ a ≠ L ∧ a ≠ d ∧ h.get? a = some o := by
  unfold ledger
  rw [List.mem_filterMap]
  constructor
  · rintro ⟨b, _, e⟩
    split at e
    · cases e
    · rename_i hb
      obtain ⟨o', ho, e'⟩ := Option.map_eq_some_iff.mp e
      cases e'
      exact ⟨fun q => hb (.inl q), fun q => hb (.inr q), ho⟩
  · rintro ⟨n1, n2, ho⟩
    refine ⟨a, List.mem_range.mpr (Heap.lt_size ho), ?_⟩
    rw [if_neg (show ¬ (a = L ∨ a = d) from fun q => q.elim n1 n2), ho] <;> rfl
theorem news_ledger {h : Heap} {L d : Addr} {od : Obj} (hne : d ≠ L) (ho : h.get? d = some od) : News (noObjs h) L h ([] ++ (d, od) :: ledger h L d) := by
  rintro ⟨a, o⟩ hp
  rcases List.mem_cons.mp hp with e | hp
  · cases e
    exact ⟨ho, hne, noObjs_get _ _⟩
  · obtain ⟨n1, n2, e⟩ := mem_ledger.mp hp
    exact ⟨e, n1, noObjs_get _ _⟩
theorem fr_all {h : Heap} {L : Addr} {m : Str → Option Value} (n : h.Ns L m) : Fr (noObjs h) L h m :=
  ⟨n, fun b o e => (by rw [noObjs_get] at e; cases e), Nat.zero_le _⟩
/-- Upd of the head entry (for append_K, setItem_K ..) -/
theorem upd_ledger {h : Heap} {L d : Addr} {o o' : Obj} : Upd d o o' ((d, o) :: ledger h L d) ((d, o') :: ledger h L d) :=
  .head fun ⟨_, _⟩ hp => (mem_ledger.mp hp).2.1

/-- x.name = v over any heap: L is any namespace of the heap (the frame's, say): its map stays, its object is not told; all else but the dict stays -/
theorem set_field {x C dx L : Addr} {ox : Obj} {m : Str → Option Value} {es es' : List DictEntry} {n n' : Nat} {name : Str} {v : Value} {Q : Unit → Shared → Prop}
    (X : K.In s.heap) (I : PySem.W.InstAt s.heap x ox C (some (dictOf es n))) (hd : ox.dict = some dx) (hL : s.heap.Ns L m) (hne : dx ≠ L)
    (hs : findIn K (.ref C) "__setattr__" = some (some (.builtin "object.__setattr__"))) (hp : plainOver K C = true) (ht : takerIn K C name = some none) (hh : hasDictIn K C = true) (hl : (getL name es).isSome = true)
    (e : (putL name (PyData.keyHash w.params name) (.str name (s.toks + 1)) v es, putN name es n) = (es', n')) (hz : es'.length ≤ 1000)
    (h : ∀ h' : Heap, h'.Ns L m → h'.get? dx = some (dictOf es' n') → (∀ b o, b ≠ dx → b ≠ L → s.heap.get? b = some o → h'.get? b = some o) → Q () { s with heap := h', toks := s.toks + 2 }) :
    wpAny (model prog w) A (setAttr (.ref x) name v) Q E s := by
  obtain ⟨e1, e2⟩ := Prod.mk.inj e
  have hdx : s.heap.get? dx = some (dictOf es n) := by
    have := I.dict
    rw [hd] at this
    exact this
  refine set_plain X I hs (osa_dict (s := { s with toks := s.toks + 1 }) (h₀ := noObjs s.heap) (L := L) (m := m) (od := dictOf es n) (od' := dictOf es' n') (es := es') (n := n') (pre := []) (post := ledger s.heap L dx)
    (fr_all hL) (news_ledger hne hdx) X I hd hp ht hh hl (fun _ q => nomatch q) (fun ⟨_, _⟩ q => (mem_ledger.mp q).2.1) (by rw [putName_dict, e1, e2]) rfl hz fun h' F' N' => ?_)
  exact h h' F'.ns (N'.get (List.Mem.head _)) fun b o n1 n2 ho => N'.get (List.Mem.tail _ (mem_ledger.mpr ⟨n2, n1, ho⟩))
end
end Att

namespace L2
open PySem PySem.Spec PyProof.Rows

theorem vals_ints : ∀ {vs : List Value} {ns : List Int}, IntsAre vs ns → Vals (ns.map V.int) vs
  | _, _, .nil => .nil
  | _, _, .cons n t h => .cons ⟨t, rfl⟩ (vals_ints h)

/-- nothing is tracked but the script, known to the object (or it is an object of the module) -/
def Only (H : Hp) : Prop := ∀ b, H b = none ∨ ∃ o xs, H b = some (.frz o (.lst xs))

/-- THE HEAD: the law's promise, at the heap behind the top. F, the promise of the law's def, may use that base is part of the heap (so K.In base, base.Ns mainGlobals mg stand in Mod) -/
theorem law_call {P : Program} {w : World} {K : PySem.W.Frag} {mg mb : Str → Option Value} {CX : CXT} {k : Nat} {fa a : Addr} {fd : FuncData} {x : Str} {sp : Sp} {s₁ : Shared} {vs : List Value} {ns : List Int}
    (KX : K.In s₁.heap) (hns : s₁.heap.Ns mainGlobals mg) (hb : s₁.heap.Ns builtinsNs mb) (hbb : ∀ x : Str, x ≠ "__name__" → mb x = bootBuiltins x) (hlim : s₁.heap.NoLimit) (hg : s₁.gens = #[])
    (ha : s₁.heap.get? a = some { cls := .type "list", data := .seq vs.toArray }) (hi : IntsAre vs ns) (hl : ns.length ≤ sizeLine) (hr : Room k callerA)
    (F : ∀ base : Heap, K.In base → base.Ns mainGlobals mg → FnOk P w K mg base CX k fa fd [x] sp) (hbind : ∀ (s : Shared) (u : Value), BindsTo s fd ⟨[u], []⟩ [(x, u)])
    (hsp : ∀ H : Hp, Only H → SqL K H a (ns.map V.int) → sp [.ref a] H (fun v _ => v = .bl true) fun _ _ _ => False)
    (hCX : ∀ H e s', CX [] H s₁ (fun _ _ _ => False) e s' → False) :
    codeAny (model P w) callerA (.call (.ref fa) ⟨[.ref a], []⟩) (fun r s' => r = .ok (.ret (.bool true)) ∧ OldK s₁.heap s'.heap ∧ s'.os = s₁.os ∧ AllBare s'.gens) s₁ := by
  have rv := vals_ints hi
  have lenV := hi.length
  -- from an abstract heap in which nothing but the script may be tracked
  have core : ∀ H : Hp, Only H → SqL K H a (ns.map V.int) → HOk P w H s₁.heap → (∀ b, H b ≠ none → b = a) → (H a ≠ none → K.lookup a = none) →
      codeAny (model P w) callerA (.call (.ref fa) ⟨[.ref a], []⟩) (fun r s' => r = .ok (.ret (.bool true)) ∧ OldK s₁.heap s'.heap ∧ s'.os = s₁.os ∧ AllBare s'.gens) s₁ := by
    intro H hO hS hok hA hK
    have base_of : ∀ {b : Addr} {o : Obj}, s₁.heap.get? b = some o → H b = none → (hidT s₁.heap H).get? b = some o := fun e n => hidT_get e n
    have noA : ∀ {b : Addr} {o : Obj} {es : Array DictEntry} {ep : Nat}, s₁.heap.get? b = some o → o.data = .dict es ep → H b = none := fun {b o es ep} e d => by
      cases q : H b with
      | none => rfl
      | some u =>
        have e' : b = a := hA b (by rw [q]; simp)
        subst e'
        rw [ha] at e; cases e
        have d' : Data.seq vs.toArray _ = Data.dict es ep := d
        cases d'
    have nsK : ∀ {b : Addr} {m : Str → Option Value}, s₁.heap.Ns b m → (hidT s₁.heap H).Ns b m := fun {b m} ⟨o, es, ep, e, d, r⟩ => ⟨o, es, ep, base_of e (noA e d), d, r⟩
    have hKb : K.In (hidT s₁.heap H) := fun b o e => base_of (KX b o e) (by
      cases q : H b with
      | none => rfl
      | some u =>
        have e' : b = a := hA b (by rw [q]; simp)
        subst e'
        rw [hK (by rw [q]; simp)] at e; cases e)
    have hM : Mod K mg (hidT s₁.heap H) := ⟨hKb, nsK hns, ⟨mb, nsK hb, hbb⟩, let ⟨mc, h1, h2⟩ := hlim; ⟨mc, nsK h1, h2⟩⟩
    have e0 : Env0 P w K mg (hidT s₁.heap H) callerA [] s₁ H := ⟨rfl, hM, fun b o e => of_hidT e, Nat.le_of_eq (hidT_size _ _), trivial, fun b hb => absurd (show b ∈ ([] : List Addr) from hb) (by simp), hok, .of_eq hg⟩
    refine codeAny_mono ((F _ hKb (nsK hns)).run callerA [] s₁ H ⟨[.ref a], []⟩ [.ref a] [.ref a] _ _ hr e0 (hbind s₁ (.ref a)) (.cons rfl .nil) (hsp H hO hS)) fun r s' h => ?_
    cases r with
    | error e => exact (hCX H e s' h).elim
    | ok fl =>
      cases fl with
      | next => exact False.elim h
      | brk => exact False.elim h
      | cont => exact False.elim h
      | ret u =>
        obtain ⟨v, H', os, bare, un, hok', r', q⟩ := h
        have q' : v = .bl true := q
        subst q'
        obtain rfl : u = Value.bool true := r'
        refine ⟨rfl, OldK.of_keep fun b o e => ?_, os, bare⟩
        cases q : H b with
        | none => exact un.keep b o e q (by intro z; exact absurd (show b ∈ ([] : List Addr) from z) (by simp)) (by simp)
        | some u =>
          rcases hO b with z | ⟨ob, xs, z⟩
          · rw [q] at z; cases z
          · have z2 := un.frzs b ob _ z
            obtain ⟨e1, _⟩ := hok b _ z
            obtain ⟨e2, _⟩ := hok' b _ z2
            rw [e] at e1; cases e1
            exact e2
  cases hk : K.lookup a with
  | some o =>
    -- the script is one of the module's own objects
    have e := KX a o hk
    rw [ha] at e
    cases e
    refine core (fun _ => none) (fun _ => .inl rfl) (.inr ⟨_, vs.toArray, _, hk, rfl, rfl, rfl, by rw [List.size_toArray, lenV]; exact hl, by simpa using rv⟩) (fun b u z => by have z' : (none : Option HO) = some u := z; cases z') (fun b z => absurd rfl z) fun z => absurd rfl z
  | none =>
    refine core (fun b => if b = a then some (.frz { cls := .type "list", data := .seq vs.toArray } (.lst (ns.map V.int))) else none) (fun b => ?_) (.inl (.inr ⟨{ cls := .type "list", data := .seq vs.toArray }, if_pos rfl⟩)) (fun b u z => ?_) (fun b z => ?_) fun _ => hk
    · by_cases hb : b = a
      · exact .inr ⟨_, _, if_pos hb⟩
      · exact .inl (if_neg hb)
    · by_cases hb : b = a
      · have z' := (if_pos hb).symm.trans z
        cases z'
        subst hb
        exact ⟨ha, by rw [List.length_map]; exact hl, vs, _, rv, ha⟩
      · have z' := (if_neg hb).symm.trans z
        cases z'
    · by_cases hb : b = a
      · exact hb
      · exact absurd (if_neg hb) z
end L2

namespace L2
open PySem PySem.Spec PyProof.Rows

abbrev KOf {K : PySem.W.Frag} {h : Heap} (_ : K.In h) : PySem.W.Frag := K

/-- the goal that k_head leaves (case hc), from the law's promise. F gives the function object fd (K's own) once, then the promise over every base -/
theorem walk_of {l : PySem.W.OpenLaw} {n k : Nat} {q : Program} {loose : List Str} {XP : (Str → Option Value) → Heap → Prop} {YP : World → Heap → Prop} {d : DefRec} {K : Params → PySem.W.Frag} {CX : World → CXT} {sp : World → Sp} {x : Str}
    (hn : l.most = some n) (hn2 : n ≤ sizeLine) (hdf : d.params.defaults = []) (hr : Room k callerA)
    (hY : ∀ (w : World) (h : Heap), YP w h → (K w.params).In h)
    (F : ∀ (w : World) (mg : Str → Option Value) (fa : Addr) (h : Heap), (K w.params).In h → h.Ns mainGlobals mg → mg d.name = some (.ref fa) →
      ∃ fd : FuncData, (∀ (s : Shared) (u : Value), BindsTo s fd ⟨[u], []⟩ [(x, u)]) ∧
        ∀ base : Heap, (K w.params).In base → base.Ns mainGlobals mg → FnOk l.prog w (K w.params) mg base (CX w) k fa fd [x] (sp w))
    (hsp : ∀ (w : World) (H : Hp) (a : Addr) (ns : List Int), ns.length ≤ n → Only H → SqL (K w.params) H a (ns.map V.int) → sp w [.ref a] H (fun v _ => v = .bl true) fun _ _ _ => False)
    (hCX : ∀ (w : World) (H : Hp) (s : Shared) (e : Value) (s' : Shared), CX w [] H s (fun _ _ _ => False) e s' → False) :
    PySem.W.WalkO q loose XP YP l.row.toRowW d [] (fun f vs => PySem.call f vs) := by
  refine Att.attach_call hn hdf fun w s₀ s₁ mg mb fa o pm cd doc a vs ns G Y ho hd hcd hmg hobj hints hlen hg => ?_
  have KX := hY w _ Y
  obtain ⟨fd, hb, hF⟩ := F w mg fa _ KX G.T.g hmg
  exact law_call KX G.T.g G.T.b G.T.builtins G.T.nolimit hg hobj hints (Nat.le_trans hlen hn2) hr hF hb (fun H hO hS => hsp w H a ns hlen hO hS) fun H e s' => hCX w H s₁ e s'
/-- the same where the promise hangs on the written part alone: (sp := My.sp_law), no hole under a binder -/
theorem walk_ofK {l : PySem.W.OpenLaw} {n k : Nat} {q : Program} {loose : List Str} {XP : (Str → Option Value) → Heap → Prop} {YP : World → Heap → Prop} {d : DefRec} {K : Params → PySem.W.Frag} {CX : CXT} {sp : PySem.W.Frag → Sp} {x : Str}
    (hn : l.most = some n) (hn2 : n ≤ sizeLine) (hdf : d.params.defaults = []) (hr : Room k callerA)
    (hY : ∀ (w : World) (h : Heap), YP w h → (K w.params).In h)
    (F : ∀ (w : World) (mg : Str → Option Value) (fa : Addr) (h : Heap), (K w.params).In h → h.Ns mainGlobals mg → mg d.name = some (.ref fa) →
      ∃ fd : FuncData, (∀ (s : Shared) (u : Value), BindsTo s fd ⟨[u], []⟩ [(x, u)]) ∧
        ∀ base : Heap, (K w.params).In base → base.Ns mainGlobals mg → FnOk l.prog w (K w.params) mg base CX k fa fd [x] (sp (K w.params)))
    (hsp : ∀ (K : PySem.W.Frag) (H : Hp) (a : Addr) (ns : List Int), ns.length ≤ n → Only H → SqL K H a (ns.map V.int) → sp K [.ref a] H (fun v _ => v = .bl true) fun _ _ _ => False)
    (hCX : ∀ (H : Hp) (s : Shared) (e : Value) (s' : Shared), CX [] H s (fun _ _ _ => False) e s' → False) :
    PySem.W.WalkO q loose XP YP l.row.toRowW d [] (fun f vs => PySem.call f vs) :=
  walk_of (K := K) (CX := fun _ => CX) (sp := fun w => sp (K w.params)) hn hn2 hdf hr hY F (fun w H a ns h1 h2 h3 => hsp (K w.params) H a ns h1 h2 h3) fun _ H s e s' => hCX H s e s'
end L2

/- THE LAST THEOREM (shape; LID, My.* are yours):
   My.Adr: a structure of the addresses that your layer names (classes, functions); My.Txt K t: a structure (Prop) of the equations over K;
   My.txt_mk : {K} {implicit addresses ..} (e1 : nsIn K mainGlobals "law" = some (some (.ref f))) (e2 : K.lookup f = some ⟨oc, od, .func (fnOf "law" "law" params body scope dV kV doc pm an cdv ct), sl⟩) (e3 : codeIn K cdv "law" = true) .. : ∃ t, My.Txt K t

set_option maxRecDepth 100000 in
set_option maxHeartbeats 0 in
theorem PySem.Challenge.cw_LID_holds : PySem.Challenge.rw_LID.Holds := by
  w_on; o_law; k_head; (case hw => w_witness2)
  k_fill
  refine L2.walk_of (l := PySem.Challenge.rw_LID) (n := 63) (k := 40) (x := "script") (CX := fun w => ..) (sp := fun _ => My.sp_law) rfl (by decide) rfl ⟨rfl, by decide, by decide⟩ (fun w h Y => PySem.W.kIn_of Y) ?F ?S ?C
  case F =>
    intro w mg fa h KX G hmg
    have T : ∃ t, My.Txt (L2.KOf KX) t := by
      dsimp only [L2.KOf]                          -- K must stand as «<heap const> w.params» for k_is
      refine' My.txt_mk ?e1 ?e2 ?e3 ..
      (case e1 => PySem.W.k_is)                    -- in the order: a name -> its address -> its object -> its parts
      (case e2 => PySem.W.k_is)
      ..
    obtain ⟨t, T⟩ := T
    have e0 := hmg.symm.trans (PySem.W.mg_of KX G T.law)
    cases e0                                       -- fa is the law's own address
    exact ⟨_, fun s u => .of_eq rfl, fun base kb nb => My.law_fn T kb nb⟩     -- if «.of_eq rfl» comes too early: refine' ⟨_, ?b, fun base kb nb => My.law_fn T kb nb⟩; exact fun s u => .of_eq rfl
  case S => exact fun w H a ns hl hO hS => ..
  case C => exact ..
(the tactic k_is has no namespace: write k_is) -/

/-! SHORT WORDS over the layer: a def of the text, its body, what a loop and a test want. -/
namespace L2
open PySem PySem.Spec PyProof.Rows

/-! ### the text by places -/
/-- the j-th statement of a class's body -/
def inClass (s : Stmt) (j : Nat) : Stmt := match s with
  | .ClassDef _ _ _ body _ _ _ _ _ _ _ => body.getD j (.Pass ⟨0, 0, 0, 0⟩)
  | _ => .Pass ⟨0, 0, 0, 0⟩
def defArgs (s : Stmt) : Arguments := match s with
  | .FunctionDef _ a _ _ _ _ _ _ _ _ => a
  | _ => { posonlyargs := [], args := [], vararg := none, kwonlyargs := [], kw_defaults := [], kwarg := none, defaults := [] }
def defBody (s : Stmt) : List Stmt := match s with
  | .FunctionDef _ _ b _ _ _ _ _ _ _ => b
  | _ => []
def defScope (s : Stmt) : Scope := match s with
  | .FunctionDef _ _ _ _ _ _ sc _ _ _ => sc
  | _ => { kind := .function, names := [], isGenerator := false, isCoroutine := false }

/-! ### no exception leaves a def -/
abbrev CX0 : CXT := fun _ _ _ _ _ _ => False
abbrev E0 : XK := fun _ _ _ => False
theorem pass0 {X : Cx} : Passes CX0 X E0 := fun _ _ _ _ _ _ _ h => h.elim

/-! ### a def (or method) of the text as it stands behind the top -/
structure Fun (K : PySem.W.Frag) (x qual : Str) (st : Stmt) (f : Addr) (fd : FuncData) : Prop where
  ex : ∃ (oc : Value) (od : Option Addr) (kV doc pm : Value) (an : Option Addr) (cdv ct : Value) (osl : Array (Option Value)),
    fd = PySem.W.fnOf x qual (defArgs st) (defBody st) (defScope st) .none kV doc pm an cdv ct ∧ K.lookup f = some ⟨oc, od, .func fd, osl⟩ ∧ PySem.W.codeIn K cdv qual = true
  kp : PySem.W.keepIn K (.ref f) = true
section
variable {P : Program} {w : World} {K : PySem.W.Frag} {mg : Str → Option Value} {base : Heap}
/-- THE RULE for a def: its body as a term of rules, and the reading of that term -/
theorem Fun.ok {x qual : Str} {st : Stmt} {f : Addr} {fd : FuncData} {N ps : List Str} {k : Nat} {sp : Sp} (F : Fun K x qual st f fd) (S : FnScope N ps (defScope st)) (len : ∀ vs H Q E, sp vs H Q E → vs.length = ps.length)
    (hbody : ∀ (cdv : Value) (A : Around) (outer : List Env) (s : Shared) (H : Hp) (vs : List V) (Q : VK) (E : XK), Room k (A.deeper (envOfC qual (defScope st) s.heap.objs.size f cdv)) → sp vs H Q E →
      ∃ t, PSs (cxOf CX0 P w K mg base N qual (defScope st) f cdv A outer s H E).nox (defBody st) t ∧ t { nx := fun _ H' => Q .non H', rt := Q } (start N vs) H) : FnOk P w K mg base CX0 (k + 1) f fd ps sp := by
  obtain ⟨oc, od, kV, doc, pm, an, cdv, ct, osl, rfl, lk, hcd⟩ := F.ex
  refine fn_of lk hcd S len fun A outer s H vs Q E hr hsp => ?_
  obtain ⟨t, h, q⟩ := hbody cdv A outer s H vs Q E hr hsp
  exact ⟨t, h.nox, q⟩
/-- how its arguments bind (no defaults): h is «fun _ _ _ _ _ _ us hl => match us, hl with | [_, _], _ => rfl», one _ a parameter -/
theorem Fun.binds {x qual : Str} {st : Stmt} {f : Addr} {fd : FuncData} {ps : List Str} (F : Fun K x qual st f fd)
    (h : ∀ (kV doc pm : Value) (an : Option Addr) (cdv ct : Value) (us : List Value), us.length = ps.length → bindArgs (PySem.W.fnOf x qual (defArgs st) (defBody st) (defScope st) .none kV doc pm an cdv ct) ⟨us, []⟩ = pure (ps.zip us)) : Binds K fd ps [] := by
  obtain ⟨oc, od, kV, doc, pm, an, cdv, ct, osl, rfl, lk, hcd⟩ := F.ex
  exact .all (h kV doc pm an cdv ct)
theorem fun_mk {x qual : Str} {st : Stmt} {f : Addr} {oc : Value} {od an : Option Addr} {osl : Array (Option Value)} {kV doc pm cdv ct : Value} (l : K.lookup f = some ⟨oc, od, .func (PySem.W.fnOf x qual (defArgs st) (defBody st) (defScope st) .none kV doc pm an cdv ct), osl⟩)
    (c : PySem.W.codeIn K cdv qual = true) (k : PySem.W.keepIn K (.ref f) = true) : Fun K x qual st f (PySem.W.fnOf x qual (defArgs st) (defBody st) (defScope st) .none kV doc pm an cdv ct) := ⟨⟨oc, od, kV, doc, pm, an, cdv, ct, osl, rfl, l, c⟩, k⟩
end
theorem hu_of {A : Around} {k : Nat} (hr : Room k A) : A.units + 1 < cLine := Nat.lt_of_le_of_lt (Nat.add_le_add_left (by decide : 1 ≤ 64) _) hr.units
theorem small1000 {n : Nat} (h : n ≤ 1000) : n < sizeLine := Nat.lt_of_le_of_lt h (by decide)

/-! ### expressions in short: the name that stands in the i-th slot -/
section
variable {X : Cx}
theorem pv (i : Nat) {x : Str} {pos : Pos} (hN : X.N[i]? = some x := by rfl) (hv : Vis X.env.scope x := by first | exact Or.inl rfl | exact Or.inr (Or.inl rfl) | exact Or.inr (Or.inr rfl)) (hd : (x == ("__debug__" : Str)) = false := by decide)
    (hcd : (x == ("__classdict__" : Str)) = false := by decide) : PE X (.Name x pos) (tVar i) := pe_var hN hv hd hcd
end

/-! ### tests -/
theorem iteF {A B : Prop} (h : B) : if false = true then A else B := by
  rw [if_neg Bool.false_ne_true]
  exact h
theorem iteT {A B : Prop} (h : A) : if true = true then A else B := by
  rw [if_pos rfl]
  exact h
theorem ite2 {c A B : Prop} [Decidable c] (h1 : c → A) (h2 : ¬ c → B) : if c then A else B := by
  by_cases h : c
  · rw [if_pos h]
    exact h1 h
  · rw [if_neg h]
    exact h2 h
theorem iteNS {c A B : Prop} [Decidable c] (hc : c) (h : B) : if (!decide c) = true then A else B := by
  rw [decide_eq_true hc]
  exact iteF h

/-! ### heaps -/
/-- all that was tracked is as it was -/
def Same (H H' : Hp) : Prop := ∀ b o, H b = some o → H' b = some o
theorem Same.refl (H : Hp) : Same H H := fun _ _ h => h
theorem Same.trans {H H1 H2 : Hp} (a : Same H H1) (b : Same H1 H2) : Same H H2 := fun c o h => b c o (a c o h)
theorem Same.free {H H' : Hp} (e : Same H H') {l : Addr} (h : H' l = Option.none) : H l = Option.none := by
  cases q : H l with
  | none => rfl
  | some o =>
    rw [e l o q] at h
    cases h
theorem Same.seq {K : PySem.W.Frag} {H H' : Hp} {a : Addr} {xs : List V} (e : Same H H') (h : SqL K H a xs) : SqL K H' a xs := by
  rcases h with (h | ⟨o, h⟩) | h
  · exact .inl (.inl (e _ _ h))
  · exact .inl (.inr ⟨o, e _ _ h⟩)
  · exact .inr h

end L2

namespace L2
open PySem PySem.Spec PyProof.Rows
section
variable {X : Cx}
/-- len of a dict -/
theorem call_lenD : CallR X (.builtin "len") (fun xs H Q => ∃ a kvs, xs = [V.ref a] ∧ H a = some (.dK kvs) ∧ Q (.int kvs.length) H) := by
  intro pins s σ H xs us Q I r h
  obtain ⟨a, kvs, rfl, ha, q⟩ := h
  obtain ⟨u, rfl, ru⟩ := vals1 r
  cases ru
  exact d_len I (.inl ha) fun t s' I' => ⟨.int kvs.length, H, I', ⟨t, rfl⟩, q⟩
end
section
variable {κ : Type} [DecidableEq κ]
theorem valV_not {kvs : List (κ × V)} {k : κ} (h : valV kvs k = none) : ¬ k ∈ kvs.map (·.1) := by
  intro m
  obtain ⟨p, hp, e⟩ := List.mem_map.mp m
  have q : (kvs.any fun kv => decide (kv.1 = k)) = true := List.any_eq_true.mpr ⟨p, hp, decide_eq_true e⟩
  rw [valV_any, h] at q
  exact absurd q (by simp)
theorem valV_in {kvs : List (κ × V)} {k : κ} {v : V} (h : valV kvs k = some v) : k ∈ kvs.map (·.1) := by
  have q : (kvs.any fun kv => decide (kv.1 = k)) = true := by
    rw [valV_any, h]
    all_goals rfl
  obtain ⟨p, hp, e⟩ := List.any_eq_true.mp q
  exact List.mem_map.mpr ⟨p, hp, of_decide_eq_true e⟩
theorem nd_snoc : ∀ {l : List κ} {k : κ}, l.Nodup → ¬ k ∈ l → (l ++ [k]).Nodup
  | [], k, _, _ => by simp
  | a :: r, k, h, hk => by
    obtain ⟨h1, h2⟩ := List.nodup_cons.mp h
    show (a :: (r ++ [k])).Nodup
    refine List.nodup_cons.mpr ⟨fun m => ?_, nd_snoc h2 fun m => hk (List.mem_cons.mpr (Or.inr m))⟩
    rcases List.mem_append.mp m with q | q
    · exact h1 q
    · exact hk (List.mem_cons.mpr (Or.inl (List.mem_singleton.mp q).symm))
theorem nd_putK {kvs : List (κ × V)} {k : κ} (v : V) (hn : (kvs.map (·.1)).Nodup) (h : valV kvs k = none) : ((putK kvs k v).map (·.1)).Nodup := by
  rw [putK_new v h, List.map_append]
  exact nd_snoc hn (valV_not h)
theorem dropK_pos {p : κ × V} {r : List (κ × V)} {k : κ} (e : p.1 = k) : dropK (p :: r) k = dropK r k := by
  unfold dropK
  rw [List.filter_cons, if_neg (by simp [e])]
theorem dropK_neg {p : κ × V} {r : List (κ × V)} {k : κ} (e : ¬ p.1 = k) : dropK (p :: r) k = p :: dropK r k := by
  unfold dropK
  rw [List.filter_cons, if_pos (by simp [e])]
theorem dropK_no : ∀ {kvs : List (κ × V)} {k : κ}, ¬ k ∈ kvs.map (·.1) → dropK kvs k = kvs
  | [], _, _ => rfl
  | p :: r, k, h => by
    have h' : ¬ k ∈ r.map (·.1) := fun m => by
      obtain ⟨q, hq, e⟩ := List.mem_map.mp m
      exact h (List.mem_map.mpr ⟨q, List.mem_cons.mpr (Or.inr hq), e⟩)
    rw [dropK_neg fun e => h (List.mem_map.mpr ⟨p, List.mem_cons.mpr (Or.inl rfl), e⟩), dropK_no h']
theorem dropK_mem {kvs : List (κ × V)} {k : κ} {p : κ × V} (h : p ∈ dropK kvs k) : p ∈ kvs := (List.mem_filter.mp h).1
theorem nd_dropK : ∀ {kvs : List (κ × V)} {k : κ}, (kvs.map (·.1)).Nodup → ((dropK kvs k).map (·.1)).Nodup
  | [], _, _ => List.nodup_nil
  | p :: r, k, h => by
    have h : (p.1 :: r.map (·.1)).Nodup := h
    obtain ⟨h1, h2⟩ := List.nodup_cons.mp h
    by_cases e : p.1 = k
    · rw [dropK_pos e]
      exact nd_dropK h2
    · rw [dropK_neg e]
      show (p.1 :: (dropK r k).map (·.1)).Nodup
      refine List.nodup_cons.mpr ⟨fun m => h1 ?_, nd_dropK h2⟩
      obtain ⟨q, hq, eq⟩ := List.mem_map.mp m
      exact List.mem_map.mpr ⟨q, dropK_mem hq, eq⟩
theorem dropK_len : ∀ {kvs : List (κ × V)} {k : κ}, (kvs.map (·.1)).Nodup → k ∈ kvs.map (·.1) → (dropK kvs k).length + 1 = kvs.length
  | [], _, _, m => by simp at m
  | p :: r, k, h, m => by
    have h : (p.1 :: r.map (·.1)).Nodup := h
    have m : k = p.1 ∨ k ∈ r.map (·.1) := List.mem_cons.mp m
    obtain ⟨h1, h2⟩ := List.nodup_cons.mp h
    by_cases e : p.1 = k
    · subst e
      rw [dropK_pos rfl, dropK_no h1]
      all_goals rfl
    · have m' : k ∈ r.map (·.1) := m.resolve_left fun z => e z.symm
      have q := dropK_len h2 m'
      rw [dropK_neg e, List.length_cons, List.length_cons]
      omega
end
end L2
end
set_option Elab.async false
set_option linter.all false
set_option maxRecDepth 100000
set_option maxHeartbeats 4000000
/-! Rich values: tuples, and lists that stay as they are, as trees; what changes is looked at through a partial view of the heap. -/
namespace R
open PySem PySem.Spec PyProof.Rows L2

inductive RV where
  | non | bl (b : Bool) | int (i : Int) | str (x : Str) | ref (a : Addr) | ty (n : String)
  | tup (xs : List RV) | ls (xs : List RV)

def Fz (K : PySem.W.Frag) (H : Hp) (a : Addr) (vs : List V) : Prop :=
  (∃ o, H a = some (.frz o (.lst vs))) ∨
    ∃ (o : Obj) (its : Array Value) (n : Nat), K.lookup a = some o ∧ o.cls = .type "list" ∧ o.dict = Option.none ∧ o.data = .seq its n ∧ its.size ≤ sizeLine ∧ Vals vs its.toList
theorem Fz.sq {K : PySem.W.Frag} {H : Hp} {a : Addr} {vs : List V} (h : Fz K H a vs) : SqL K H a vs := by
  rcases h with ⟨o, h⟩ | h
  · exact .inl (.inr ⟨o, h⟩)
  · exact .inr h

mutual
def Rep (K : PySem.W.Frag) (H : Hp) : RV → V → Prop
  | .non, v => v = .non
  | .bl b, v => v = .bl b
  | .int i, v => v = .int i
  | .str x, v => v = .str x
  | .ref a, v => v = .ref a
  | .ty n, v => v = .ty n
  | .tup xs, v => ∃ a vs, v = .ref a ∧ SqT K H a vs ∧ Reps K H xs vs
  | .ls xs, v => ∃ a vs, v = .ref a ∧ Fz K H a vs ∧ Reps K H xs vs
def Reps (K : PySem.W.Frag) (H : Hp) : List RV → List V → Prop
  | [], vs => vs = []
  | x :: xs, vs => ∃ v r, vs = v :: r ∧ Rep K H x v ∧ Reps K H xs r
end

structure Ext (H H' : Hp) : Prop where
  tups : ∀ b xs, H b = some (.tup xs) → H' b = some (.tup xs)
  frzs : ∀ b o u, H b = some (.frz o u) → H' b = some (.frz o u)
theorem Ext.refl (H : Hp) : Ext H H := ⟨fun _ _ h => h, fun _ _ _ h => h⟩
theorem Ext.trans {H H1 H2 : Hp} (a : Ext H H1) (b : Ext H1 H2) : Ext H H2 := ⟨fun c x h => b.tups c x (a.tups c x h), fun c o x h => b.frzs c o x (a.frzs c o x h)⟩
theorem Ext.new {H : Hp} {p : Addr} {o : HO} (h : H p = none) : Ext H (upd H p o) :=
  ⟨fun b xs e => by rw [upd_ne (ne_of_none e h)]; exact e, fun b o xs e => by rw [upd_ne (ne_of_none e h)]; exact e⟩
/-- a changeable thing is changed -/
def Soft : HO → Bool
  | .tup _ => false
  | .frz _ _ => false
  | _ => true
theorem Ext.write {H : Hp} {p : Addr} {o o' : HO} (h : H p = some o) (s : Soft o = true) : Ext H (upd H p o') := by
  refine ⟨fun b xs e => ?_, fun b ob xs e => ?_⟩
  · have n : b ≠ p := by rintro rfl; rw [h] at e; cases e; cases s
    rw [upd_ne n]; exact e
  · have n : b ≠ p := by rintro rfl; rw [h] at e; cases e; cases s
    rw [upd_ne n]; exact e
theorem SqT.ext {K : PySem.W.Frag} {H H' : Hp} {a : Addr} {vs : List V} (e : Ext H H') (h : SqT K H a vs) : SqT K H' a vs := by
  rcases h with (h | ⟨o, h⟩) | h
  · exact .inl (.inl (e.tups _ _ h))
  · exact .inl (.inr ⟨o, e.frzs _ _ _ h⟩)
  · exact .inr h
theorem Fz.ext {K : PySem.W.Frag} {H H' : Hp} {a : Addr} {vs : List V} (e : Ext H H') (h : Fz K H a vs) : Fz K H' a vs := by
  rcases h with ⟨o, h⟩ | h
  · exact .inl ⟨o, e.frzs _ _ _ h⟩
  · exact .inr h
mutual
theorem Rep.ext {K : PySem.W.Frag} {H H' : Hp} (e : Ext H H') : ∀ (r : RV) (v : V), Rep K H r v → Rep K H' r v
  | .non, v, h => by simpa only [Rep] using h
  | .bl _, v, h => by simpa only [Rep] using h
  | .int _, v, h => by simpa only [Rep] using h
  | .str _, v, h => by simpa only [Rep] using h
  | .ref _, v, h => by simpa only [Rep] using h
  | .ty _, v, h => by simpa only [Rep] using h
  | .tup xs, v, h => by
    simp only [Rep] at h ⊢
    obtain ⟨a, vs, e1, h1, h2⟩ := h
    exact ⟨a, vs, e1, SqT.ext e h1, Reps.ext e xs vs h2⟩
  | .ls xs, v, h => by
    simp only [Rep] at h ⊢
    obtain ⟨a, vs, e1, h1, h2⟩ := h
    exact ⟨a, vs, e1, h1.ext e, Reps.ext e xs vs h2⟩
theorem Reps.ext {K : PySem.W.Frag} {H H' : Hp} (e : Ext H H') : ∀ (rs : List RV) (vs : List V), Reps K H rs vs → Reps K H' rs vs
  | [], vs, h => by simpa only [Reps] using h
  | x :: xs, vs, h => by
    simp only [Reps] at h ⊢
    obtain ⟨v, r, e1, h1, h2⟩ := h
    exact ⟨v, r, e1, Rep.ext e x v h1, Reps.ext e xs r h2⟩
end
section
variable {K : PySem.W.Frag} {H : Hp}
theorem Reps.nil_iff {vs : List V} : Reps K H [] vs ↔ vs = [] := by simp only [Reps]
theorem Reps.cons {x : RV} {xs : List RV} {v : V} {vs : List V} (h : Rep K H x v) (t : Reps K H xs vs) : Reps K H (x :: xs) (v :: vs) := by
  simp only [Reps]; exact ⟨v, vs, rfl, h, t⟩
theorem Reps.nil : Reps K H [] [] := by simp only [Reps]
theorem Reps.length : ∀ {xs : List RV} {vs : List V}, Reps K H xs vs → xs.length = vs.length
  | [], vs, h => by simp only [Reps] at h; subst h; rfl
  | x :: xs, vs, h => by
    simp only [Reps] at h
    obtain ⟨v, r, rfl, _, t⟩ := h
    simp [Reps.length t]
theorem Reps.get : ∀ {xs : List RV} {vs : List V} {i : Nat} {x : RV}, Reps K H xs vs → xs[i]? = some x → ∃ v, vs[i]? = some v ∧ Rep K H x v
  | [], _, _, _, _, e => by simp at e
  | y :: xs, vs, 0, x, h, e => by
    simp only [Reps] at h
    obtain ⟨v, r, rfl, h1, _⟩ := h
    simp at e; subst e
    exact ⟨v, by simp, h1⟩
  | y :: xs, vs, i + 1, x, h, e => by
    simp only [Reps] at h
    obtain ⟨v, r, rfl, _, t⟩ := h
    obtain ⟨u, h1, h2⟩ := Reps.get (i := i) t (by simpa using e)
    exact ⟨u, by simpa using h1, h2⟩
theorem Reps.append : ∀ {xs ys : List RV} {vs ws : List V}, Reps K H xs vs → Reps K H ys ws → Reps K H (xs ++ ys) (vs ++ ws)
  | [], _, vs, _, h, t => by simp only [Reps] at h; subst h; simpa using t
  | x :: xs, ys, vs, ws, h, t => by
    simp only [Reps] at h
    obtain ⟨v, r, rfl, h1, h2⟩ := h
    exact Reps.cons h1 (Reps.append h2 t)
theorem Reps.take : ∀ {xs : List RV} {vs : List V} (n : Nat), Reps K H xs vs → Reps K H (xs.take n) (vs.take n)
  | _, _, 0, _ => by simpa using Reps.nil
  | [], vs, n + 1, h => by simp only [Reps] at h; subst h; simpa using Reps.nil
  | x :: xs, vs, n + 1, h => by
    simp only [Reps] at h
    obtain ⟨v, r, rfl, h1, h2⟩ := h
    exact Reps.cons h1 (Reps.take n h2)
theorem Reps.drop : ∀ {xs : List RV} {vs : List V} (n : Nat), Reps K H xs vs → Reps K H (xs.drop n) (vs.drop n)
  | _, _, 0, h => by simpa using h
  | [], vs, n + 1, h => by simp only [Reps] at h; subst h; simpa using Reps.nil
  | x :: xs, vs, n + 1, h => by
    simp only [Reps] at h
    obtain ⟨v, r, rfl, h1, h2⟩ := h
    exact Reps.drop n h2
theorem Reps.set {x : RV} {v : V} (hx : Rep K H x v) : ∀ {xs : List RV} {vs : List V} (i : Nat), Reps K H xs vs → Reps K H (xs.set i x) (vs.set i v)
  | [], vs, i, h => by simp only [Reps] at h; subst h; simpa using Reps.nil
  | y :: xs, vs, 0, h => by
    simp only [Reps] at h
    obtain ⟨w, r, rfl, h1, h2⟩ := h
    exact Reps.cons hx h2
  | y :: xs, vs, i + 1, h => by
    simp only [Reps] at h
    obtain ⟨w, r, rfl, h1, h2⟩ := h
    exact Reps.cons h1 (Reps.set hx i h2)
theorem Reps.atI {xs : List RV} {vs : List V} {i : Int} {x : RV} (h : Reps K H xs vs) (e : L2.atI xs i = some x) : ∃ v, L2.atI vs i = some v ∧ Rep K H x v := by
  unfold L2.atI at e ⊢
  rw [← h.length]
  cases q : ixN xs.length i with
  | none => rw [q] at e; cases e
  | some j => rw [q] at e; exact h.get (by simpa using e)
end

/-! ### the view -/
inductive RO where
  | lst (xs : List RV)
  | dk (kvs : List (Key × RV))
  | ins (C : Addr) (fs : List (Str × RV))
abbrev RM := Addr → Option RO
def put (M : RM) (a : Addr) (o : RO) : RM := fun b => if b = a then some o else M b
theorem put_same {M : RM} {a : Addr} {o : RO} : put M a o a = some o := by unfold put; rw [if_pos rfl]
theorem put_ne {M : RM} {a b : Addr} {o : RO} (h : b ≠ a) : put M a o b = M b := by unfold put; rw [if_neg h]
theorem put_put {M : RM} {a : Addr} {o o' : RO} : put (put M a o) a o' = put M a o' := by
  funext b; unfold put; split <;> rfl
def RepP {κ : Type} (K : PySem.W.Frag) (H : Hp) : List (κ × RV) → List (κ × V) → Prop
  | [], ws => ws = []
  | (k, x) :: r, ws => ∃ v t, ws = (k, v) :: t ∧ Rep K H x v ∧ RepP K H r t
theorem RepP.ext {κ : Type} {K : PySem.W.Frag} {H H' : Hp} (e : Ext H H') : ∀ {xs : List (κ × RV)} {ws : List (κ × V)}, RepP K H xs ws → RepP K H' xs ws
  | [], _, h => h
  | (k, x) :: r, ws, h => by
    obtain ⟨v, t, e1, h1, h2⟩ := h
    exact ⟨v, t, e1, Rep.ext e x v h1, RepP.ext e h2⟩
def RepO (K : PySem.W.Frag) (H : Hp) : RO → HO → Prop
  | .lst xs, o => ∃ vs, o = .lst vs ∧ Reps K H xs vs
  | .dk kvs, o => ∃ ws, o = .dK ws ∧ RepP K H kvs ws
  | .ins C fs, o => ∃ dx gs, o = .ins C dx gs ∧ RepP K H fs gs
theorem RepO.ext {K : PySem.W.Frag} {H H' : Hp} (e : Ext H H') : ∀ {o : RO} {ho : HO}, RepO K H o ho → RepO K H' o ho
  | .lst xs, _, h => by obtain ⟨vs, e1, h1⟩ := h; exact ⟨vs, e1, Reps.ext e xs vs h1⟩
  | .dk _, _, h => by obtain ⟨ws, e1, h1⟩ := h; exact ⟨ws, e1, h1.ext e⟩
  | .ins _ _, _, h => by obtain ⟨dx, gs, e1, h1⟩ := h; exact ⟨dx, gs, e1, h1.ext e⟩
theorem RepO.soft {K : PySem.W.Frag} {H : Hp} : ∀ {o : RO} {ho : HO}, RepO K H o ho → Soft ho = true
  | .lst _, _, h => by obtain ⟨_, rfl, _⟩ := h; rfl
  | .dk _, _, h => by obtain ⟨_, rfl, _⟩ := h; rfl
  | .ins _ _, _, h => by obtain ⟨_, _, rfl, _⟩ := h; rfl
def View (K : PySem.W.Frag) (H : Hp) (M : RM) : Prop := ∀ a o, M a = some o → ∃ ho, H a = some ho ∧ RepO K H o ho
section
variable {K : PySem.W.Frag} {H H' : Hp} {M : RM} {p : Addr} {ho : HO} {o : RO}
theorem View.free (w : View K H M) (h : H p = none) : M p = none := by
  cases q : M p with
  | none => rfl
  | some o => obtain ⟨ho, e, _⟩ := w p o q; rw [h] at e; cases e
/-- a new thing is laid that is not looked at -/
theorem View.new (w : View K H M) (h : H p = none) : View K (upd H p ho) M := fun a o e => by
  obtain ⟨ho', e1, r⟩ := w a o e
  exact ⟨ho', by rw [upd_ne (ne_of_none e1 h)]; exact e1, r.ext (Ext.new h)⟩
/-- a new thing is laid and looked at -/
theorem View.newPut (w : View K H M) (h : H p = none) (r : RepO K (upd H p ho) o ho) : View K (upd H p ho) (put M p o) := fun a o' e => by
  by_cases ha : a = p
  · subst ha; rw [put_same] at e; cases e; exact ⟨ho, upd_same, r⟩
  · rw [put_ne ha] at e; exact w.new h a o' e
/-- a thing that is looked at is changed -/
theorem View.write {o' : RO} (w : View K H M) (h : M p = some o') (r : RepO K (upd H p ho) o ho) : View K (upd H p ho) (put M p o) := fun a o'' e => by
  by_cases ha : a = p
  · subst ha; rw [put_same] at e; cases e; exact ⟨ho, upd_same, r⟩
  · rw [put_ne ha] at e
    obtain ⟨ho', e1, r1⟩ := w a o'' e
    obtain ⟨hp, e2, r2⟩ := w p o' h
    exact ⟨ho', by rw [upd_ne ha]; exact e1, r1.ext (Ext.write e2 r2.soft)⟩
end

/-! ### the judgements -/
abbrev RSt := List (Option RV)
abbrev RVK := RV → RM → Prop
abbrev RTE := RSt → RM → RVK → Prop
abbrev RTT := RSt → RM → (Bool → RM → Prop) → Prop
abbrev RTA := RSt → RM → (List RV → RM → Prop) → Prop
def RepSt (K : PySem.W.Frag) (H : Hp) (σ : RSt) (σ0 : L2.St) : Prop := σ.length = σ0.length ∧ ∀ (i : Nat) r, σ[i]? = some (some r) → ∃ v, σ0[i]? = some (some v) ∧ Rep K H r v
theorem RepSt.ext {K : PySem.W.Frag} {H H' : Hp} {σ : RSt} {σ0 : L2.St} (h : RepSt K H σ σ0) (e : Ext H H') : RepSt K H' σ σ0 :=
  ⟨h.1, fun i r q => by obtain ⟨v, e1, h1⟩ := h.2 i r q; exact ⟨v, e1, Rep.ext e r v h1⟩⟩
theorem RepSt.set {K : PySem.W.Frag} {H : Hp} {σ : RSt} {σ0 : L2.St} {r : RV} {v : V} (h : RepSt K H σ σ0) (hr : Rep K H r v) (i : Nat) : RepSt K H (σ.set i (some r)) (σ0.set i (some v)) := by
  refine ⟨by simp [h.1], fun j r' q => ?_⟩
  by_cases hj : i = j
  · subst hj
    rw [List.getElem?_set] at q
    split at q
    · split at q
      · cases q; rename_i hl _ ; exact ⟨v, by rw [List.getElem?_set_self (by rw [← h.1]; assumption)], hr⟩
      · cases q
    · rename_i z; exact absurd rfl z
  · rw [List.getElem?_set_ne hj] at q
    obtain ⟨w, e1, h1⟩ := h.2 j r' q
    exact ⟨w, by rw [List.getElem?_set_ne hj]; exact e1, h1⟩
def UpK (K : PySem.W.Frag) (H : Hp) (Q : RVK) (Q0 : VK) : Prop := ∀ rv M' v H', Q rv M' → Ext H H' → View K H' M' → Rep K H' rv v → Q0 v H'
theorem UpK.ext {K : PySem.W.Frag} {H H' : Hp} {Q : RVK} {Q0 : VK} (h : UpK K H Q Q0) (e : Ext H H') : UpK K H' Q Q0 := fun rv M' v H2 q e2 w r => h rv M' v H2 q (e.trans e2) w r
def up (K : PySem.W.Frag) (t : RTE) : TE := fun σ0 H Q0 => ∃ σ M Q, RepSt K H σ σ0 ∧ View K H M ∧ t σ M Q ∧ UpK K H Q Q0
def upT (K : PySem.W.Frag) (t : RTT) : TT := fun σ0 H Q0 => ∃ σ M Q, RepSt K H σ σ0 ∧ View K H M ∧ t σ M Q ∧ ∀ b M' H', Q b M' → Ext H H' → View K H' M' → Q0 b H'
def upA (K : PySem.W.Frag) (t : RTA) : TA := fun σ0 H Q0 => ∃ σ M Q, RepSt K H σ σ0 ∧ View K H M ∧ t σ M Q ∧ ∀ rs M' vs H', Q rs M' → Ext H H' → View K H' M' → Reps K H' rs vs → Q0 vs H'
structure RD where
  nx : RSt → RM → Prop
  rt : RVK
  bk : RSt → RM → Prop := fun _ _ => False
  ct : RSt → RM → Prop := fun _ _ => False
abbrev RTS := RD → RSt → RM → Prop
def UpS (K : PySem.W.Frag) (H : Hp) (q : RSt → RM → Prop) (q0 : L2.St → Hp → Prop) : Prop := ∀ σ M σ0 H', q σ M → Ext H H' → View K H' M → RepSt K H' σ σ0 → q0 σ0 H'
theorem UpS.ext {K : PySem.W.Frag} {H H' : Hp} {Q : RSt → RM → Prop} {Q0 : L2.St → Hp → Prop} (h : UpS K H Q Q0) (e : Ext H H') : UpS K H' Q Q0 := fun σ M σ0 H2 q e2 w r => h σ M σ0 H2 q (e.trans e2) w r
structure UpD (K : PySem.W.Frag) (H : Hp) (D : RD) (D0 : Ends) : Prop where
  nx : UpS K H D.nx D0.nx
  rt : UpK K H D.rt D0.rt
  bk : UpS K H D.bk D0.bk
  ct : UpS K H D.ct D0.ct
theorem UpD.ext {K : PySem.W.Frag} {H H' : Hp} {D : RD} {D0 : Ends} (h : UpD K H D D0) (e : Ext H H') : UpD K H' D D0 := ⟨h.nx.ext e, h.rt.ext e, h.bk.ext e, h.ct.ext e⟩
def upS (K : PySem.W.Frag) (t : RTS) : TS := fun D0 σ0 H => ∃ σ M D, RepSt K H σ σ0 ∧ View K H M ∧ t D σ M ∧ UpD K H D D0
def RPE (X : Cx) (e : Expr) (t : RTE) : Prop := PE X e (up X.K t)
def RPT (X : Cx) (e : Expr) (t : RTT) : Prop := PT X e (upT X.K t)
def RPW (X : Cx) (e : Expr) (t : RTT) : Prop := PW X e (upT X.K t)
def RPA (X : Cx) (es : List Expr) (t : RTA) : Prop := PA X es (upA X.K t)
def RPS (X : Cx) (s : Stmt) (t : RTS) : Prop := PS X s (upS X.K t)
def RPSs (X : Cx) (s : List Stmt) (t : RTS) : Prop := PSs X s (upS X.K t)
section
variable {X : Cx}
theorem PE.imp {e : Expr} {t t' : TE} (h : PE X e t) (i : ∀ σ H Q, t' σ H Q → t σ H Q) : PE X e t' := fun pins s σ H Q I w => h pins s σ H Q I (i σ H Q w)
theorem PT.imp {e : Expr} {t t' : TT} (h : PT X e t) (i : ∀ σ H Q, t' σ H Q → t σ H Q) : PT X e t' := fun pins s σ H Q I w => h pins s σ H Q I (i σ H Q w)
theorem PW.imp {e : Expr} {t t' : TT} (h : PW X e t) (i : ∀ σ H Q, t' σ H Q → t σ H Q) : PW X e t' := fun wh pins s σ H Q I w => h wh pins s σ H Q I (i σ H Q w)
theorem PA.imp {e : List Expr} {t t' : TA} (h : PA X e t) (i : ∀ σ H Q, t' σ H Q → t σ H Q) : PA X e t' := fun pos pins s σ H Q I w => h pos pins s σ H Q I (i σ H Q w)
theorem PS.imp {e : Stmt} {t t' : TS} (h : PS X e t) (i : ∀ D σ H, t' D σ H → t D σ H) : PS X e t' := fun pins s σ H D I w => h pins s σ H D I (i D σ H w)
theorem PSs.imp {e : List Stmt} {t t' : TS} (h : PSs X e t) (i : ∀ D σ H, t' D σ H → t D σ H) : PSs X e t' := fun pins s σ H D I w => h pins s σ H D I (i D σ H w)
end
end R

set_option Elab.async false
set_option linter.all false
set_option maxRecDepth 100000
set_option maxHeartbeats 4000000
namespace R
open PySem PySem.Spec PyProof.Rows L2
section
variable {X : Cx} {a b c : Expr} {ta tb tc : RTE} {tA tB : RTT} {pos : Pos} {rest : List Expr}
/-! ### names, constants -/
def rVar (i : Nat) : RTE := fun σ M Q => match σ[i]? with | some (some v) => Q v M | _ => False
def rC (v : RV) : RTE := fun _ M Q => Q v M
theorem rv (i : Nat) {x : Str} {pos : Pos} (hN : X.N[i]? = some x := by rfl) (hv : Vis X.env.scope x := by first | exact Or.inl rfl | exact Or.inr (Or.inl rfl) | exact Or.inr (Or.inr rfl)) (hd : (x == ("__debug__" : Str)) = false := by decide)
    (hcd : (x == ("__classdict__" : Str)) = false := by decide) : RPE X (.Name x pos) (rVar i) := PE.imp (pe_var hN hv hd hcd) fun σ0 H Q h => by
  obtain ⟨σ, M, Qr, hs, hv, ht, hk⟩ := h
  unfold rVar at ht
  split at ht
  · rename_i r e
    obtain ⟨v, e1, h1⟩ := hs.2 i r e
    exact ⟨v, e1, hk r M v H ht (.refl H) hv h1⟩
  · exact ht.elim
theorem rconst {e : Expr} {v : V} {r : RV} (h : PE X e (tC v)) (hr : ∀ H, Rep X.K H r v) : RPE X e (rC r) := PE.imp h fun σ0 H Q h => by
  obtain ⟨σ, M, Qr, hs, hv, ht, hk⟩ := h
  exact hk r M v H ht (.refl H) hv (hr H)
theorem ri {i j pos} : RPE X (.Constant (.int i) j pos) (rC (.int i)) := rconst pe_int fun H => by simp only [Rep]
theorem rb {b j pos} : RPE X (.Constant (.bool b) j pos) (rC (.bl b)) := rconst pe_bl fun H => by simp only [Rep]
theorem rn {j pos} : RPE X (.Constant .none j pos) (rC .non) := rconst pe_non fun H => by simp only [Rep]
theorem rs {x j pos} : RPE X (.Constant (.str x) j pos) (rC (.str x)) := rconst pe_str fun H => by simp only [Rep]
/-- a name of the module's top -/
theorem rglob {x : Str} {v : V} {r : RV} {u : Value} {pos : Pos} (hm : X.mg x = some u) (rl : RelV v u) (hr : ∀ H, Rep X.K H r v) (hg : Gl X x := by rfl) (hd : (x == ("__debug__" : Str)) = false := by decide) : RPE X (.Name x pos) (rC r) :=
  rconst (pe_glob hg hm rl hd) hr
theorem rbltn {x : Str} {v : V} {r : RV} {u : Value} {pos : Pos} (hm : X.mg x = none) (hv : bootBuiltins x = some u) (rl : RelV v u) (hr : ∀ H, Rep X.K H r v) (hg : Gl X x := by rfl) (hn : x ≠ "__name__" := by decide) (hd : (x == ("__debug__" : Str)) = false := by decide) : RPE X (.Name x pos) (rC r) :=
  rconst (pe_bltn hg hm hv rl hn hd) hr

/-! ### two-place operations -/
abbrev RR2 := RV → RV → RM → RVK → Prop
def upO (K : PySem.W.Frag) (rr : RR2) : R2 := fun x y H Q0 => ∃ rx ry M Q, Rep K H rx x ∧ Rep K H ry y ∧ View K H M ∧ rr rx ry M Q ∧ UpK K H Q Q0
def ROp (X : Cx) (f : Value → Value → Sem Value) (rr : RR2) : Prop := OpR X f (upO X.K rr)
def rOp (rr : RR2) (ta tb : RTE) : RTE := fun σ M Q => ta σ M fun x M1 => tb σ M1 fun y M2 => rr x y M2 Q
theorem rop_imp {K : PySem.W.Frag} {rr : RR2} {σ0 : L2.St} {H : Hp} {Q0 : VK} (h : up K (rOp rr ta tb) σ0 H Q0) : tOp (upO K rr) (up K ta) (up K tb) σ0 H Q0 := by
  obtain ⟨σ, M, Q, hs, hv, ht, hk⟩ := h
  refine ⟨σ, M, _, hs, hv, ht, fun rx M1 x H1 hb e1 v1 r1 => ?_⟩
  refine ⟨σ, M1, _, hs.ext e1, v1, hb, fun ry M2 y H2 hr e2 v2 r2 => ?_⟩
  exact ⟨rx, ry, M2, Q, Rep.ext e2 rx x r1, r2, v2, hr, hk.ext (e1.trans e2)⟩
theorem rop {op : Operator} {rr : RR2} (ho : ROp X (binaryOp op) rr) (ha : RPE X a ta) (hb : RPE X b tb) : RPE X (.BinOp a op b pos) (rOp rr ta tb) := PE.imp (pe_op ho ha hb) fun _ _ _ h => rop_imp h
theorem rcmp {op : CmpOp} {rr : RR2} (ho : ROp X (compareOp op) rr) (ha : RPE X a ta) (hb : RPE X b tb) (hm : behindInMarks op b = false := by first | exact nomark _ | (with_unfolding_all rfl)) : RPE X (.Compare a [op] [b] pos) (rOp rr ta tb) :=
  PE.imp (pe_cmpR ho ha hb hm) fun _ _ _ h => rop_imp h
/-- a value as a test: it is a truth -/
def rTest (t : RTE) : RTT := fun σ M Q => t σ M fun v M' => match v with | .bl k => Q k M' | _ => False
theorem test_up {K : PySem.W.Frag} {H : Hp} {Q : Bool → RM → Prop} {Q0 : Bool → Hp → Prop} (hk : ∀ b M' H', Q b M' → Ext H H' → View K H' M' → Q0 b H') :
    UpK K H (fun v M' => match v with | .bl k => Q k M' | _ => False) (fun x H' => ∃ k, x = .bl k ∧ Q0 k H') := fun rv M' v H' q e w r => by
  cases rv with
  | bl k => simp only [Rep] at r; exact ⟨k, r, hk k M' H' q e w⟩
  | _ => exact q.elim
theorem rtcmp {op : CmpOp} {rr : RR2} (ho : ROp X (compareOp op) rr) (ha : RPE X a ta) (hb : RPE X b tb) (hm : behindInMarks op b = false := by first | exact nomark _ | (with_unfolding_all rfl)) : RPT X (.Compare a [op] [b] pos) (rTest (rOp rr ta tb)) :=
  PT.imp (pt_cmpR ho ha hb hm) fun σ0 H Q0 h => by
    obtain ⟨σ, M, Q, hs, hv, ht, hk⟩ := h
    exact rop_imp ⟨σ, M, _, hs, hv, ht, test_up hk⟩
theorem rtval {e : Expr} {t : RTE} (h : RPE X e t) (he : ∀ whole, isTrue e X.env whole = (do let v ← whole; standAt e.pos; holding [v] (truthy v)) := by intro _; rfl) : RPT X e (rTest t) :=
  PT.imp (pt_val h he) fun σ0 H Q0 h => by
    obtain ⟨σ, M, Q, hs, hv, ht, hk⟩ := h
    exact ⟨σ, M, _, hs, hv, ht, test_up hk⟩
/-- a op b op' c -/
def rChain (rr rr' : RR2) (ta tb tc : RTE) : RTE := fun σ M Q => ta σ M fun x M1 => tb σ M1 fun y M2 => rr x y M2 fun z M3 => match z with
  | .bl k => (k = true → tc σ M3 fun w M4 => rr' y w M4 Q) ∧ (k = false → Q (.bl false) M3)
  | _ => False
theorem chain_imp {K : PySem.W.Frag} {rr rr' : RR2} {σ0 : L2.St} {H : Hp} {Q0 : VK} (h : up K (rChain rr rr' ta tb tc) σ0 H Q0) : tChain (upO K rr) (upO K rr') (up K ta) (up K tb) (up K tc) σ0 H Q0 := by
  obtain ⟨σ, M, Q, hs, hv, ht, hk⟩ := h
  refine ⟨σ, M, _, hs, hv, ht, fun rx M1 x H1 hb e1 v1 r1 => ?_⟩
  refine ⟨σ, M1, _, hs.ext e1, v1, hb, fun ry M2 y H2 hr e2 v2 r2 => ?_⟩
  refine ⟨rx, ry, M2, _, Rep.ext e2 rx x r1, r2, v2, hr, fun rz M3 z H3 hz e3 v3 r3 => ?_⟩
  cases rz with
  | bl k =>
    simp only [Rep] at r3
    refine ⟨k, r3, ?_⟩
    have e13 := (e1.trans e2).trans e3
    cases k with
    | true =>
      refine iteT ?_
      refine ⟨σ, M3, _, hs.ext e13, v3, hz.1 rfl, fun rw M4 w H4 hw e4 v4 r4 => ?_⟩
      exact ⟨ry, rw, M4, Q, Rep.ext (e3.trans e4) ry y r2, r4, v4, hw, hk.ext (e13.trans e4)⟩
    | false => exact iteF (hk _ M3 _ H3 (hz.2 rfl) e13 v3 (by simp only [Rep]))
  | _ => exact hz.elim
theorem rchain {op op' : CmpOp} {rr rr' : RR2} (ho : ROp X (compareOp op) rr) (ho' : ROp X (compareOp op') rr') (ha : RPE X a ta) (hb : RPE X b tb) (hc : RPE X c tc) (hm : lastMarks [op, op'] [b, c] = false := by with_unfolding_all rfl) :
    RPE X (.Compare a [op, op'] [b, c] pos) (rChain rr rr' ta tb tc) := PE.imp (pe_chain ho ho' ha hb hc hm) fun _ _ _ h => chain_imp h
theorem rtchain {op op' : CmpOp} {rr rr' : RR2} (ho : ROp X (compareOp op) rr) (ho' : ROp X (compareOp op') rr') (ha : RPE X a ta) (hb : RPE X b tb) (hc : RPE X c tc) (hm : lastMarks [op, op'] [b, c] = false := by with_unfolding_all rfl) :
    RPT X (.Compare a [op, op'] [b, c] pos) (rTest (rChain rr rr' ta tb tc)) := PT.imp (pt_chain ho ho' ha hb hc hm) fun σ0 H Q0 h => by
  obtain ⟨σ, M, Q, hs, hv, ht, hk⟩ := h
  exact chain_imp ⟨σ, M, _, hs, hv, ht, test_up hk⟩
/-- one-place -/
def rUn (g : RV → RM → RVK → Prop) (ta : RTE) : RTE := fun σ M Q => ta σ M fun x M1 => g x M1 Q
def upU (K : PySem.W.Frag) (g : RV → RM → RVK → Prop) : V → Hp → VK → Prop := fun x H Q0 => ∃ rx M Q, Rep K H rx x ∧ View K H M ∧ g rx M Q ∧ UpK K H Q Q0
theorem run_imp {K : PySem.W.Frag} {g : RV → RM → RVK → Prop} {σ0 : L2.St} {H : Hp} {Q0 : VK} (h : up K (rUn g ta) σ0 H Q0) : tUn (upU K g) (up K ta) σ0 H Q0 := by
  obtain ⟨σ, M, Q, hs, hv, ht, hk⟩ := h
  exact ⟨σ, M, _, hs, hv, ht, fun rx M1 x H1 hb e1 v1 r1 => ⟨rx, M1, Q, r1, v1, hb, hk.ext e1⟩⟩
theorem run {op : UnaryOp} {g : RV → RM → RVK → Prop} (ho : UnR X (unaryOp op) (upU X.K g)) (ha : RPE X a ta) : RPE X (.UnaryOp op a pos) (rUn g ta) := PE.imp (pe_un ho ha) fun _ _ _ h => run_imp h
/-! ### and, or, not, if -/
def rAnd (t u : RTT) : RTT := fun σ M Q => t σ M fun c M1 => (c = true → u σ M1 Q) ∧ (c = false → Q false M1)
def rOr (t u : RTT) : RTT := fun σ M Q => t σ M fun c M1 => (c = true → Q true M1) ∧ (c = false → u σ M1 Q)
def rNot (t : RTT) : RTT := fun σ M Q => t σ M fun c M1 => Q (!c) M1
theorem rand1 (ha : RPT X a tA) : RPW X (.BoolOp .And [a] pos) tA := pw_and1 ha
theorem ror1 (ha : RPT X a tA) : RPW X (.BoolOp .Or [a] pos) tA := pw_or1 ha
theorem rand (ha : RPT X a tA) (hb : RPW X (.BoolOp .And (b :: rest) pos) tB) : RPW X (.BoolOp .And (a :: b :: rest) pos) (rAnd tA tB) := PW.imp (pw_and ha hb) fun σ0 H Q0 h => by
  obtain ⟨σ, M, Q, hs, hv, ht, hk⟩ := h
  refine ⟨σ, M, _, hs, hv, ht, fun k M1 H1 q e1 v1 => ?_⟩
  cases k with
  | true => exact iteT ⟨σ, M1, Q, hs.ext e1, v1, q.1 rfl, fun b M' H' z e2 w => hk b M' H' z (e1.trans e2) w⟩
  | false => exact iteF (hk false M1 H1 (q.2 rfl) e1 v1)
theorem ror (ha : RPT X a tA) (hb : RPW X (.BoolOp .Or (b :: rest) pos) tB) : RPW X (.BoolOp .Or (a :: b :: rest) pos) (rOr tA tB) := PW.imp (pw_or ha hb) fun σ0 H Q0 h => by
  obtain ⟨σ, M, Q, hs, hv, ht, hk⟩ := h
  refine ⟨σ, M, _, hs, hv, ht, fun k M1 H1 q e1 v1 => ?_⟩
  cases k with
  | true => exact iteT (hk true M1 H1 (q.1 rfl) e1 v1)
  | false => exact iteF ⟨σ, M1, Q, hs.ext e1, v1, q.2 rfl, fun b M' H' z e2 w => hk b M' H' z (e1.trans e2) w⟩
theorem rtw (h : RPW X a tA) : RPT X a tA := PW.pt h
theorem rtnot (ha : RPT X a tA) : RPT X (.UnaryOp .Not a pos) (rNot tA) := PT.imp (pt_not ha) fun σ0 H Q0 h => by
  obtain ⟨σ, M, Q, hs, hv, ht, hk⟩ := h
  exact ⟨σ, M, _, hs, hv, ht, fun k M1 H1 q e1 v1 => hk (!k) M1 H1 q e1 v1⟩
def rAndV (ta tb : RTE) : RTE := fun σ M Q => ta σ M fun x M1 => match x with | .bl c => (c = true → tb σ M1 Q) ∧ (c = false → Q (.bl false) M1) | _ => False
def rOrV (ta tb : RTE) : RTE := fun σ M Q => ta σ M fun x M1 => match x with | .bl c => (c = true → Q (.bl true) M1) ∧ (c = false → tb σ M1 Q) | _ => False
def rNotV (ta : RTE) : RTE := fun σ M Q => ta σ M fun x M1 => match x with | .bl c => Q (.bl (!c)) M1 | _ => False
theorem rone {op} {t : RTE} (h : RPE X a t) : RPE X (.BoolOp op [a] pos) t := pe_one h
theorem randv (ha : RPE X a ta) (hb : RPE X (.BoolOp .And (b :: rest) pos) tb) : RPE X (.BoolOp .And (a :: b :: rest) pos) (rAndV ta tb) := PE.imp (pe_and ha hb) fun σ0 H Q0 h => by
  obtain ⟨σ, M, Q, hs, hv, ht, hk⟩ := h
  refine ⟨σ, M, _, hs, hv, ht, fun rx M1 x H1 q e1 v1 r1 => ?_⟩
  cases rx with
  | bl k =>
    simp only [Rep] at r1
    refine ⟨k, r1, ?_⟩
    cases k with
    | true => exact iteT ⟨σ, M1, Q, hs.ext e1, v1, q.1 rfl, hk.ext e1⟩
    | false => exact iteF (hk _ M1 _ H1 (q.2 rfl) e1 v1 (by simp only [Rep]))
  | _ => exact q.elim
theorem rorv (ha : RPE X a ta) (hb : RPE X (.BoolOp .Or (b :: rest) pos) tb) : RPE X (.BoolOp .Or (a :: b :: rest) pos) (rOrV ta tb) := PE.imp (pe_or ha hb) fun σ0 H Q0 h => by
  obtain ⟨σ, M, Q, hs, hv, ht, hk⟩ := h
  refine ⟨σ, M, _, hs, hv, ht, fun rx M1 x H1 q e1 v1 r1 => ?_⟩
  cases rx with
  | bl k =>
    simp only [Rep] at r1
    refine ⟨k, r1, ?_⟩
    cases k with
    | true => exact iteT (hk _ M1 _ H1 (q.1 rfl) e1 v1 (by simp only [Rep]))
    | false => exact iteF ⟨σ, M1, Q, hs.ext e1, v1, q.2 rfl, hk.ext e1⟩
  | _ => exact q.elim
theorem rnotv (ha : RPE X a ta) : RPE X (.UnaryOp .Not a pos) (rNotV ta) := PE.imp (pe_not ha) fun σ0 H Q0 h => by
  obtain ⟨σ, M, Q, hs, hv, ht, hk⟩ := h
  refine ⟨σ, M, _, hs, hv, ht, fun rx M1 x H1 q e1 v1 r1 => ?_⟩
  cases rx with
  | bl k => simp only [Rep] at r1; exact ⟨k, r1, hk _ M1 _ H1 q e1 v1 (by simp only [Rep])⟩
  | _ => exact q.elim
def rIf (t : RTT) (ta tb : RTE) : RTE := fun σ M Q => t σ M fun c M1 => (c = true → ta σ M1 Q) ∧ (c = false → tb σ M1 Q)
theorem rif {c : Expr} (hc : RPT X c tA) (ha : RPE X a ta) (hb : RPE X b tb) : RPE X (.IfExp c a b pos) (rIf tA ta tb) := PE.imp (pe_ifExp hc ha hb) fun σ0 H Q0 h => by
  obtain ⟨σ, M, Q, hs, hv, ht, hk⟩ := h
  refine ⟨σ, M, _, hs, hv, ht, fun k M1 H1 q e1 v1 => ?_⟩
  cases k with
  | true => exact iteT ⟨σ, M1, Q, hs.ext e1, v1, q.1 rfl, hk.ext e1⟩
  | false => exact iteF ⟨σ, M1, Q, hs.ext e1, v1, q.2 rfl, hk.ext e1⟩
/-! ### argument lists, displays -/
variable {e : Expr} {es : List Expr} {te : RTE} {t : RTA}
def rNil : RTA := fun _ M Q => Q [] M
def rCons (ta : RTE) (tr : RTA) : RTA := fun σ M Q => ta σ M fun x M1 => tr σ M1 fun xs M2 => Q (x :: xs) M2
theorem anil : RPA X [] rNil := PA.imp pa_nil fun σ0 H Q0 h => by
  obtain ⟨σ, M, Q, hs, hv, ht, hk⟩ := h
  exact hk [] M [] H ht (.refl H) hv Reps.nil
theorem acons (ha : RPE X e te) (hr : RPA X es t) (hs : starEach (e :: es) X.env = (false, eval e X.env) :: starEach es X.env := by rfl) : RPA X (e :: es) (rCons te t) := PA.imp (pa_cons ha hr hs) fun σ0 H Q0 h => by
  obtain ⟨σ, M, Q, hs, hv, ht, hk⟩ := h
  refine ⟨σ, M, _, hs, hv, ht, fun rx M1 x H1 q e1 v1 r1 => ?_⟩
  refine ⟨σ, M1, _, hs.ext e1, v1, q, fun rs M2 vs H2 q2 e2 v2 r2 => ?_⟩
  exact hk (rx :: rs) M2 (x :: vs) H2 q2 (e1.trans e2) v2 (Reps.cons (Rep.ext e2 rx x r1) r2)
def rTup (t : RTA) : RTE := fun σ M Q => t σ M fun rs M1 => rs.length ≤ sizeLine ∧ Q (.tup rs) M1
theorem rep_tup {K : PySem.W.Frag} {H : Hp} {p : Addr} {rs : List RV} {vs : List V} (h : H p = none) (r : Reps K H rs vs) : Rep K (upd H p (.tup vs)) (.tup rs) (.ref p) := by
  simp only [Rep]; exact ⟨p, vs, rfl, SqT.of upd_same, Reps.ext (Ext.new h) rs vs r⟩
theorem rep_ls {K : PySem.W.Frag} {H : Hp} {p : Addr} {o : Obj} {rs : List RV} {vs : List V} (h : H p = none) (r : Reps K H rs vs) : Rep K (upd H p (.frz o (.lst vs))) (.ls rs) (.ref p) := by
  simp only [Rep]; exact ⟨p, vs, rfl, .inl ⟨o, upd_same⟩, Reps.ext (Ext.new h) rs vs r⟩
theorem rtup {x1} (h : RPA X es t) : RPE X (.Tuple es x1 pos) (rTup t) := PE.imp (pe_tup h) fun σ0 H Q0 h => by
  obtain ⟨σ, M, Q, hs, hv, ht, hk⟩ := h
  refine ⟨σ, M, _, hs, hv, ht, fun rs M1 vs H1 q e1 v1 r1 => ⟨by rw [← r1.length]; exact q.1, fun p hp => ?_⟩⟩
  exact hk _ M1 _ _ q.2 (e1.trans (Ext.new hp)) (v1.new hp) (rep_tup hp r1)
/-- a list that will be changed -/
def rLst (t : RTA) : RTE := fun σ M Q => t σ M fun rs M1 => rs.length ≤ sizeLine ∧ ∀ p, M1 p = none → Q (.ref p) (put M1 p (.lst rs))
theorem rlst (h : RPA X es t) : RPE X (.List es pos) (rLst t) := PE.imp (pe_lst h) fun σ0 H Q0 h => by
  obtain ⟨σ, M, Q, hs, hv, ht, hk⟩ := h
  refine ⟨σ, M, _, hs, hv, ht, fun rs M1 vs H1 q e1 v1 r1 => ⟨by rw [← r1.length]; exact q.1, fun p hp => ?_⟩⟩
  exact hk _ _ _ _ (q.2 p (v1.free hp)) (e1.trans (Ext.new hp)) (v1.newPut hp ⟨vs, rfl, Reps.ext (Ext.new hp) rs vs r1⟩) (by simp only [Rep])
end
/-! ### freezing -/
section
variable {X : Cx} {pins : List (Addr × Obj)} {σ : L2.St} {H : Hp} {s : Shared}
theorem freeze {p : Addr} {xs : List V} (I : Inv X pins σ H s) (h : H p = some (.lst xs)) : ∃ o, Inv X pins σ (upd H p (.frz o (.lst xs))) s := by
  have hz : xs.length ≤ sizeLine ∧ ∃ (its : List Value) (n : Nat), Vals xs its ∧ s.heap.get? p = some { cls := .type "list", data := .seq its.toArray n } := I.hok p _ h
  obtain ⟨z, its, n, r, e⟩ := id hz
  have np : ∀ b, H b = none → b ≠ p := fun b q w => by subst w; rw [h] at q; cases q
  refine ⟨{ cls := .type "list", data := .seq its.toArray n }, ⟨I.ok, I.os, I.bare, ⟨I.base.keep, I.base.slot, fun b o q w x => ?_, I.base.there, fun b xs' q => ?_, fun b o u q => ?_, fun b ps q => ?_⟩, I.loc, I.cell, ?_, fun x c q => ?_, fun q hq => ?_, fun b u q => ?_, I.len⟩⟩
  · have := I.base.free b o q w x
    rw [upd_ne (np b this)]; exact this
  · have e1 := I.base.tups b xs' q
    rw [upd_ne (ne_of e1 h (by intro z; cases z))]; exact e1
  · have e1 := I.base.frzs b o u q
    rw [upd_ne (ne_of e1 h (by intro z; cases z))]; exact e1
  · obtain ⟨more, e1⟩ := I.base.tbls b ps q
    exact ⟨more, by rw [upd_ne (ne_of e1 h (by intro z; cases z))]; exact e1⟩
  · rw [upd_ne (np _ I.free)]; exact I.free
  · have := I.freeC x c q
    rw [upd_ne (np _ this)]; exact this
  · obtain ⟨a1, a2, a3⟩ := I.pin q hq
    exact ⟨a1, by rw [upd_ne (np _ a2)]; exact a2, a3⟩
  · by_cases hb : b = p
    · subst hb
      rw [upd_same] at q; cases q
      exact ⟨e, z, its, n, r, e⟩
    · rw [upd_ne hb] at q
      refine (I.hok b u q).stay (fun _ _ _ q => q) (fun c q => ?_) fun c ys q => ?_
      · rw [upd_ne (ne_of q h (by intro z; cases z))]; exact q
      · rw [upd_ne (ne_of q h (by intro z; cases z))]; exact q
theorem frozen {Q : VK} {u : Value} (h : EP X pins σ (fun v H' => ∃ H1 p xs, v = .ref p ∧ H1 p = none ∧ H' = upd H1 p (.lst xs) ∧ ∀ o, Q (.ref p) (upd H1 p (.frz o (.lst xs)))) u s) : EP X pins σ Q u s := by
  obtain ⟨v, H', I, r, H1, p, xs, rfl, hn, rfl, q⟩ := h
  obtain ⟨o, I'⟩ := freeze I (p := p) (xs := xs) upd_same
  rw [upd_upd] at I'
  exact ⟨.ref p, _, I', r, q o⟩
end
section
variable {X : Cx} {es : List Expr} {t : RTA} {pos : Pos}
/-- a list that stays as it is -/
def rLsF (t : RTA) : RTE := fun σ M Q => t σ M fun rs M1 => rs.length ≤ sizeLine ∧ Q (.ls rs) M1
theorem rlsf (h : RPA X es t) : RPE X (.List es pos) (rLsF t) := fun pins s σ0 H Q0 I hw => by
  obtain ⟨σ, M, Q, hs, hv, ht, hk⟩ := hw
  refine thn (pe_lst h pins s σ0 H (fun v H' => ∃ H1 p xs, v = .ref p ∧ H1 p = none ∧ H' = upd H1 p (.lst xs) ∧ ∀ o, Q0 (.ref p) (upd H1 p (.frz o (.lst xs)))) I ?_) fun _ _ e => frozen e
  refine ⟨σ, M, _, hs, hv, ht, fun rs M1 vs H1 q e1 v1 r1 => ⟨by rw [← r1.length]; exact q.1, fun p hp => ⟨H1, p, vs, rfl, hp, rfl, fun o => ?_⟩⟩⟩
  exact hk _ M1 _ _ q.2 (e1.trans (Ext.new hp)) (v1.new hp) (rep_ls hp r1)
end
/-! ### statements -/
section
variable {X : Cx} {st : Stmt} {rest : List Stmt} {t u : RTS} {e : Expr} {te : RTE} {pos : Pos}
def rNext : RTS := fun D σ M => D.nx σ M
def rSeq (t u : RTS) : RTS := fun D σ M => t { D with nx := u D } σ M
theorem snil : RPSs X [] rNext := PSs.imp pss_nil fun D0 σ0 H h => by
  obtain ⟨σ, M, D, hs, hv, ht, hd⟩ := h
  exact hd.nx σ M σ0 H ht (.refl H) hv hs
theorem scons (h1 : RPS X st t) (h2 : RPSs X rest u) : RPSs X (st :: rest) (rSeq t u) := PSs.imp (pss_cons h1 h2) fun D0 σ0 H h => by
  obtain ⟨σ, M, D, hs, hv, ht, hd⟩ := h
  refine ⟨σ, M, _, hs, hv, ht, ⟨fun σ' M' σ0' H' q e w r => ?_, hd.rt, hd.bk, hd.ct⟩⟩
  exact ⟨σ', M', D, r, w, q, hd.ext e⟩
theorem sone (h1 : RPS X st t) : RPSs X [st] t := pss_one h1
def rBreak : RTS := fun D σ M => D.bk σ M
def rCont : RTS := fun D σ M => D.ct σ M
theorem spass : RPS X (.Pass pos) rNext := PS.imp ps_pass fun D0 σ0 H h => by
  obtain ⟨σ, M, D, hs, hv, ht, hd⟩ := h
  exact hd.nx σ M σ0 H ht (.refl H) hv hs
theorem sbreak : RPS X (.Break pos) rBreak := PS.imp ps_break fun D0 σ0 H h => by
  obtain ⟨σ, M, D, hs, hv, ht, hd⟩ := h
  exact hd.bk σ M σ0 H ht (.refl H) hv hs
theorem scontinue : RPS X (.Continue pos) rCont := PS.imp ps_continue fun D0 σ0 H h => by
  obtain ⟨σ, M, D, hs, hv, ht, hd⟩ := h
  exact hd.ct σ M σ0 H ht (.refl H) hv hs
theorem sdoc {x j pos pos'} : RPS X (.Expr (.Constant (.str x) j pos) pos') rNext := PS.imp ps_doc fun D0 σ0 H h => by
  obtain ⟨σ, M, D, hs, hv, ht, hd⟩ := h
  exact hd.nx σ M σ0 H ht (.refl H) hv hs
def rDrop (te : RTE) : RTS := fun D σ M => te σ M fun _ M1 => D.nx σ M1
theorem sexpr (he : RPE X e te) (hs : swapsWith e none pos.line X.env = pure false := by rfl) : RPS X (.Expr e pos) (rDrop te) := PS.imp (ps_expr he hs) fun D0 σ0 H h => by
  obtain ⟨σ, M, D, hs, hv, ht, hd⟩ := h
  exact ⟨σ, M, _, hs, hv, ht, fun rx M1 x H1 q e1 v1 r1 => hd.nx σ M1 σ0 H1 q e1 v1 (hs.ext e1)⟩
def rRet (te : RTE) : RTS := fun D σ M => te σ M D.rt
theorem sret (he : RPE X e te) : RPS X (.Return (some e) pos) (rRet te) := PS.imp (ps_ret he) fun D0 σ0 H h => by
  obtain ⟨σ, M, D, hs, hv, ht, hd⟩ := h
  exact ⟨σ, M, _, hs, hv, ht, hd.rt⟩
def rRetN : RTS := fun D _ M => D.rt .non M
theorem sretn : RPS X (.Return none pos) rRetN := PS.imp ps_retN fun D0 σ0 H h => by
  obtain ⟨σ, M, D, hs, hv, ht, hd⟩ := h
  exact hd.rt .non M .non H ht (.refl H) hv (by simp only [Rep])
def rIfS (c : RTT) (t u : RTS) : RTS := fun D σ M => c σ M fun b M1 => (b = true → t D σ M1) ∧ (b = false → u D σ M1)
theorem sif {c : Expr} {a b : List Stmt} {tc : RTT} (hc : RPT X c tc) (ha : RPSs X a t) (hb : RPSs X b u) : RPS X (.If c a b pos) (rIfS tc t u) := PS.imp (ps_if hc ha hb) fun D0 σ0 H h => by
  obtain ⟨σ, M, D, hs, hv, ht, hd⟩ := h
  refine ⟨σ, M, _, hs, hv, ht, fun k M1 H1 q e1 v1 => ?_⟩
  cases k with
  | true => exact iteT ⟨σ, M1, D, hs.ext e1, v1, q.1 rfl, hd.ext e1⟩
  | false => exact iteF ⟨σ, M1, D, hs.ext e1, v1, q.2 rfl, hd.ext e1⟩
def rSet (i : Nat) (te : RTE) : RTS := fun D σ M => te σ M fun x M1 => D.nx (σ.set i (some x)) M1
theorem sset (i : Nat) {x : Str} {pos' : Pos} (he : RPE X e te) (hN : X.N.Nodup) (hi : X.N[i]? = some x := by rfl) (hx : Loc X.env.scope x := by first | exact Or.inl rfl | exact Or.inr rfl) (hs : swapsWith e (some (.Name x pos')) pos.line X.env = pure false := by rfl)
    (hf : X.fn x = true ∨ X.env.scope.names.lookup x = some .local := by first | exact .inl rfl | exact .inr rfl) : RPS X (.Assign [.Name x pos'] e pos) (rSet i te) := PS.imp (ps_set hN hi hx he hs hf) fun D0 σ0 H h => by
  obtain ⟨σ, M, D, hs, hv, ht, hd⟩ := h
  exact ⟨σ, M, _, hs, hv, ht, fun rx M1 x H1 q e1 v1 r1 => hd.nx _ M1 _ H1 q e1 v1 ((hs.ext e1).set r1 i)⟩
/-! ### targets -/
abbrev RTG := RV → RSt → RM → (RSt → RM → Prop) → Prop
def upG (K : PySem.W.Frag) (g : RTG) : TG := fun v σ0 H Q0 => ∃ rv σ M Q, Rep K H rv v ∧ RepSt K H σ σ0 ∧ View K H M ∧ g rv σ M Q ∧ UpS K H Q Q0
def RPG (X : Cx) (target : Expr) (g : RTG) : Prop := PG X target (upG X.K g)
theorem PG.imp {tg : Expr} {t t' : TG} (h : PG X tg t) (i : ∀ v σ H Q, t' v σ H Q → t v σ H Q) : PG X tg t' := fun pins s σ H v u Q I r w => h pins s σ H v u Q I r (i v σ H Q w)
def rgN (i : Nat) : RTG := fun x σ M Q => Q (σ.set i (some x)) M
theorem gname (i : Nat) {x : Str} {pos : Pos} (hN : X.N.Nodup) (hi : X.N[i]? = some x := by rfl) (hx : Loc X.env.scope x := by first | exact Or.inl rfl | exact Or.inr rfl)
    (hf : X.fn x = true ∨ X.env.scope.names.lookup x = some .local := by first | exact .inl rfl | exact .inr rfl) : RPG X (.Name x pos) (rgN i) := PG.imp (pg_name hN hi hx hf) fun v σ0 H Q0 h => by
  obtain ⟨rv, σ, M, Q, hr, hs, hv, hg, hk⟩ := h
  exact hk _ M _ H hg (.refl H) hv (hs.set hr i)
def setAll : RSt → List Nat → List RV → RSt
  | σ, i :: is, x :: xs => setAll (σ.set i (some x)) is xs
  | σ, _, _ => σ
def gAll : List Nat → TGs
  | [] => gNil
  | i :: is => gCons (gName i) (gAll is)
theorem gAll_of {K : PySem.W.Frag} {H : Hp} {Q0 : L2.St → Hp → Prop} : ∀ {is : List Nat} {rs : List RV} {vs : List V} {σ : RSt} {σ0 : L2.St}, rs.length = is.length → Reps K H rs vs → RepSt K H σ σ0 →
    (∀ σ0', RepSt K H (setAll σ is rs) σ0' → Q0 σ0' H) → gAll is vs σ0 H Q0
  | [], [], vs, σ, σ0, _, r, hs, k => by
    simp only [Reps] at r
    exact ⟨r, k σ0 hs⟩
  | i :: is, x :: rs, vs, σ, σ0, hl, r, hs, k => by
    simp only [Reps] at r
    obtain ⟨v, vs', rfl, h1, h2⟩ := r
    refine ⟨v, vs', rfl, ?_⟩
    show gAll is vs' (σ0.set i (some v)) H Q0
    exact gAll_of (σ := σ.set i (some x)) (by simpa using hl) h2 (hs.set h1 i) k
def rgU (is : List Nat) : RTG := fun x σ M Q => match x with | .tup xs => xs.length = is.length ∧ Q (setAll σ is xs) M | _ => False
theorem gtup {es : List Expr} {k : Nat} {is : List Nat} {n : Nat} {pos : Pos} (hc : X.calm = true) (h : PGs X es (gAll is)) (hl : n = is.length := by rfl)
    (hn : (assignEach es X.env).length = n := by rfl) (hst : (assignEach es X.env).findIdx? (·.1) = none := by rfl) : RPG X (.Tuple es k pos) (rgU is) := PG.imp (pg_tup hc h hn hst) fun v σ0 H Q0 h => by
  obtain ⟨rv, σ, M, Q, hr, hs, hv, hg, hk⟩ := h
  cases rv with
  | tup xs =>
    simp only [Rep] at hr
    obtain ⟨a, vs, rfl, h1, h2⟩ := hr
    exact ⟨a, vs, rfl, h1, by rw [← h2.length, hl]; exact hg.1, gAll_of hg.1 h2 hs fun σ0' q => hk _ M σ0' H hg.2 (.refl H) hv q⟩
  | _ => exact hg.elim
def rAsg (te : RTE) (g : RTG) : RTS := fun D σ M => te σ M fun x M1 => g x σ M1 D.nx
theorem sasg {tg e : Expr} {te : RTE} {g : RTG} {pos : Pos} (he : RPE X e te) (hg : RPG X tg g) (hs : swapsWithSole [tg] e pos.line X.env = pure false := by rfl) (hw : swappedStores [tg] e X.env = pure none := by rfl)
    (h1 : (assignEach [tg] X.env).map (·.2) = [assign tg X.env] := by rfl) : RPS X (.Assign [tg] e pos) (rAsg te g) := PS.imp (ps_asg he hg hs hw h1) fun D0 σ0 H h => by
  obtain ⟨σ, M, D, hs, hv, ht, hd⟩ := h
  exact ⟨σ, M, _, hs, hv, ht, fun rx M1 x H1 q e1 v1 r1 => ⟨rx, σ, M1, D.nx, r1, hs.ext e1, v1, q, hd.nx.ext e1⟩⟩
/-- o[i] = v, by values -/
abbrev RTSet := RV → RV → RV → RM → (RM → Prop) → Prop
def upSet (K : PySem.W.Frag) (g : RTSet) : TSet := fun o i v H Q0 => ∃ ro ri rx M Q, Rep K H ro o ∧ Rep K H ri i ∧ Rep K H rx v ∧ View K H M ∧ g ro ri rx M Q ∧ ∀ M' H', Q M' → Ext H H' → View K H' M' → Q0 H'
def rgSub (to ti : RTE) (g : RTSet) : RTG := fun v σ M Q => to σ M fun o M1 => ti σ M1 fun i M2 => g o i v M2 fun M3 => Q σ M3
theorem gsub {o i : Expr} {to ti : RTE} {g : RTSet} {pos : Pos} (ho : RPE X o to) (hi : RPE X i ti) (hs : PSet X (upSet X.K g))
    (ha : ∀ v, assign (.Subscript o i pos) X.env v = (do
      let ov ← holding [v] (eval o X.env)
      let iv ← holding [v, ov] (eval i X.env)
      standAt pos
      holding [v, ov, iv] (setItem ov iv v)
      release [v, ov, iv] []) := by intro _; rfl) : RPG X (.Subscript o i pos) (rgSub to ti g) := PG.imp (pg_sub ho hi hs ha) fun v σ0 H Q0 h => by
  obtain ⟨rv, σ, M, Q, hr, hs, hv, hg, hk⟩ := h
  refine ⟨σ, M, _, hs, hv, hg, fun ro M1 o H1 q e1 v1 r1 => ?_⟩
  refine ⟨σ, M1, _, hs.ext e1, v1, q, fun ri M2 i H2 q2 e2 v2 r2 => ?_⟩
  refine ⟨ro, ri, rv, M2, _, Rep.ext e2 ro o r1, r2, Rep.ext (e1.trans e2) rv v hr, v2, q2, fun M3 H3 q3 e3 v3 => ?_⟩
  have e := (e1.trans e2).trans e3
  exact hk σ M3 σ0 H3 q3 e v3 (hs.ext e)
/-! ### for -/
def rForL (g : RTG) (tb : RTS) (D : RD) : List RV → RSt → RM → Prop
  | [], σ, M => D.nx σ M
  | x :: r, σ, M => g x σ M fun σ2 M2 => tb { D with nx := rForL g tb D r, ct := rForL g tb D r, bk := D.nx } σ2 M2
def rFor (te : RTE) (g : RTG) (tb : RTS) : RTS := fun D σ M => te σ M fun v M1 => match v with
  | .tup xs => rForL g tb D xs σ M1
  | .ls xs => rForL g tb D xs σ M1
  | _ => False
theorem forL_turn {K : PySem.W.Frag} {g : RTG} {tb : RTS} {D : RD} {D0 : Ends} {H1 : Hp} {rs : List RV} {vs : List V} (hd : UpD K H1 D D0) (rr : Reps K H1 rs vs) (i : Nat) (x : V) (σ0 : L2.St) (H : Hp) (hi : vs[i]? = some x)
    (h : ∃ σ M, RepSt K H σ σ0 ∧ View K H M ∧ rForL g tb D (rs.drop i) σ M ∧ Ext H1 H) :
    upG K g x σ0 H fun σ2 H2 => upS K tb { D0 with nx := fun σ0 H => ∃ σ M, RepSt K H σ σ0 ∧ View K H M ∧ rForL g tb D (rs.drop (i + 1)) σ M ∧ Ext H1 H, ct := fun σ0 H => ∃ σ M, RepSt K H σ σ0 ∧ View K H M ∧ rForL g tb D (rs.drop (i + 1)) σ M ∧ Ext H1 H, bk := D0.nx } σ2 H2 := by
  obtain ⟨σ, M, hs, hv, hf, e1⟩ := h
  have hlt : i < rs.length := by rw [rr.length]; exact (List.getElem?_eq_some_iff.mp hi).1
  have ed : rs.drop i = rs[i] :: rs.drop (i + 1) := by simp
  rw [ed] at hf
  obtain ⟨v, e2, r2⟩ := rr.get (i := i) (x := rs[i]) (by simp)
  rw [hi] at e2; cases e2
  refine ⟨rs[i], σ, M, _, Rep.ext e1 _ _ r2, hs, hv, hf, fun σ' M' σ0' H' q e3 v3 r3 => ?_⟩
  refine ⟨σ', M', _, r3, v3, q, ⟨fun σ4 M4 σ04 H4 q4 e4 v4 r4 => ?_, (hd.ext (e1.trans e3)).rt, (hd.ext (e1.trans e3)).nx, fun σ4 M4 σ04 H4 q4 e4 v4 r4 => ?_⟩⟩
  · exact ⟨σ4, M4, r4, v4, q4, (e1.trans e3).trans e4⟩
  · exact ⟨σ4, M4, r4, v4, q4, (e1.trans e3).trans e4⟩
theorem sforL {tg iter : Expr} {body : List Stmt} {te : RTE} {g : RTG} {tb : RTS} {pos : Pos} (hp : PassesOwn (model X.prog X.w) X.A X.env X.xe) (hc : X.calm = true) (hi : RPE X iter te) (hg : RPG X tg g) (hb : RPSs X body tb)
    (hs : ∀ x, foldedSetIterable iter X.env x = pure x := by intro _; rfl) :
    RPS X (.For tg iter body [] pos) (fun D σ M => te σ M fun v M1 => match v with | .ls xs => rForL g tb D xs σ M1 | _ => False) := PS.imp (ps_for hp hc (pi_list hi) hg hb hs) fun D0 σ0 H h => by
  obtain ⟨σ, M, D, hs, hv, ht, hd⟩ := h
  refine ⟨σ, M, _, hs, hv, ht, fun rx M1 x H1 q e1 v1 r1 => ?_⟩
  cases rx with
  | ls rs =>
    simp only [Rep] at r1
    obtain ⟨a, vs, rfl, h1, rr⟩ := r1
    refine ⟨a, rfl, ⟨vs, h1.sq⟩, for_list (K := X.K) (a := a) (xs := vs) (fun i σ0 H => ∃ σ M, RepSt X.K H σ σ0 ∧ View X.K H M ∧ rForL g tb D (rs.drop i) σ M ∧ Ext H1 H) ⟨σ, M1, hs.ext e1, v1, by simpa using q, .refl _⟩
      (fun i σ0 H _ ⟨_, _, _, _, _, e⟩ => (h1.ext e).sq) (fun i x σ0 H hx h => forL_turn (hd.ext e1) rr i x σ0 H hx h) fun σ0 H ⟨σ, M, hs, hv, hf, e⟩ => ?_⟩
    rw [← rr.length, List.drop_length] at hf
    exact hd.nx σ M σ0 H hf (e1.trans e) hv hs
  | _ => exact q.elim
theorem sforT {tg iter : Expr} {body : List Stmt} {te : RTE} {g : RTG} {tb : RTS} {pos : Pos} (hp : PassesOwn (model X.prog X.w) X.A X.env X.xe) (hc : X.calm = true) (hi : RPE X iter te) (hg : RPG X tg g) (hb : RPSs X body tb)
    (hs : ∀ x, foldedSetIterable iter X.env x = pure x := by intro _; rfl) :
    RPS X (.For tg iter body [] pos) (fun D σ M => te σ M fun v M1 => match v with | .tup xs => rForL g tb D xs σ M1 | _ => False) := PS.imp (ps_for hp hc (pi_tup hi) hg hb hs) fun D0 σ0 H h => by
  obtain ⟨σ, M, D, hs, hv, ht, hd⟩ := h
  refine ⟨σ, M, _, hs, hv, ht, fun rx M1 x H1 q e1 v1 r1 => ?_⟩
  cases rx with
  | tup rs =>
    simp only [Rep] at r1
    obtain ⟨a, vs, rfl, h1, rr⟩ := r1
    refine ⟨a, rfl, ⟨vs, h1⟩, for_tup (K := X.K) (a := a) (xs := vs) (fun i σ0 H => ∃ σ M, RepSt X.K H σ σ0 ∧ View X.K H M ∧ rForL g tb D (rs.drop i) σ M ∧ Ext H1 H) ⟨σ, M1, hs.ext e1, v1, by simpa using q, .refl _⟩
      (fun i σ0 H _ ⟨_, _, _, _, _, e⟩ => SqT.ext e h1) (fun i x σ0 H hx h => forL_turn (hd.ext e1) rr i x σ0 H hx h) fun σ0 H ⟨σ, M, hs, hv, hf, e⟩ => ?_⟩
    rw [← rr.length, List.drop_length] at hf
    exact hd.nx σ M σ0 H hf (e1.trans e) hv hs
  | _ => exact q.elim
end
end R

set_option Elab.async false
set_option linter.all false
set_option maxRecDepth 100000
set_option maxHeartbeats 1000000
namespace R
open PySem PySem.Spec PyProof.Rows L2
open PySem.SeqAt (EqAt RcAt RcNeAt)
/-! ### == of trees -/
mutual
def eqR : RV → RV → Bool
  | .non, .non => true
  | .bl a, .bl b => a == b
  | .bl a, .int b => (if a then 1 else 0) == b
  | .int a, .bl b => a == (if b then 1 else 0)
  | .int a, .int b => a == b
  | .str a, .str b => a == b
  | .tup xs, .tup ys => eqRs xs ys
  | .ls xs, .ls ys => eqRs xs ys
  | _, _ => false
def eqRs : List RV → List RV → Bool
  | [], [] => true
  | x :: xs, y :: ys => eqR x y && eqRs xs ys
  | _, _ => false
end
def okR : Nat → RV → Bool
  | _, .non => true
  | _, .bl _ => true
  | _, .int _ => true
  | _, .str _ => true
  | n + 1, .tup xs => xs.all (okR n)
  | n + 1, .ls xs => xs.all (okR n)
  | _, _ => false
mutual
def Den (h : Heap) : RV → Value → Prop
  | .non, u => u = .none
  | .bl b, u => u = .bool b
  | .int i, u => ∃ t, u = .int i t
  | .str x, u => ∃ t, u = .str x t
  | .tup xs, u => ∃ a its, u = .ref a ∧ h.IsTuple a its.toArray ∧ Dens h xs its
  | .ls xs, u => ∃ a its, u = .ref a ∧ h.IsList a its.toArray ∧ Dens h xs its
  | .ref _, _ => False
  | .ty _, _ => False
def Dens (h : Heap) : List RV → List Value → Prop
  | [], us => us = []
  | x :: xs, us => ∃ u r, us = u :: r ∧ Den h x u ∧ Dens h xs r
end
theorem Dens.length {h : Heap} : ∀ {xs : List RV} {us : List Value}, Dens h xs us → xs.length = us.length
  | [], us, d => by simp only [Dens] at d; subst d; rfl
  | x :: xs, us, d => by
    simp only [Dens] at d
    obtain ⟨u, r, rfl, _, t⟩ := d
    simp [Dens.length t]
theorem Dens.get {h : Heap} : ∀ {xs : List RV} {us : List Value} {j : Nat} {u : Value}, Dens h xs us → us[j]? = some u → Den h (xs.getD j .non) u ∧ xs.getD j .non ∈ xs
  | [], us, _, _, d, e => by simp only [Dens] at d; subst d; simp at e
  | x :: xs, us, 0, u, d, e => by
    simp only [Dens] at d
    obtain ⟨v, r, rfl, h1, _⟩ := d
    simp at e; subst e
    exact ⟨by simpa using h1, by simp⟩
  | x :: xs, us, j + 1, u, d, e => by
    simp only [Dens] at d
    obtain ⟨v, r, rfl, _, t⟩ := d
    obtain ⟨a, b⟩ := Dens.get (j := j) t (by simpa using e)
    exact ⟨by simpa using a, by simp only [List.getD_cons_succ]; exact List.mem_cons_of_mem _ b⟩
section
variable {X : Cx} {pins : List (Addr × Obj)} {σ : L2.St} {H : Hp} {s : Shared}
theorem Vals.cons_inv {v : V} {vs : List V} {us : List Value} (r : Vals (v :: vs) us) : ∃ u us', us = u :: us' ∧ RelV v u ∧ Vals vs us' := by
  cases r with
  | cons a b => exact ⟨_, _, rfl, a, b⟩
theorem den_of (I : Inv X pins σ H s) : ∀ (n : Nat), (∀ (r : RV) (v : V) (u : Value), okR n r = true → Rep X.K H r v → RelV v u → Den s.heap r u) := by
  intro n
  induction n with
  | zero =>
    intro r v u o h w
    cases r with
    | non => simp only [Rep] at h; subst h; simp only [Den]; exact w
    | bl b => simp only [Rep] at h; subst h; simp only [Den]; exact w
    | int i => simp only [Rep] at h; subst h; simp only [Den]; exact w
    | str x => simp only [Rep] at h; subst h; simp only [Den]; exact w
    | _ => simp [okR] at o
  | succ n ih =>
    have all : ∀ (rs : List RV) (vs : List V) (us : List Value), rs.all (okR n) = true → Reps X.K H rs vs → Vals vs us → Dens s.heap rs us := by
      intro rs
      induction rs with
      | nil =>
        intro vs us _ h w
        simp only [Reps] at h; subst h; cases w; simp only [Dens]
      | cons x xs ihx =>
        intro vs us o h w
        simp only [Reps] at h
        obtain ⟨v, r, rfl, h1, h2⟩ := h
        obtain ⟨u, us', rfl, w1, w2⟩ := Vals.cons_inv w
        rw [List.all_cons, Bool.and_eq_true] at o
        simp only [Dens]
        exact ⟨u, us', rfl, ih x v u o.1 h1 w1, ihx r us' o.2 h2 w2⟩
    intro r v u o h w
    cases r with
    | non => simp only [Rep] at h; subst h; simp only [Den]; exact w
    | bl b => simp only [Rep] at h; subst h; simp only [Den]; exact w
    | int i => simp only [Rep] at h; subst h; simp only [Den]; exact w
    | str x => simp only [Rep] at h; subst h; simp only [Den]; exact w
    | tup xs =>
      simp only [Rep] at h
      obtain ⟨a, vs, rfl, h1, h2⟩ := h
      obtain ⟨its, rv, ht, _⟩ := I.tuple h1
      simp only [Den]
      exact ⟨a, its, w, ht, all xs vs its o h2 rv⟩
    | ls xs =>
      simp only [Rep] at h
      obtain ⟨a, vs, rfl, h1, h2⟩ := h
      obtain ⟨its, rv, ht, _⟩ := I.list h1.sq
      simp only [Den]
      exact ⟨a, its, w, ht.isList, all xs vs its o h2 rv⟩
    | _ => simp [okR] at o
end
theorem seq_inj {h : Heap} {a : Addr} {xs ys : List Value} (p : h.IsTuple a xs.toArray) (q : h.IsTuple a ys.toArray) : xs = ys := by
  obtain ⟨o, e, _, n, d⟩ := p
  obtain ⟨o', e', _, n', d'⟩ := q
  rw [e] at e'; cases e'
  rw [d] at d'
  injection d' with d1 _
  simpa using congrArg Array.toList d1
theorem lst_inj {h : Heap} {a : Addr} {xs ys : List Value} (p : h.IsList a xs.toArray) (q : h.IsList a ys.toArray) : xs = ys := by
  obtain ⟨o, e, _, n, d⟩ := p
  obtain ⟨o', e', _, n', d'⟩ := q
  rw [e] at e'; cases e'
  rw [d] at d'
  injection d' with d1 _
  simpa using congrArg Array.toList d1
theorem lt_apart {h : Heap} {a : Addr} {xs ys : Array Value} (p : h.IsList a xs) (q : h.IsTuple a ys) : False := by
  obtain ⟨o, e, c, _⟩ := p
  obtain ⟨o', e', c', _⟩ := q
  rw [e] at e'; cases e'
  rw [c] at c'
  exact absurd c' (by decide +kernel)
def isS : RV → Bool
  | .non => true
  | .bl _ => true
  | .int _ => true
  | .str _ => true
  | _ => false
def absR : Value → Option RV
  | .none => some .non
  | .bool b => some (.bl b)
  | .int i _ => some (.int i)
  | .str x _ => some (.str x)
  | _ => none
theorem den_s {h : Heap} {u : Value} : ∀ {x : RV}, isS x = true → Den h x u → absR u = some x
  | .non, _, d => by simp only [Den] at d; subst d; rfl
  | .bl _, _, d => by simp only [Den] at d; subst d; rfl
  | .int _, _, d => by simp only [Den] at d; obtain ⟨t, rfl⟩ := d; rfl
  | .str _, _, d => by simp only [Den] at d; obtain ⟨t, rfl⟩ := d; rfl
theorem den_n {h : Heap} {u : Value} : ∀ {x : RV}, isS x = false → Den h x u → absR u = none
  | .tup _, _, d => by simp only [Den] at d; obtain ⟨a, its, rfl, _⟩ := d; rfl
  | .ls _, _, d => by simp only [Den] at d; obtain ⟨a, its, rfl, _⟩ := d; rfl
  | .ref _, _, d => by simp only [Den] at d
  | .ty _, _, d => by simp only [Den] at d
theorem den_inj {h : Heap} : ∀ (n : Nat) (x y : RV) (u : Value), okR n x = true → okR n y = true → Den h x u → Den h y u → x = y := by
  intro n
  have sc : ∀ (x y : RV) (u : Value), isS x = true → Den h x u → Den h y u → x = y := by
    intro x y u sx dx dy
    have ex := den_s sx dx
    cases sy : isS y with
    | true =>
      have ey := den_s sy dy
      rw [ex] at ey
      exact Option.some.inj ey
    | false =>
      have ey := den_n sy dy
      rw [ex] at ey
      cases ey
  induction n with
  | zero =>
    intro x y u ox oy dx dy
    have sx : isS x = true := by cases x <;> first | rfl | (simp [okR] at ox)
    exact sc x y u sx dx dy
  | succ n ih =>
    have all : ∀ (xs ys : List RV) (us : List Value), xs.all (okR n) = true → ys.all (okR n) = true → Dens h xs us → Dens h ys us → xs = ys := by
      intro xs
      induction xs with
      | nil =>
        intro ys us _ _ d e
        simp only [Dens] at d; subst d
        cases ys with
        | nil => rfl
        | cons y ys => simp only [Dens] at e; obtain ⟨_, _, z, _⟩ := e; cases z
      | cons x xs ihx =>
        intro ys us ox oy d e
        simp only [Dens] at d
        obtain ⟨u, r, rfl, d1, d2⟩ := d
        cases ys with
        | nil => simp only [Dens] at e; cases e
        | cons y ys =>
          simp only [Dens] at e
          obtain ⟨u', r', z, e1, e2⟩ := e
          cases z
          rw [List.all_cons, Bool.and_eq_true] at ox oy
          rw [ih x y u ox.1 oy.1 d1 e1, ihx ys r ox.2 oy.2 d2 e2]
    intro x y u ox oy dx dy
    cases sx : isS x with
    | true => exact sc x y u sx dx dy
    | false =>
      cases sy : isS y with
      | true => exact (sc y x u sy dy dx).symm
      | false =>
        cases x with
        | tup xs =>
          simp only [Den] at dx
          obtain ⟨a, its, rfl, p, d⟩ := dx
          cases y with
          | tup ys =>
            simp only [Den] at dy
            obtain ⟨a', its', z, p', d'⟩ := dy
            cases z
            obtain rfl := seq_inj p p'
            rw [all xs ys its ox oy d d']
          | ls ys =>
            simp only [Den] at dy
            obtain ⟨a', its', z, p', d'⟩ := dy
            cases z
            exact (lt_apart p' p).elim
          | ref _ => simp only [Den] at dy
          | ty _ => simp only [Den] at dy
          | _ => cases sy
        | ls xs =>
          simp only [Den] at dx
          obtain ⟨a, its, rfl, p, d⟩ := dx
          cases y with
          | ls ys =>
            simp only [Den] at dy
            obtain ⟨a', its', z, p', d'⟩ := dy
            cases z
            obtain rfl := lst_inj p p'
            rw [all xs ys its ox oy d d']
          | tup ys =>
            simp only [Den] at dy
            obtain ⟨a', its', z, p', d'⟩ := dy
            cases z
            exact (lt_apart p p').elim
          | ref _ => simp only [Den] at dy
          | ty _ => simp only [Den] at dy
          | _ => cases sy
        | ref _ => simp only [Den] at dx
        | ty _ => simp only [Den] at dx
        | _ => cases sx
mutual
theorem eqR_refl : ∀ (x : RV), (∃ n, okR n x = true) → eqR x x = true
  | .non, _ => by simp [eqR]
  | .bl _, _ => by simp [eqR]
  | .int _, _ => by simp [eqR]
  | .str _, _ => by simp [eqR]
  | .tup xs, ⟨n, o⟩ => by
    rw [eqR]
    refine eqRs_refl xs ?_
    cases n with
    | zero => simp [okR] at o
    | succ n => exact ⟨n, o⟩
  | .ls xs, ⟨n, o⟩ => by
    rw [eqR]
    refine eqRs_refl xs ?_
    cases n with
    | zero => simp [okR] at o
    | succ n => exact ⟨n, o⟩
  | .ref _, ⟨n, o⟩ => by cases n <;> simp [okR] at o
  | .ty _, ⟨n, o⟩ => by cases n <;> simp [okR] at o
theorem eqRs_refl : ∀ (xs : List RV), (∃ n, xs.all (okR n) = true) → eqRs xs xs = true
  | [], _ => by simp [eqRs]
  | x :: xs, ⟨n, o⟩ => by
    rw [List.all_cons, Bool.and_eq_true] at o
    rw [eqRs, eqR_refl x ⟨n, o.1⟩, eqRs_refl xs ⟨n, o.2⟩]; rfl
end
abbrev pairR (xs ys : List RV) (j : Nat) : Bool := eqR (xs.getD j .non) (ys.getD j .non)
theorem eqRs_eq : ∀ xs ys : List RV, ((List.range (min xs.length ys.length)).all (pairR xs ys) && xs.length == ys.length) = eqRs xs ys
  | [], [] => by simp [eqRs]
  | [], _ :: _ => by simp [eqRs]
  | _ :: _, [] => by simp [eqRs]
  | x :: xs, y :: ys => by
    have ih := eqRs_eq xs ys
    have e1 : min (x :: xs).length (y :: ys).length = min xs.length ys.length + 1 := by simp only [List.length_cons]; omega
    have e2 : ((x :: xs).length == (y :: ys).length) = (xs.length == ys.length) := by simp
    have e3 : (List.range (min xs.length ys.length + 1)).all (pairR (x :: xs) (y :: ys)) = (eqR x y && (List.range (min xs.length ys.length)).all (pairR xs ys)) := by
      rw [List.range_succ_eq_map, List.all_cons, List.all_map]
      rfl
    rw [e1, e2, e3, eqRs, ← ih, Bool.and_assoc]
theorem eqRs_same {xs ys : List RV} (h : xs.length = ys.length) : (List.range xs.length).all (pairR xs ys) = eqRs xs ys := by
  have := eqRs_eq xs ys
  rw [← h, Nat.min_self] at this
  simpa using this
theorem eqRs_other {xs ys : List RV} (h : xs.length ≠ ys.length) : eqRs xs ys = false := by
  have := eqRs_eq xs ys
  rw [← this]
  simp [h]
theorem in1_units (A : Around) : A.in1.units = A.units + 1 := rfl
theorem eqAt_den : ∀ (n : Nat) (x y : RV) (A : Around) (s : Shared) (u w : Value), okR n x = true → okR n y = true → Den s.heap x u → Den s.heap y w → A.units + n < cLine → EqAt A s u w (eqR x y) := by
  intro n
  induction n with
  | zero =>
    intro x y A s u w ox oy dx dy hu
    cases x with
    | non =>
      simp only [Den] at dx
      cases y with
      | non =>
        simp only [Den] at dy
        subst dx
        subst dy
        simp only [eqR, Bool.not_false, Bool.not_true]
        exact EqAt.same _
      | bl y =>
        simp only [Den] at dy
        subst dx
        subst dy
        simp only [eqR, Bool.not_false, Bool.not_true]
        exact EqAt.none_bool _
      | int y =>
        simp only [Den] at dy
        subst dx
        obtain ⟨t2, rfl⟩ := dy
        simp only [eqR, Bool.not_false, Bool.not_true]
        exact EqAt.none_int _ _
      | str y =>
        simp only [Den] at dy
        subst dx
        obtain ⟨t2, rfl⟩ := dy
        simp only [eqR, Bool.not_false, Bool.not_true]
        exact EqAt.none_str _ _
      | ref y => exact (by simpa only [Den] using dy : False).elim
      | ty y => exact (by simpa only [Den] using dy : False).elim
      | tup y => simp [okR] at oy
      | ls y => simp [okR] at oy
    | bl x =>
      simp only [Den] at dx
      cases y with
      | non =>
        simp only [Den] at dy
        subst dx
        subst dy
        simp only [eqR, Bool.not_false, Bool.not_true]
        exact EqAt.bool_none _
      | bl y =>
        simp only [Den] at dy
        subst dx
        subst dy
        simp only [eqR, Bool.not_false, Bool.not_true]
        exact EqAt.bool_bool _ _
      | int y =>
        simp only [Den] at dy
        subst dx
        obtain ⟨t2, rfl⟩ := dy
        simp only [eqR, Bool.not_false, Bool.not_true]
        exact EqAt.bool_int _ _ _
      | str y =>
        simp only [Den] at dy
        subst dx
        obtain ⟨t2, rfl⟩ := dy
        simp only [eqR, Bool.not_false, Bool.not_true]
        exact EqAt.bool_str _ _ _
      | ref y => exact (by simpa only [Den] using dy : False).elim
      | ty y => exact (by simpa only [Den] using dy : False).elim
      | tup y => simp [okR] at oy
      | ls y => simp [okR] at oy
    | int x =>
      simp only [Den] at dx
      cases y with
      | non =>
        simp only [Den] at dy
        obtain ⟨t1, rfl⟩ := dx
        subst dy
        simp only [eqR, Bool.not_false, Bool.not_true]
        exact EqAt.int_none _ _
      | bl y =>
        simp only [Den] at dy
        obtain ⟨t1, rfl⟩ := dx
        subst dy
        simp only [eqR, Bool.not_false, Bool.not_true]
        exact EqAt.int_bool _ _ _
      | int y =>
        simp only [Den] at dy
        obtain ⟨t1, rfl⟩ := dx
        obtain ⟨t2, rfl⟩ := dy
        simp only [eqR, Bool.not_false, Bool.not_true]
        exact EqAt.int_int _ _ _ _
      | str y =>
        simp only [Den] at dy
        obtain ⟨t1, rfl⟩ := dx
        obtain ⟨t2, rfl⟩ := dy
        simp only [eqR, Bool.not_false, Bool.not_true]
        exact EqAt.int_str _ _ _ _
      | ref y => exact (by simpa only [Den] using dy : False).elim
      | ty y => exact (by simpa only [Den] using dy : False).elim
      | tup y => simp [okR] at oy
      | ls y => simp [okR] at oy
    | str x =>
      simp only [Den] at dx
      cases y with
      | non =>
        simp only [Den] at dy
        obtain ⟨t1, rfl⟩ := dx
        subst dy
        simp only [eqR, Bool.not_false, Bool.not_true]
        exact EqAt.str_none _ _
      | bl y =>
        simp only [Den] at dy
        obtain ⟨t1, rfl⟩ := dx
        subst dy
        simp only [eqR, Bool.not_false, Bool.not_true]
        exact EqAt.str_bool _ _ _
      | int y =>
        simp only [Den] at dy
        obtain ⟨t1, rfl⟩ := dx
        obtain ⟨t2, rfl⟩ := dy
        simp only [eqR, Bool.not_false, Bool.not_true]
        exact EqAt.str_int _ _ _ _
      | str y =>
        simp only [Den] at dy
        obtain ⟨t1, rfl⟩ := dx
        obtain ⟨t2, rfl⟩ := dy
        simp only [eqR, Bool.not_false, Bool.not_true]
        exact EqAt.str_str _ _ _ _
      | ref y => exact (by simpa only [Den] using dy : False).elim
      | ty y => exact (by simpa only [Den] using dy : False).elim
      | tup y => simp [okR] at oy
      | ls y => simp [okR] at oy
    | ref x => exact (by simpa only [Den] using dx : False).elim
    | ty x => exact (by simpa only [Den] using dx : False).elim
    | tup x => simp [okR] at ox
    | ls x => simp [okR] at ox
  | succ n ih =>
    intro x y A s u w ox oy dx dy hu
    have hu0 : A.units < cLine := by omega
    have item : ∀ (xs ys : List RV) (us ws : List Value), xs.all (okR n) = true → ys.all (okR n) = true → Dens s.heap xs us → Dens s.heap ys ws →
        ∀ j (j1 : j < us.toArray.size) (j2 : j < ws.toArray.size), EqAt A.in1 s us.toArray[j] ws.toArray[j] (pairR xs ys j) := fun xs ys us ws o1 o2 d1 d2 j j1 j2 => by
      obtain ⟨a1, b1⟩ := d1.get (j := j) (u := us.toArray[j]) (by simp)
      obtain ⟨a2, b2⟩ := d2.get (j := j) (u := ws.toArray[j]) (by simp)
      exact ih _ _ A.in1 s _ _ (List.all_eq_true.mp o1 _ b1) (List.all_eq_true.mp o2 _ b2) a1 a2 (by rw [in1_units]; omega)
    have same_EqAt_tup : ∀ (xs ys : List RV) (a a' : Addr) (its its' : List Value), s.heap.IsTuple a its.toArray → s.heap.IsTuple a' its'.toArray → Dens s.heap xs its → Dens s.heap ys its' → okR (n + 1) (.tup xs) = true → okR (n + 1) (.tup ys) = true → EqAt A s (.ref a) (.ref a') (eqR (RV.tup xs) (RV.tup ys)) := by
      intro xs ys a a' its its' p p' d d' ox oy
      by_cases ha : a = a'
      · subst ha
        obtain rfl := seq_inj p p'
        have e : RV.tup xs = RV.tup ys := den_inj (n + 1) _ _ (.ref a) ox oy (by simp only [Den]; exact ⟨a, its, rfl, p, d⟩) (by simp only [Den]; exact ⟨a, its, rfl, p, d'⟩)
        rw [← e, eqR_refl _ ⟨_, ox⟩]
        exact EqAt.same _
      refine EqAt.of_refs ha ?_
      rw [eqR, ← eqRs_eq, d.length, d'.length]
      have := RcAt.tuples p p' hu0 (item xs ys its its' ox oy d d')
      simpa using this
    have same_EqAt_ls : ∀ (xs ys : List RV) (a a' : Addr) (its its' : List Value), s.heap.IsList a its.toArray → s.heap.IsList a' its'.toArray → Dens s.heap xs its → Dens s.heap ys its' → okR (n + 1) (.ls xs) = true → okR (n + 1) (.ls ys) = true → EqAt A s (.ref a) (.ref a') (eqR (RV.ls xs) (RV.ls ys)) := by
      intro xs ys a a' its its' p p' d d' ox oy
      by_cases ha : a = a'
      · subst ha
        obtain rfl := lst_inj p p'
        have e : RV.ls xs = RV.ls ys := den_inj (n + 1) _ _ (.ref a) ox oy (by simp only [Den]; exact ⟨a, its, rfl, p, d⟩) (by simp only [Den]; exact ⟨a, its, rfl, p, d'⟩)
        rw [← e, eqR_refl _ ⟨_, ox⟩]
        exact EqAt.same _
      refine EqAt.of_refs ha ?_
      rw [eqR]
      by_cases hz : xs.length = ys.length
      · rw [← eqRs_same hz, d.length]
        have := RcAt.lists p p' (by simp [← d.length, ← d'.length, hz]) hu0 (item xs ys its its' ox oy d d')
        simpa using this
      · rw [eqRs_other hz]
        exact RcAt.lists_lengths p p' (by simp [← d.length, ← d'.length, hz]) hu0
    cases x with
    | non =>
      simp only [Den] at dx
      cases y with
      | non =>
        simp only [Den] at dy
        subst dx
        subst dy
        simp only [eqR, Bool.not_false, Bool.not_true]
        exact EqAt.same _
      | bl y =>
        simp only [Den] at dy
        subst dx
        subst dy
        simp only [eqR, Bool.not_false, Bool.not_true]
        exact EqAt.none_bool _
      | int y =>
        simp only [Den] at dy
        subst dx
        obtain ⟨t2, rfl⟩ := dy
        simp only [eqR, Bool.not_false, Bool.not_true]
        exact EqAt.none_int _ _
      | str y =>
        simp only [Den] at dy
        subst dx
        obtain ⟨t2, rfl⟩ := dy
        simp only [eqR, Bool.not_false, Bool.not_true]
        exact EqAt.none_str _ _
      | tup y =>
        simp only [Den] at dy
        subst dx
        obtain ⟨a2, its2, rfl, p2, d2⟩ := dy
        simp only [eqR, Bool.not_false, Bool.not_true]
        exact EqAt.none_tuple p2 hu0
      | ls y =>
        simp only [Den] at dy
        subst dx
        obtain ⟨a2, its2, rfl, p2, d2⟩ := dy
        simp only [eqR, Bool.not_false, Bool.not_true]
        exact EqAt.none_list p2 hu0
      | ref y => exact (by simpa only [Den] using dy : False).elim
      | ty y => exact (by simpa only [Den] using dy : False).elim
    | bl x =>
      simp only [Den] at dx
      cases y with
      | non =>
        simp only [Den] at dy
        subst dx
        subst dy
        simp only [eqR, Bool.not_false, Bool.not_true]
        exact EqAt.bool_none _
      | bl y =>
        simp only [Den] at dy
        subst dx
        subst dy
        simp only [eqR, Bool.not_false, Bool.not_true]
        exact EqAt.bool_bool _ _
      | int y =>
        simp only [Den] at dy
        subst dx
        obtain ⟨t2, rfl⟩ := dy
        simp only [eqR, Bool.not_false, Bool.not_true]
        exact EqAt.bool_int _ _ _
      | str y =>
        simp only [Den] at dy
        subst dx
        obtain ⟨t2, rfl⟩ := dy
        simp only [eqR, Bool.not_false, Bool.not_true]
        exact EqAt.bool_str _ _ _
      | tup y =>
        simp only [Den] at dy
        subst dx
        obtain ⟨a2, its2, rfl, p2, d2⟩ := dy
        simp only [eqR, Bool.not_false, Bool.not_true]
        exact EqAt.bool_tuple _ p2 hu0
      | ls y =>
        simp only [Den] at dy
        subst dx
        obtain ⟨a2, its2, rfl, p2, d2⟩ := dy
        simp only [eqR, Bool.not_false, Bool.not_true]
        exact EqAt.bool_list _ p2 hu0
      | ref y => exact (by simpa only [Den] using dy : False).elim
      | ty y => exact (by simpa only [Den] using dy : False).elim
    | int x =>
      simp only [Den] at dx
      cases y with
      | non =>
        simp only [Den] at dy
        obtain ⟨t1, rfl⟩ := dx
        subst dy
        simp only [eqR, Bool.not_false, Bool.not_true]
        exact EqAt.int_none _ _
      | bl y =>
        simp only [Den] at dy
        obtain ⟨t1, rfl⟩ := dx
        subst dy
        simp only [eqR, Bool.not_false, Bool.not_true]
        exact EqAt.int_bool _ _ _
      | int y =>
        simp only [Den] at dy
        obtain ⟨t1, rfl⟩ := dx
        obtain ⟨t2, rfl⟩ := dy
        simp only [eqR, Bool.not_false, Bool.not_true]
        exact EqAt.int_int _ _ _ _
      | str y =>
        simp only [Den] at dy
        obtain ⟨t1, rfl⟩ := dx
        obtain ⟨t2, rfl⟩ := dy
        simp only [eqR, Bool.not_false, Bool.not_true]
        exact EqAt.int_str _ _ _ _
      | tup y =>
        simp only [Den] at dy
        obtain ⟨t1, rfl⟩ := dx
        obtain ⟨a2, its2, rfl, p2, d2⟩ := dy
        simp only [eqR, Bool.not_false, Bool.not_true]
        exact EqAt.int_tuple _ _ p2 hu0
      | ls y =>
        simp only [Den] at dy
        obtain ⟨t1, rfl⟩ := dx
        obtain ⟨a2, its2, rfl, p2, d2⟩ := dy
        simp only [eqR, Bool.not_false, Bool.not_true]
        exact EqAt.int_list _ _ p2 hu0
      | ref y => exact (by simpa only [Den] using dy : False).elim
      | ty y => exact (by simpa only [Den] using dy : False).elim
    | str x =>
      simp only [Den] at dx
      cases y with
      | non =>
        simp only [Den] at dy
        obtain ⟨t1, rfl⟩ := dx
        subst dy
        simp only [eqR, Bool.not_false, Bool.not_true]
        exact EqAt.str_none _ _
      | bl y =>
        simp only [Den] at dy
        obtain ⟨t1, rfl⟩ := dx
        subst dy
        simp only [eqR, Bool.not_false, Bool.not_true]
        exact EqAt.str_bool _ _ _
      | int y =>
        simp only [Den] at dy
        obtain ⟨t1, rfl⟩ := dx
        obtain ⟨t2, rfl⟩ := dy
        simp only [eqR, Bool.not_false, Bool.not_true]
        exact EqAt.str_int _ _ _ _
      | str y =>
        simp only [Den] at dy
        obtain ⟨t1, rfl⟩ := dx
        obtain ⟨t2, rfl⟩ := dy
        simp only [eqR, Bool.not_false, Bool.not_true]
        exact EqAt.str_str _ _ _ _
      | tup y =>
        simp only [Den] at dy
        obtain ⟨t1, rfl⟩ := dx
        obtain ⟨a2, its2, rfl, p2, d2⟩ := dy
        simp only [eqR, Bool.not_false, Bool.not_true]
        exact EqAt.str_tuple _ _ p2 hu0
      | ls y =>
        simp only [Den] at dy
        obtain ⟨t1, rfl⟩ := dx
        obtain ⟨a2, its2, rfl, p2, d2⟩ := dy
        simp only [eqR, Bool.not_false, Bool.not_true]
        exact EqAt.str_list _ _ p2 hu0
      | ref y => exact (by simpa only [Den] using dy : False).elim
      | ty y => exact (by simpa only [Den] using dy : False).elim
    | tup x =>
      simp only [Den] at dx
      cases y with
      | non =>
        simp only [Den] at dy
        obtain ⟨a1, its1, rfl, p1, d1⟩ := dx
        subst dy
        simp only [eqR, Bool.not_false, Bool.not_true]
        exact EqAt.tuple_none p1 hu0
      | bl y =>
        simp only [Den] at dy
        obtain ⟨a1, its1, rfl, p1, d1⟩ := dx
        subst dy
        simp only [eqR, Bool.not_false, Bool.not_true]
        exact EqAt.tuple_bool _ p1 hu0
      | int y =>
        simp only [Den] at dy
        obtain ⟨a1, its1, rfl, p1, d1⟩ := dx
        obtain ⟨t2, rfl⟩ := dy
        simp only [eqR, Bool.not_false, Bool.not_true]
        exact EqAt.tuple_int _ _ p1 hu0
      | str y =>
        simp only [Den] at dy
        obtain ⟨a1, its1, rfl, p1, d1⟩ := dx
        obtain ⟨t2, rfl⟩ := dy
        simp only [eqR, Bool.not_false, Bool.not_true]
        exact EqAt.tuple_str _ _ p1 hu0
      | tup y =>
        simp only [Den] at dy
        obtain ⟨a1, its1, rfl, p1, d1⟩ := dx
        obtain ⟨a2, its2, rfl, p2, d2⟩ := dy
        exact same_EqAt_tup x y _ _ _ _ p1 p2 d1 d2 ox oy
      | ls y =>
        simp only [Den] at dy
        obtain ⟨a1, its1, rfl, p1, d1⟩ := dx
        obtain ⟨a2, its2, rfl, p2, d2⟩ := dy
        simp only [eqR, Bool.not_false, Bool.not_true]
        exact EqAt.tuple_list p1 p2 hu0
      | ref y => exact (by simpa only [Den] using dy : False).elim
      | ty y => exact (by simpa only [Den] using dy : False).elim
    | ls x =>
      simp only [Den] at dx
      cases y with
      | non =>
        simp only [Den] at dy
        obtain ⟨a1, its1, rfl, p1, d1⟩ := dx
        subst dy
        simp only [eqR, Bool.not_false, Bool.not_true]
        exact EqAt.list_none p1 hu0
      | bl y =>
        simp only [Den] at dy
        obtain ⟨a1, its1, rfl, p1, d1⟩ := dx
        subst dy
        simp only [eqR, Bool.not_false, Bool.not_true]
        exact EqAt.list_bool _ p1 hu0
      | int y =>
        simp only [Den] at dy
        obtain ⟨a1, its1, rfl, p1, d1⟩ := dx
        obtain ⟨t2, rfl⟩ := dy
        simp only [eqR, Bool.not_false, Bool.not_true]
        exact EqAt.list_int _ _ p1 hu0
      | str y =>
        simp only [Den] at dy
        obtain ⟨a1, its1, rfl, p1, d1⟩ := dx
        obtain ⟨t2, rfl⟩ := dy
        simp only [eqR, Bool.not_false, Bool.not_true]
        exact EqAt.list_str _ _ p1 hu0
      | tup y =>
        simp only [Den] at dy
        obtain ⟨a1, its1, rfl, p1, d1⟩ := dx
        obtain ⟨a2, its2, rfl, p2, d2⟩ := dy
        simp only [eqR, Bool.not_false, Bool.not_true]
        exact EqAt.list_tuple p1 p2 hu0
      | ls y =>
        simp only [Den] at dy
        obtain ⟨a1, its1, rfl, p1, d1⟩ := dx
        obtain ⟨a2, its2, rfl, p2, d2⟩ := dy
        exact same_EqAt_ls x y _ _ _ _ p1 p2 d1 d2 ox oy
      | ref y => exact (by simpa only [Den] using dy : False).elim
      | ty y => exact (by simpa only [Den] using dy : False).elim
    | ref x => exact (by simpa only [Den] using dx : False).elim
    | ty x => exact (by simpa only [Den] using dx : False).elim
theorem rcNeAt_den (n : Nat) (x y : RV) (A : Around) (s : Shared) (u w : Value) (ox : okR (n + 1) x = true) (oy : okR (n + 1) y = true) (dx : Den s.heap x u) (dy : Den s.heap y w) (hu : A.units + (n + 1) < cLine) : RcNeAt A s u w (!eqR x y) := by
    have hu0 : A.units < cLine := by omega
    have item : ∀ (xs ys : List RV) (us ws : List Value), xs.all (okR n) = true → ys.all (okR n) = true → Dens s.heap xs us → Dens s.heap ys ws →
        ∀ j (j1 : j < us.toArray.size) (j2 : j < ws.toArray.size), EqAt A.in1 s us.toArray[j] ws.toArray[j] (pairR xs ys j) := fun xs ys us ws o1 o2 d1 d2 j j1 j2 => by
      obtain ⟨a1, b1⟩ := d1.get (j := j) (u := us.toArray[j]) (by simp)
      obtain ⟨a2, b2⟩ := d2.get (j := j) (u := ws.toArray[j]) (by simp)
      exact eqAt_den n _ _ A.in1 s _ _ (List.all_eq_true.mp o1 _ b1) (List.all_eq_true.mp o2 _ b2) a1 a2 (by rw [in1_units]; omega)
    have same_RcNeAt_tup : ∀ (xs ys : List RV) (a a' : Addr) (its its' : List Value), s.heap.IsTuple a its.toArray → s.heap.IsTuple a' its'.toArray → Dens s.heap xs its → Dens s.heap ys its' → okR (n + 1) (.tup xs) = true → okR (n + 1) (.tup ys) = true → RcNeAt A s (.ref a) (.ref a') (!eqR (RV.tup xs) (RV.tup ys)) := by
      intro xs ys a a' its its' p p' d d' ox oy
      rw [eqR, ← eqRs_eq, d.length, d'.length]
      have := RcNeAt.tuples p p' hu0 (item xs ys its its' ox oy d d')
      simpa using this
    have same_RcNeAt_ls : ∀ (xs ys : List RV) (a a' : Addr) (its its' : List Value), s.heap.IsList a its.toArray → s.heap.IsList a' its'.toArray → Dens s.heap xs its → Dens s.heap ys its' → okR (n + 1) (.ls xs) = true → okR (n + 1) (.ls ys) = true → RcNeAt A s (.ref a) (.ref a') (!eqR (RV.ls xs) (RV.ls ys)) := by
      intro xs ys a a' its its' p p' d d' ox oy
      rw [eqR]
      by_cases hz : xs.length = ys.length
      · rw [← eqRs_same hz, d.length]
        have := RcNeAt.lists p p' (by simp [← d.length, ← d'.length, hz]) hu0 (item xs ys its its' ox oy d d')
        simpa using this
      · rw [eqRs_other hz]
        exact RcNeAt.lists_lengths p p' (by simp [← d.length, ← d'.length, hz]) hu0
    cases x with
    | non =>
      simp only [Den] at dx
      cases y with
      | non =>
        simp only [Den] at dy
        subst dx
        subst dy
        simp only [eqR, Bool.not_false, Bool.not_true]
        exact RcNeAt.none_none
      | bl y =>
        simp only [Den] at dy
        subst dx
        subst dy
        simp only [eqR, Bool.not_false, Bool.not_true]
        exact RcNeAt.none_bool _
      | int y =>
        simp only [Den] at dy
        subst dx
        obtain ⟨t2, rfl⟩ := dy
        simp only [eqR, Bool.not_false, Bool.not_true]
        exact RcNeAt.none_int _ _
      | str y =>
        simp only [Den] at dy
        subst dx
        obtain ⟨t2, rfl⟩ := dy
        simp only [eqR, Bool.not_false, Bool.not_true]
        exact RcNeAt.none_str _ _
      | tup y =>
        simp only [Den] at dy
        subst dx
        obtain ⟨a2, its2, rfl, p2, d2⟩ := dy
        simp only [eqR, Bool.not_false, Bool.not_true]
        exact RcNeAt.none_tuple p2 hu0
      | ls y =>
        simp only [Den] at dy
        subst dx
        obtain ⟨a2, its2, rfl, p2, d2⟩ := dy
        simp only [eqR, Bool.not_false, Bool.not_true]
        exact RcNeAt.none_list p2 hu0
      | ref y => exact (by simpa only [Den] using dy : False).elim
      | ty y => exact (by simpa only [Den] using dy : False).elim
    | bl x =>
      simp only [Den] at dx
      cases y with
      | non =>
        simp only [Den] at dy
        subst dx
        subst dy
        simp only [eqR, Bool.not_false, Bool.not_true]
        exact RcNeAt.bool_none _
      | bl y =>
        simp only [Den] at dy
        subst dx
        subst dy
        simp only [eqR, Bool.not_false, Bool.not_true]
        exact RcNeAt.bool_bool _ _
      | int y =>
        simp only [Den] at dy
        subst dx
        obtain ⟨t2, rfl⟩ := dy
        simp only [eqR, Bool.not_false, Bool.not_true]
        exact RcNeAt.bool_int _ _ _
      | str y =>
        simp only [Den] at dy
        subst dx
        obtain ⟨t2, rfl⟩ := dy
        simp only [eqR, Bool.not_false, Bool.not_true]
        exact RcNeAt.bool_str _ _ _
      | tup y =>
        simp only [Den] at dy
        subst dx
        obtain ⟨a2, its2, rfl, p2, d2⟩ := dy
        simp only [eqR, Bool.not_false, Bool.not_true]
        exact RcNeAt.bool_tuple _ p2 hu0
      | ls y =>
        simp only [Den] at dy
        subst dx
        obtain ⟨a2, its2, rfl, p2, d2⟩ := dy
        simp only [eqR, Bool.not_false, Bool.not_true]
        exact RcNeAt.bool_list _ p2 hu0
      | ref y => exact (by simpa only [Den] using dy : False).elim
      | ty y => exact (by simpa only [Den] using dy : False).elim
    | int x =>
      simp only [Den] at dx
      cases y with
      | non =>
        simp only [Den] at dy
        obtain ⟨t1, rfl⟩ := dx
        subst dy
        simp only [eqR, Bool.not_false, Bool.not_true]
        exact RcNeAt.int_none _ _
      | bl y =>
        simp only [Den] at dy
        obtain ⟨t1, rfl⟩ := dx
        subst dy
        simp only [eqR, Bool.not_false, Bool.not_true]
        exact RcNeAt.int_bool _ _ _
      | int y =>
        simp only [Den] at dy
        obtain ⟨t1, rfl⟩ := dx
        obtain ⟨t2, rfl⟩ := dy
        simp only [eqR, Bool.not_false, Bool.not_true]
        exact RcNeAt.int_int _ _ _ _
      | str y =>
        simp only [Den] at dy
        obtain ⟨t1, rfl⟩ := dx
        obtain ⟨t2, rfl⟩ := dy
        simp only [eqR, Bool.not_false, Bool.not_true]
        exact RcNeAt.int_str _ _ _ _
      | tup y =>
        simp only [Den] at dy
        obtain ⟨t1, rfl⟩ := dx
        obtain ⟨a2, its2, rfl, p2, d2⟩ := dy
        simp only [eqR, Bool.not_false, Bool.not_true]
        exact RcNeAt.int_tuple _ _ p2 hu0
      | ls y =>
        simp only [Den] at dy
        obtain ⟨t1, rfl⟩ := dx
        obtain ⟨a2, its2, rfl, p2, d2⟩ := dy
        simp only [eqR, Bool.not_false, Bool.not_true]
        exact RcNeAt.int_list _ _ p2 hu0
      | ref y => exact (by simpa only [Den] using dy : False).elim
      | ty y => exact (by simpa only [Den] using dy : False).elim
    | str x =>
      simp only [Den] at dx
      cases y with
      | non =>
        simp only [Den] at dy
        obtain ⟨t1, rfl⟩ := dx
        subst dy
        simp only [eqR, Bool.not_false, Bool.not_true]
        exact RcNeAt.str_none _ _
      | bl y =>
        simp only [Den] at dy
        obtain ⟨t1, rfl⟩ := dx
        subst dy
        simp only [eqR, Bool.not_false, Bool.not_true]
        exact RcNeAt.str_bool _ _ _
      | int y =>
        simp only [Den] at dy
        obtain ⟨t1, rfl⟩ := dx
        obtain ⟨t2, rfl⟩ := dy
        simp only [eqR, Bool.not_false, Bool.not_true]
        exact RcNeAt.str_int _ _ _ _
      | str y =>
        simp only [Den] at dy
        obtain ⟨t1, rfl⟩ := dx
        obtain ⟨t2, rfl⟩ := dy
        simp only [eqR, Bool.not_false, Bool.not_true]
        exact RcNeAt.str_str _ _ _ _
      | tup y =>
        simp only [Den] at dy
        obtain ⟨t1, rfl⟩ := dx
        obtain ⟨a2, its2, rfl, p2, d2⟩ := dy
        simp only [eqR, Bool.not_false, Bool.not_true]
        exact RcNeAt.str_tuple _ _ p2 hu0
      | ls y =>
        simp only [Den] at dy
        obtain ⟨t1, rfl⟩ := dx
        obtain ⟨a2, its2, rfl, p2, d2⟩ := dy
        simp only [eqR, Bool.not_false, Bool.not_true]
        exact RcNeAt.str_list _ _ p2 hu0
      | ref y => exact (by simpa only [Den] using dy : False).elim
      | ty y => exact (by simpa only [Den] using dy : False).elim
    | tup x =>
      simp only [Den] at dx
      cases y with
      | non =>
        simp only [Den] at dy
        obtain ⟨a1, its1, rfl, p1, d1⟩ := dx
        subst dy
        simp only [eqR, Bool.not_false, Bool.not_true]
        exact RcNeAt.tuple_none p1 hu0
      | bl y =>
        simp only [Den] at dy
        obtain ⟨a1, its1, rfl, p1, d1⟩ := dx
        subst dy
        simp only [eqR, Bool.not_false, Bool.not_true]
        exact RcNeAt.tuple_bool _ p1 hu0
      | int y =>
        simp only [Den] at dy
        obtain ⟨a1, its1, rfl, p1, d1⟩ := dx
        obtain ⟨t2, rfl⟩ := dy
        simp only [eqR, Bool.not_false, Bool.not_true]
        exact RcNeAt.tuple_int _ _ p1 hu0
      | str y =>
        simp only [Den] at dy
        obtain ⟨a1, its1, rfl, p1, d1⟩ := dx
        obtain ⟨t2, rfl⟩ := dy
        simp only [eqR, Bool.not_false, Bool.not_true]
        exact RcNeAt.tuple_str _ _ p1 hu0
      | tup y =>
        simp only [Den] at dy
        obtain ⟨a1, its1, rfl, p1, d1⟩ := dx
        obtain ⟨a2, its2, rfl, p2, d2⟩ := dy
        exact same_RcNeAt_tup x y _ _ _ _ p1 p2 d1 d2 ox oy
      | ls y =>
        simp only [Den] at dy
        obtain ⟨a1, its1, rfl, p1, d1⟩ := dx
        obtain ⟨a2, its2, rfl, p2, d2⟩ := dy
        simp only [eqR, Bool.not_false, Bool.not_true]
        exact RcNeAt.tuple_list p1 p2 hu0
      | ref y => exact (by simpa only [Den] using dy : False).elim
      | ty y => exact (by simpa only [Den] using dy : False).elim
    | ls x =>
      simp only [Den] at dx
      cases y with
      | non =>
        simp only [Den] at dy
        obtain ⟨a1, its1, rfl, p1, d1⟩ := dx
        subst dy
        simp only [eqR, Bool.not_false, Bool.not_true]
        exact RcNeAt.list_none p1 hu0
      | bl y =>
        simp only [Den] at dy
        obtain ⟨a1, its1, rfl, p1, d1⟩ := dx
        subst dy
        simp only [eqR, Bool.not_false, Bool.not_true]
        exact RcNeAt.list_bool _ p1 hu0
      | int y =>
        simp only [Den] at dy
        obtain ⟨a1, its1, rfl, p1, d1⟩ := dx
        obtain ⟨t2, rfl⟩ := dy
        simp only [eqR, Bool.not_false, Bool.not_true]
        exact RcNeAt.list_int _ _ p1 hu0
      | str y =>
        simp only [Den] at dy
        obtain ⟨a1, its1, rfl, p1, d1⟩ := dx
        obtain ⟨t2, rfl⟩ := dy
        simp only [eqR, Bool.not_false, Bool.not_true]
        exact RcNeAt.list_str _ _ p1 hu0
      | tup y =>
        simp only [Den] at dy
        obtain ⟨a1, its1, rfl, p1, d1⟩ := dx
        obtain ⟨a2, its2, rfl, p2, d2⟩ := dy
        simp only [eqR, Bool.not_false, Bool.not_true]
        exact RcNeAt.list_tuple p1 p2 hu0
      | ls y =>
        simp only [Den] at dy
        obtain ⟨a1, its1, rfl, p1, d1⟩ := dx
        obtain ⟨a2, its2, rfl, p2, d2⟩ := dy
        exact same_RcNeAt_ls x y _ _ _ _ p1 p2 d1 d2 ox oy
      | ref y => exact (by simpa only [Den] using dy : False).elim
      | ty y => exact (by simpa only [Den] using dy : False).elim
    | ref x => exact (by simpa only [Den] using dx : False).elim
    | ty x => exact (by simpa only [Den] using dx : False).elim
theorem rcAt_den (n : Nat) (x y : RV) (A : Around) (s : Shared) (u w : Value) (ox : okR (n + 1) x = true) (oy : okR (n + 1) y = true) (dx : Den s.heap x u) (dy : Den s.heap y w) (hu : A.units + (n + 1) < cLine) : RcAt A s u w (eqR x y) := by
    have hu0 : A.units < cLine := by omega
    have item : ∀ (xs ys : List RV) (us ws : List Value), xs.all (okR n) = true → ys.all (okR n) = true → Dens s.heap xs us → Dens s.heap ys ws →
        ∀ j (j1 : j < us.toArray.size) (j2 : j < ws.toArray.size), EqAt A.in1 s us.toArray[j] ws.toArray[j] (pairR xs ys j) := fun xs ys us ws o1 o2 d1 d2 j j1 j2 => by
      obtain ⟨a1, b1⟩ := d1.get (j := j) (u := us.toArray[j]) (by simp)
      obtain ⟨a2, b2⟩ := d2.get (j := j) (u := ws.toArray[j]) (by simp)
      exact eqAt_den n _ _ A.in1 s _ _ (List.all_eq_true.mp o1 _ b1) (List.all_eq_true.mp o2 _ b2) a1 a2 (by rw [in1_units]; omega)
    have same_RcAt_tup : ∀ (xs ys : List RV) (a a' : Addr) (its its' : List Value), s.heap.IsTuple a its.toArray → s.heap.IsTuple a' its'.toArray → Dens s.heap xs its → Dens s.heap ys its' → okR (n + 1) (.tup xs) = true → okR (n + 1) (.tup ys) = true → RcAt A s (.ref a) (.ref a') (eqR (RV.tup xs) (RV.tup ys)) := by
      intro xs ys a a' its its' p p' d d' ox oy
      rw [eqR, ← eqRs_eq, d.length, d'.length]
      have := RcAt.tuples p p' hu0 (item xs ys its its' ox oy d d')
      simpa using this
    have same_RcAt_ls : ∀ (xs ys : List RV) (a a' : Addr) (its its' : List Value), s.heap.IsList a its.toArray → s.heap.IsList a' its'.toArray → Dens s.heap xs its → Dens s.heap ys its' → okR (n + 1) (.ls xs) = true → okR (n + 1) (.ls ys) = true → RcAt A s (.ref a) (.ref a') (eqR (RV.ls xs) (RV.ls ys)) := by
      intro xs ys a a' its its' p p' d d' ox oy
      rw [eqR]
      by_cases hz : xs.length = ys.length
      · rw [← eqRs_same hz, d.length]
        have := RcAt.lists p p' (by simp [← d.length, ← d'.length, hz]) hu0 (item xs ys its its' ox oy d d')
        simpa using this
      · rw [eqRs_other hz]
        exact RcAt.lists_lengths p p' (by simp [← d.length, ← d'.length, hz]) hu0
    cases x with
    | non =>
      simp only [Den] at dx
      cases y with
      | non =>
        simp only [Den] at dy
        subst dx
        subst dy
        simp only [eqR, Bool.not_false, Bool.not_true]
        exact RcAt.none_none
      | bl y =>
        simp only [Den] at dy
        subst dx
        subst dy
        simp only [eqR, Bool.not_false, Bool.not_true]
        exact RcAt.none_bool _
      | int y =>
        simp only [Den] at dy
        subst dx
        obtain ⟨t2, rfl⟩ := dy
        simp only [eqR, Bool.not_false, Bool.not_true]
        exact RcAt.none_int _ _
      | str y =>
        simp only [Den] at dy
        subst dx
        obtain ⟨t2, rfl⟩ := dy
        simp only [eqR, Bool.not_false, Bool.not_true]
        exact RcAt.none_str _ _
      | tup y =>
        simp only [Den] at dy
        subst dx
        obtain ⟨a2, its2, rfl, p2, d2⟩ := dy
        simp only [eqR, Bool.not_false, Bool.not_true]
        exact RcAt.none_tuple p2 hu0
      | ls y =>
        simp only [Den] at dy
        subst dx
        obtain ⟨a2, its2, rfl, p2, d2⟩ := dy
        simp only [eqR, Bool.not_false, Bool.not_true]
        exact RcAt.none_list p2 hu0
      | ref y => exact (by simpa only [Den] using dy : False).elim
      | ty y => exact (by simpa only [Den] using dy : False).elim
    | bl x =>
      simp only [Den] at dx
      cases y with
      | non =>
        simp only [Den] at dy
        subst dx
        subst dy
        simp only [eqR, Bool.not_false, Bool.not_true]
        exact RcAt.bool_none _
      | bl y =>
        simp only [Den] at dy
        subst dx
        subst dy
        simp only [eqR, Bool.not_false, Bool.not_true]
        exact RcAt.bool_bool _ _
      | int y =>
        simp only [Den] at dy
        subst dx
        obtain ⟨t2, rfl⟩ := dy
        simp only [eqR, Bool.not_false, Bool.not_true]
        exact RcAt.bool_int _ _ _
      | str y =>
        simp only [Den] at dy
        subst dx
        obtain ⟨t2, rfl⟩ := dy
        simp only [eqR, Bool.not_false, Bool.not_true]
        exact RcAt.bool_str _ _ _
      | tup y =>
        simp only [Den] at dy
        subst dx
        obtain ⟨a2, its2, rfl, p2, d2⟩ := dy
        simp only [eqR, Bool.not_false, Bool.not_true]
        exact RcAt.bool_tuple _ p2 hu0
      | ls y =>
        simp only [Den] at dy
        subst dx
        obtain ⟨a2, its2, rfl, p2, d2⟩ := dy
        simp only [eqR, Bool.not_false, Bool.not_true]
        exact RcAt.bool_list _ p2 hu0
      | ref y => exact (by simpa only [Den] using dy : False).elim
      | ty y => exact (by simpa only [Den] using dy : False).elim
    | int x =>
      simp only [Den] at dx
      cases y with
      | non =>
        simp only [Den] at dy
        obtain ⟨t1, rfl⟩ := dx
        subst dy
        simp only [eqR, Bool.not_false, Bool.not_true]
        exact RcAt.int_none _ _
      | bl y =>
        simp only [Den] at dy
        obtain ⟨t1, rfl⟩ := dx
        subst dy
        simp only [eqR, Bool.not_false, Bool.not_true]
        exact RcAt.int_bool _ _ _
      | int y =>
        simp only [Den] at dy
        obtain ⟨t1, rfl⟩ := dx
        obtain ⟨t2, rfl⟩ := dy
        simp only [eqR, Bool.not_false, Bool.not_true]
        exact RcAt.int_int _ _ _ _
      | str y =>
        simp only [Den] at dy
        obtain ⟨t1, rfl⟩ := dx
        obtain ⟨t2, rfl⟩ := dy
        simp only [eqR, Bool.not_false, Bool.not_true]
        exact RcAt.int_str _ _ _ _
      | tup y =>
        simp only [Den] at dy
        obtain ⟨t1, rfl⟩ := dx
        obtain ⟨a2, its2, rfl, p2, d2⟩ := dy
        simp only [eqR, Bool.not_false, Bool.not_true]
        exact RcAt.int_tuple _ _ p2 hu0
      | ls y =>
        simp only [Den] at dy
        obtain ⟨t1, rfl⟩ := dx
        obtain ⟨a2, its2, rfl, p2, d2⟩ := dy
        simp only [eqR, Bool.not_false, Bool.not_true]
        exact RcAt.int_list _ _ p2 hu0
      | ref y => exact (by simpa only [Den] using dy : False).elim
      | ty y => exact (by simpa only [Den] using dy : False).elim
    | str x =>
      simp only [Den] at dx
      cases y with
      | non =>
        simp only [Den] at dy
        obtain ⟨t1, rfl⟩ := dx
        subst dy
        simp only [eqR, Bool.not_false, Bool.not_true]
        exact RcAt.str_none _ _
      | bl y =>
        simp only [Den] at dy
        obtain ⟨t1, rfl⟩ := dx
        subst dy
        simp only [eqR, Bool.not_false, Bool.not_true]
        exact RcAt.str_bool _ _ _
      | int y =>
        simp only [Den] at dy
        obtain ⟨t1, rfl⟩ := dx
        obtain ⟨t2, rfl⟩ := dy
        simp only [eqR, Bool.not_false, Bool.not_true]
        exact RcAt.str_int _ _ _ _
      | str y =>
        simp only [Den] at dy
        obtain ⟨t1, rfl⟩ := dx
        obtain ⟨t2, rfl⟩ := dy
        simp only [eqR, Bool.not_false, Bool.not_true]
        exact RcAt.str_str _ _ _ _
      | tup y =>
        simp only [Den] at dy
        obtain ⟨t1, rfl⟩ := dx
        obtain ⟨a2, its2, rfl, p2, d2⟩ := dy
        simp only [eqR, Bool.not_false, Bool.not_true]
        exact RcAt.str_tuple _ _ p2 hu0
      | ls y =>
        simp only [Den] at dy
        obtain ⟨t1, rfl⟩ := dx
        obtain ⟨a2, its2, rfl, p2, d2⟩ := dy
        simp only [eqR, Bool.not_false, Bool.not_true]
        exact RcAt.str_list _ _ p2 hu0
      | ref y => exact (by simpa only [Den] using dy : False).elim
      | ty y => exact (by simpa only [Den] using dy : False).elim
    | tup x =>
      simp only [Den] at dx
      cases y with
      | non =>
        simp only [Den] at dy
        obtain ⟨a1, its1, rfl, p1, d1⟩ := dx
        subst dy
        simp only [eqR, Bool.not_false, Bool.not_true]
        exact RcAt.tuple_none p1 hu0
      | bl y =>
        simp only [Den] at dy
        obtain ⟨a1, its1, rfl, p1, d1⟩ := dx
        subst dy
        simp only [eqR, Bool.not_false, Bool.not_true]
        exact RcAt.tuple_bool _ p1 hu0
      | int y =>
        simp only [Den] at dy
        obtain ⟨a1, its1, rfl, p1, d1⟩ := dx
        obtain ⟨t2, rfl⟩ := dy
        simp only [eqR, Bool.not_false, Bool.not_true]
        exact RcAt.tuple_int _ _ p1 hu0
      | str y =>
        simp only [Den] at dy
        obtain ⟨a1, its1, rfl, p1, d1⟩ := dx
        obtain ⟨t2, rfl⟩ := dy
        simp only [eqR, Bool.not_false, Bool.not_true]
        exact RcAt.tuple_str _ _ p1 hu0
      | tup y =>
        simp only [Den] at dy
        obtain ⟨a1, its1, rfl, p1, d1⟩ := dx
        obtain ⟨a2, its2, rfl, p2, d2⟩ := dy
        exact same_RcAt_tup x y _ _ _ _ p1 p2 d1 d2 ox oy
      | ls y =>
        simp only [Den] at dy
        obtain ⟨a1, its1, rfl, p1, d1⟩ := dx
        obtain ⟨a2, its2, rfl, p2, d2⟩ := dy
        simp only [eqR, Bool.not_false, Bool.not_true]
        exact RcAt.tuple_list p1 p2 hu0
      | ref y => exact (by simpa only [Den] using dy : False).elim
      | ty y => exact (by simpa only [Den] using dy : False).elim
    | ls x =>
      simp only [Den] at dx
      cases y with
      | non =>
        simp only [Den] at dy
        obtain ⟨a1, its1, rfl, p1, d1⟩ := dx
        subst dy
        simp only [eqR, Bool.not_false, Bool.not_true]
        exact RcAt.list_none p1 hu0
      | bl y =>
        simp only [Den] at dy
        obtain ⟨a1, its1, rfl, p1, d1⟩ := dx
        subst dy
        simp only [eqR, Bool.not_false, Bool.not_true]
        exact RcAt.list_bool _ p1 hu0
      | int y =>
        simp only [Den] at dy
        obtain ⟨a1, its1, rfl, p1, d1⟩ := dx
        obtain ⟨t2, rfl⟩ := dy
        simp only [eqR, Bool.not_false, Bool.not_true]
        exact RcAt.list_int _ _ p1 hu0
      | str y =>
        simp only [Den] at dy
        obtain ⟨a1, its1, rfl, p1, d1⟩ := dx
        obtain ⟨t2, rfl⟩ := dy
        simp only [eqR, Bool.not_false, Bool.not_true]
        exact RcAt.list_str _ _ p1 hu0
      | tup y =>
        simp only [Den] at dy
        obtain ⟨a1, its1, rfl, p1, d1⟩ := dx
        obtain ⟨a2, its2, rfl, p2, d2⟩ := dy
        simp only [eqR, Bool.not_false, Bool.not_true]
        exact RcAt.list_tuple p1 p2 hu0
      | ls y =>
        simp only [Den] at dy
        obtain ⟨a1, its1, rfl, p1, d1⟩ := dx
        obtain ⟨a2, its2, rfl, p2, d2⟩ := dy
        exact same_RcAt_ls x y _ _ _ _ p1 p2 d1 d2 ox oy
      | ref y => exact (by simpa only [Den] using dy : False).elim
      | ty y => exact (by simpa only [Den] using dy : False).elim
    | ref x => exact (by simpa only [Den] using dx : False).elim
    | ty x => exact (by simpa only [Den] using dx : False).elim
end R

set_option Elab.async false
set_option linter.all false
set_option maxRecDepth 100000
set_option maxHeartbeats 1000000
namespace R
open PySem PySem.Spec PyProof.Rows L2
section
variable {X : Cx}
/-! ### ints -/
theorem ropI {f : Value → Value → Sem Value} {r : R2} {rr : RR2} (h : OpR X f r) (ri : ∀ (i j : Int) M Q (H : Hp) (Q0 : VK), rr (.int i) (.int j) M Q → (∀ z : RV, Q z M → ∀ v, Rep X.K H z v → Q0 v H) → r (.int i) (.int j) H Q0)
    (no : ∀ x y M Q, rr x y M Q → ∃ i j, x = .int i ∧ y = .int j) : ROp X f rr := by
  intro pins s σ H x y v u Q0 I rx ry h'
  obtain ⟨a, b, M, Q, ra, rb, hv, hq, hk⟩ := h'
  obtain ⟨i, j, rfl, rfl⟩ := no a b M Q hq
  simp only [Rep] at ra rb
  subst ra; subst rb
  exact h pins s σ H _ _ v u Q0 I rx ry (ri i j M Q H Q0 hq fun z q v' rz => hk z M v' H q (.refl H) hv rz)
def rInt2 (C : Int → Int → Prop) (g : Int → Int → RV) : RR2 := fun x y M Q => match x, y with | .int i, .int j => C i j ∧ Q (g i j) M | _, _ => False
def rInt0 (g : Int → Int → RV) : RR2 := fun x y M Q => match x, y with | .int i, .int j => Q (g i j) M | _, _ => False
theorem rInt2_no {C : Int → Int → Prop} {g : Int → Int → RV} (x y : RV) (M : RM) (Q : RVK) (h : rInt2 C g x y M Q) : ∃ i j, x = .int i ∧ y = .int j := by
  unfold rInt2 at h
  split at h
  · exact ⟨_, _, rfl, rfl⟩
  · exact h.elim
theorem rInt0_no {g : Int → Int → RV} (x y : RV) (M : RM) (Q : RVK) (h : rInt0 g x y M Q) : ∃ i j, x = .int i ∧ y = .int j := by
  unfold rInt0 at h
  split at h
  · exact ⟨_, _, rfl, rfl⟩
  · exact h.elim
abbrev rSub : RR2 := rInt0 fun i j => .int (i - j)
theorem osub : ROp X (binaryOp .Sub) rSub := ropI op_sub (fun i j M Q H Q0 h k => ⟨i, j, rfl, rfl, k _ h _ (by simp only [Rep])⟩) rInt0_no
abbrev rMod : RR2 := rInt2 (fun _ j => 0 < j) fun i j => .int (i % j)
theorem omod : ROp X (binaryOp .Mod) rMod := ropI op_mod (fun i j M Q H Q0 h k => ⟨i, j, rfl, rfl, h.1, k _ h.2 _ (by simp only [Rep])⟩) rInt2_no
abbrev rDiv : RR2 := rInt2 (fun _ j => 0 < j ∧ j < 1073741824) fun i j => .int (i / j)
theorem odiv : ROp X (binaryOp .FloorDiv) rDiv := ropI op_fdiv (fun i j M Q H Q0 h k => ⟨i, j, rfl, rfl, h.1, k _ h.2 _ (by simp only [Rep])⟩) rInt2_no
abbrev rPow : RR2 := rInt2 (fun i j => 0 ≤ j ∧ j ≤ 1000000 ∧ i.natAbs < 2 ^ 64) fun i j => .int (i ^ j.toNat)
theorem opow : ROp X (binaryOp .Pow) rPow := ropI op_pow (fun i j M Q H Q0 h k => ⟨i, j, rfl, rfl, h.1, k _ h.2 _ (by simp only [Rep])⟩) rInt2_no
abbrev rShr : RR2 := rInt2 (fun _ j => 0 ≤ j) fun i j => .int (i / 2 ^ j.toNat)
theorem oshr : ROp X (binaryOp .RShift) rShr := ropI op_shr (fun i j M Q H Q0 h k => ⟨i, j, rfl, rfl, h.1, k _ h.2 _ (by simp only [Rep])⟩) rInt2_no
abbrev rBand : RR2 := rInt0 fun i j => .int (Builtin.bitAnd i j)
theorem oband : ROp X (binaryOp .BitAnd) rBand := ropI op_and (fun i j M Q H Q0 h k => ⟨i, j, rfl, rfl, k _ h _ (by simp only [Rep])⟩) rInt0_no
abbrev rLt : RR2 := rInt0 fun i j => .bl (decide (i < j))
theorem olt : ROp X (compareOp .Lt) rLt := ropI op_lt (fun i j M Q H Q0 h k => ⟨i, j, rfl, rfl, k _ h _ (by simp only [Rep])⟩) rInt0_no
abbrev rLe : RR2 := rInt0 fun i j => .bl (decide (i ≤ j))
theorem ole : ROp X (compareOp .LtE) rLe := ropI op_le (fun i j M Q H Q0 h k => ⟨i, j, rfl, rfl, k _ h _ (by simp only [Rep])⟩) rInt0_no
abbrev rGt : RR2 := rInt0 fun i j => .bl (decide (j < i))
theorem ogt : ROp X (compareOp .Gt) rGt := ropI op_gt (fun i j M Q H Q0 h k => ⟨i, j, rfl, rfl, k _ h _ (by simp only [Rep])⟩) rInt0_no
abbrev rGe : RR2 := rInt0 fun i j => .bl (decide (j ≤ i))
theorem oge : ROp X (compareOp .GtE) rGe := ropI op_ge (fun i j M Q H Q0 h k => ⟨i, j, rfl, rfl, k _ h _ (by simp only [Rep])⟩) rInt0_no
def rgNeg : RV → RM → RVK → Prop := fun x M Q => match x with | .int i => Q (.int (-i)) M | _ => False
theorem oneg : UnR X (unaryOp .USub) (upU X.K rgNeg) := by
  intro pins s σ H x v Q0 I rx h
  obtain ⟨a, M, Q, ra, hv, hq, hk⟩ := h
  cases a with
  | int i => simp only [Rep] at ra; exact un_neg pins s σ H x v Q0 I rx ⟨i, ra, hk _ M _ H hq (.refl H) hv (by simp only [Rep])⟩
  | _ => exact (show False from hq).elim
/-! ### products: ints, and a list that a display made, times an int -/
def rMul : RR2 := fun x y M Q => match x, y with
  | .int i, .int j => CMul i j ∧ Q (.int (i * j)) M
  | .ref a, .int k => ∃ xs, M a = some (.lst xs) ∧ -(2 ^ 63) ≤ k ∧ k < 2 ^ 63 ∧ xs.length * k.toNat ≤ sizeLine ∧ Q (.ls (List.replicate k.toNat xs).flatten) M
  | _, _ => False
theorem reps_flat {K : PySem.W.Frag} {H : Hp} {xs : List RV} {vs : List V} (r : Reps K H xs vs) : ∀ n : Nat, Reps K H (List.replicate n xs).flatten (List.replicate n vs).flatten
  | 0 => by simpa using Reps.nil
  | n + 1 => by
    rw [List.replicate_succ, List.flatten_cons, List.replicate_succ, List.flatten_cons]
    exact r.append (reps_flat r n)
theorem omul : ROp X (binaryOp .Mult) rMul := by
  intro pins s σ H x y v u Q0 I rx ry h
  obtain ⟨a, b, M, Q, ra, rb, hv, hq, hk⟩ := h
  cases a with
  | int i =>
    cases b with
    | int j => simp only [Rep] at ra rb; exact op_mul pins s σ H x y v u Q0 I rx ry ⟨i, j, ra, rb, hq.1, hk _ M _ H hq.2 (.refl H) hv (by simp only [Rep])⟩
    | _ => exact (show False from hq).elim
  | ref p =>
    cases b with
    | int k =>
      simp only [Rep] at ra rb
      obtain ⟨xs, hm, h1, h2, h3, h4⟩ := hq
      obtain ⟨ho, e, r⟩ := hv p _ hm
      obtain ⟨vs, rfl, rr⟩ := r
      refine thn (op_rep pins s σ H x y v u (fun v H' => ∃ H1 p xs, v = .ref p ∧ H1 p = none ∧ H' = upd H1 p (.lst xs) ∧ ∀ o, Q0 (.ref p) (upd H1 p (.frz o (.lst xs)))) I rx ry ⟨p, k, vs, ra, rb, e, h1, h2, by rw [← rr.length]; exact h3, fun q hq => ⟨H, q, _, rfl, hq, rfl, fun o => ?_⟩⟩) fun _ _ e => frozen e
      exact hk _ M _ _ h4 (Ext.new hq) (hv.new hq) (rep_ls hq (reps_flat rr _))
    | _ => exact (show False from hq).elim
  | _ => cases b <;> exact (show False from hq).elim
/-! ### + -/
def rAdd : RR2 := fun x y M Q => match x, y with
  | .int i, .int j => Q (.int (i + j)) M
  | .str i, .str j => i.length + j.length ≤ sizeLine ∧ Q (.str (i ++ j)) M
  | .tup xs, .tup ys => xs.length + ys.length ≤ sizeLine ∧ Q (.tup (xs ++ ys)) M
  | .ls xs, .ls ys => xs.length + ys.length ≤ sizeLine ∧ Q (.ls (xs ++ ys)) M
  | _, _ => False
theorem cat_tup0 {prog : Program} {w : World} {A : Around} {E : Value → Shared → Prop} {s : Shared} {t b : Addr} {ws : List Value} {Q : Value → Shared → Prop} (ht : IsTup s.heap t ([] : List Value).toArray) (hb : IsTup s.heap b ws.toArray) (h : Q (.ref b) s) :
    wpAny (model prog w) A (binaryOp .Add (.ref t) (.ref b)) Q E s := by
  obtain ⟨⟨cls, dd, data, sl⟩, ho, hc, n, hd⟩ := id ht
  obtain ⟨⟨cls2, dd2, data2, sl2⟩, ho2, hc2, n2, hd2⟩ := id hb
  simp only at hc hd hc2 hd2
  subst hc hd hc2 hd2
  exact concat_meets ⟨_, ho, rfl⟩ ⟨_, ho2, rfl⟩ noFill_tuple_add seq_tuple_add PySem.F.slot_tuple_add PySem.F.entry_tuple_add (PySem.F.args_tuple_add_2 _ _)
      (tuple_addW0 t b [].toArray ws.toArray n n2 dd dd2 sl sl2 (by simp)) ⟨ho, ho2, h⟩
theorem cat_lst {prog : Program} {w : World} {A : Around} {E : Value → Shared → Prop} {s : Shared} {l b : Addr} {vs ws : List Value} {Q : Value → Shared → Prop} (hl : s.heap.IsList l vs.toArray) (hb : s.heap.IsList b ws.toArray)
    (h : Q (.ref s.heap.objs.size) { s with heap := s.heap.push { cls := .type "list", data := .seq (vs ++ ws).toArray } }) (hsz : vs.length + ws.length ≤ sizeLine) :
    wpAny (model prog w) A (binaryOp .Add (.ref l) (.ref b)) Q E s := by
  obtain ⟨⟨cls, dd, data, sl⟩, ho, hc, n, hd⟩ := id hl
  obtain ⟨⟨cls2, dd2, data2, sl2⟩, ho2, hc2, n2, hd2⟩ := id hb
  simp only at hc hd hc2 hd2
  subst hc hd hc2 hd2
  have e : vs.toArray ++ ws.toArray = (vs ++ ws).toArray := by simp
  refine concat_meets ⟨_, ho, rfl⟩ ⟨_, ho2, rfl⟩ noFill_list_add seq_list_add PySem.F.slot_list_add PySem.F.entry_list_add (PySem.F.args_list_add_2 _ _) (list_addW l b vs.toArray ws.toArray n n2 dd dd2 sl sl2 (by simpa using hsz)) ⟨ho, ho2, ?_⟩
  rw [e]
  exact h
theorem oadd : ROp X (binaryOp .Add) rAdd := by
  intro pins s σ H x y v u Q0 I rx ry h
  obtain ⟨a, b, M, Q, ra, rb, hv, hq, hk⟩ := h
  cases a with
  | int i =>
    cases b with
    | int j => simp only [Rep] at ra rb; exact op_add pins s σ H x y v u Q0 I rx ry ⟨i, j, ra, rb, hk _ M _ H hq (.refl H) hv (by simp only [Rep])⟩
    | _ => exact (show False from hq).elim
  | str i =>
    cases b with
    | str j => simp only [Rep] at ra rb; exact op_add_str pins s σ H x y v u Q0 I rx ry ⟨i, j, ra, rb, hq.1, hk _ M _ H hq.2 (.refl H) hv (by simp only [Rep])⟩
    | _ => exact (show False from hq).elim
  | tup xs =>
    cases b with
    | tup ys =>
      obtain ⟨hz, hq⟩ := hq
      simp only [Rep] at ra rb
      obtain ⟨p, vs, rfl, hp, hr⟩ := ra
      obtain ⟨q, ws, rfl, hp2, hr2⟩ := rb
      by_cases hn : vs = []
      · subst hn
        have hx : xs = [] := by have := hr.length; simpa using this
        subst hx
        cases rx; cases ry
        obtain ⟨its, r1, p1, _⟩ := I.tuple hp
        obtain ⟨its2, r2, p2, _⟩ := I.tuple hp2
        cases r1
        exact cat_tup0 p1 p2 ⟨.ref q, H, I, rfl, hk _ M _ H hq (.refl H) hv (by simp only [Rep, List.nil_append]; exact ⟨q, ws, rfl, hp2, hr2⟩)⟩
      · refine op_catT pins s σ H _ _ v u Q0 I rx ry ⟨p, q, vs, ws, rfl, rfl, hp, hp2, hn, by rw [← hr.length, ← hr2.length]; exact hz, fun e => ?_, fun e l hl => ?_⟩
        · subst e
          have hy : ys = [] := by have := hr2.length; simpa using this
          subst hy
          exact hk _ M _ H hq (.refl H) hv (by simp only [Rep, List.append_nil]; exact ⟨p, vs, rfl, hp, hr⟩)
        · exact hk _ M _ _ hq (Ext.new hl) (hv.new hl) (rep_tup hl (hr.append hr2))
    | _ => exact (show False from hq).elim
  | ls xs =>
    cases b with
    | ls ys =>
      obtain ⟨hz, hq⟩ := hq
      simp only [Rep] at ra rb
      obtain ⟨p, vs, rfl, hp, hr⟩ := ra
      obtain ⟨q, ws, rfl, hp2, hr2⟩ := rb
      cases rx; cases ry
      obtain ⟨its, r1, p1, z1⟩ := I.list hp.sq
      obtain ⟨its2, r2, p2, z2⟩ := I.list hp2.sq
      have hz' : vs.length + ws.length ≤ sizeLine := by rw [← hr.length, ← hr2.length]; exact hz
      refine thn (cat_lst (Q := EP X pins σ (fun v H' => ∃ H1 p xs, v = .ref p ∧ H1 p = none ∧ H' = upd H1 p (.lst xs) ∧ ∀ o, Q0 (.ref p) (upd H1 p (.frz o (.lst xs))))) p1.isList p2.isList ?_ (by rw [← r1.length, ← r2.length]; exact hz')) fun _ _ e => frozen e
      have hf := I.hok.fresh (Nat.le_refl s.heap.objs.size)
      refine ⟨.ref s.heap.objs.size, upd H s.heap.objs.size (.lst (vs ++ ws)), I.laid (t' := s.toks) (fun b ob q => Heap.get?_push_of_some _ q) (Nat.le_refl _) ?_, rfl, H, _, _, rfl, hf, rfl, fun o => ?_⟩
      · exact ⟨by rw [List.length_append]; exact hz', _, 0, r1.append r2, Heap.get?_push_size _ rfl⟩
      · exact hk _ M _ _ hq (Ext.new hf) (hv.new hf) (rep_ls hf (hr.append hr2))
    | _ => exact (show False from hq).elim
  | _ => cases b <;> exact (show False from hq).elim
/-! ### ==, !=, is None -/
def rEqq : RR2 := fun x y M Q => okR 16 x = true ∧ okR 16 y = true ∧ Q (.bl (eqR x y)) M
def rNeq : RR2 := fun x y M Q => okR 16 x = true ∧ okR 16 y = true ∧ Q (.bl (!eqR x y)) M
theorem oeq (hu : X.A.units + 64 < cLine) : ROp X (compareOp .Eq) rEqq := by
  intro pins s σ H x y v u Q0 I rx ry h
  obtain ⟨a, b, M, Q, ra, rb, hv, ⟨o1, o2, hq⟩, hk⟩ := h
  exact rcAt_den 15 a b X.A s v u o1 o2 (den_of I 16 a x v o1 ra rx) (den_of I 16 b y u o2 rb ry) (by omega) _ _ _ _ ⟨.bl (eqR a b), H, I, rfl, hk _ M _ H hq (.refl H) hv (by simp only [Rep])⟩
theorem one (hu : X.A.units + 64 < cLine) : ROp X (compareOp .NotEq) rNeq := by
  intro pins s σ H x y v u Q0 I rx ry h
  obtain ⟨a, b, M, Q, ra, rb, hv, ⟨o1, o2, hq⟩, hk⟩ := h
  exact rcNeAt_den 15 a b X.A s v u o1 o2 (den_of I 16 a x v o1 ra rx) (den_of I 16 b y u o2 rb ry) (by omega) _ _ _ _ ⟨.bl (!eqR a b), H, I, rfl, hk _ M _ H hq (.refl H) hv (by simp only [Rep])⟩
def isN : RV → Bool
  | .non => true
  | _ => false
theorem isN_rep {K : PySem.W.Frag} {H : Hp} : ∀ {a : RV} {x : V}, Rep K H a x → decide (x = .non) = isN a := by
  intro a x h
  cases a with
  | tup xs => simp only [Rep] at h; obtain ⟨p, vs, rfl, _⟩ := h; simp [isN]
  | ls xs => simp only [Rep] at h; obtain ⟨p, vs, rfl, _⟩ := h; simp [isN]
  | _ => simp only [Rep] at h; subst h; simp [isN]
def rIs : RR2 := fun x y M Q => match y with | .non => Q (.bl (isN x)) M | _ => False
def rIsNot : RR2 := fun x y M Q => match y with | .non => Q (.bl (!isN x)) M | _ => False
theorem ois : ROp X (compareOp .Is) rIs := by
  intro pins s σ H x y v u Q0 I rx ry h
  obtain ⟨a, b, M, Q, ra, rb, hv, hq, hk⟩ := h
  cases b with
  | non => simp only [Rep] at rb; exact op_isN pins s σ H x y v u Q0 I rx ry ⟨rb, by rw [isN_rep ra]; exact hk _ M _ H hq (.refl H) hv (by simp only [Rep])⟩
  | _ => exact (show False from hq).elim
theorem oisnot : ROp X (compareOp .IsNot) rIsNot := by
  intro pins s σ H x y v u Q0 I rx ry h
  obtain ⟨a, b, M, Q, ra, rb, hv, hq, hk⟩ := h
  cases b with
  | non => simp only [Rep] at rb; exact op_notN pins s σ H x y v u Q0 I rx ry ⟨rb, by rw [isN_rep ra]; exact hk _ M _ H hq (.refl H) hv (by simp only [Rep])⟩
  | _ => exact (show False from hq).elim
/-! ### places -/
def rIx : RR2 := fun x y M Q => match x, y with
  | .tup xs, .int i => match atI xs i with | some v => Q v M | none => False
  | .ls xs, .int i => match atI xs i with | some v => Q v M | none => False
  | .ref a, .int i => match M a with
    | some (.lst xs) => match atI xs i with | some v => Q v M | none => False
    | _ => False
  | .str z, .int i => z.length ≤ sizeLine ∧ match atI z.cps.toList i with | some c => Q (.str ⟨#[c]⟩) M | none => False
  | _, _ => False
theorem oix : IxR X (upO X.K rIx) := by
  intro value slice pins s σ H x y v u Q0 I rx ry h hs
  obtain ⟨a, b, M, Q, ra, rb, hv, hq, hk⟩ := h
  cases b with
  | int i =>
    simp only [Rep] at rb
    cases a with
    | tup xs =>
      simp only [Rep] at ra
      obtain ⟨p, vs, rfl, hp, hr⟩ := ra
      simp only [rIx] at hq
      cases e : atI xs i with
      | none => rw [e] at hq; exact hq.elim
      | some z =>
        rw [e] at hq
        obtain ⟨w, e1, r1⟩ := hr.atI e
        exact ix_tup value slice pins s σ H _ y v u Q0 I rx ry ⟨p, vs, i, w, rfl, rb, hp, e1, hk _ M _ H hq (.refl H) hv r1⟩ hs
    | ls xs =>
      simp only [Rep] at ra
      obtain ⟨p, vs, rfl, hp, hr⟩ := ra
      simp only [rIx] at hq
      cases e : atI xs i with
      | none => rw [e] at hq; exact hq.elim
      | some z =>
        rw [e] at hq
        obtain ⟨w, e1, r1⟩ := hr.atI e
        exact ix_list value slice pins s σ H _ y v u Q0 I rx ry ⟨p, vs, i, w, rfl, rb, hp.sq, e1, hk _ M _ H hq (.refl H) hv r1⟩ hs
    | ref p =>
      simp only [Rep] at ra
      simp only [rIx] at hq
      split at hq
      · rename_i xs em
        obtain ⟨ho, e, r⟩ := hv p _ em
        obtain ⟨vs, rfl, hr⟩ := r
        cases e2 : atI xs i with
        | none => rw [e2] at hq; exact hq.elim
        | some z =>
          rw [e2] at hq
          obtain ⟨w, e1, r1⟩ := hr.atI e2
          exact ix_list value slice pins s σ H x y v u Q0 I rx ry ⟨p, vs, i, w, ra, rb, SqL.of e, e1, hk _ M _ H hq (.refl H) hv r1⟩ hs
      · exact hq.elim
    | str z =>
      simp only [Rep] at ra
      simp only [rIx] at hq
      obtain ⟨hz, hq⟩ := hq
      cases e : atI z.cps.toList i with
      | none => rw [e] at hq; exact hq.elim
      | some c =>
        rw [e] at hq
        exact ix_str value slice pins s σ H x y v u Q0 I rx ry ⟨z, i, c, ra, rb, hz, e, hk _ M _ H hq (.refl H) hv (by simp only [Rep])⟩ hs
    | _ => exact (show False from hq).elim
  | _ => cases a <;> exact (show False from hq).elim
theorem rix {a b : Expr} {ta tb : RTE} {pos : Pos} (ha : RPE X a ta) (hb : RPE X b tb) (hs : PlainIx b := by intro _ _; rfl) : RPE X (.Subscript a b pos) (rOp rIx ta tb) := PE.imp (pe_ix oix ha hb hs) fun _ _ _ h => rop_imp h
/-! ### o[i] = v -/
def rSetL : RTSet := fun o i v M Q => match o, i with
  | .ref p, .int k => match M p with
    | some (.lst xs) => match ixN xs.length k with | some j => Q (put M p (.lst (xs.set j v))) | none => False
    | _ => False
  | _, _ => False
theorem osetl : PSet X (upSet X.K rSetL) := by
  intro pins s σ H o i v ov iv u Q0 I ro ri rv h
  obtain ⟨a, b, c, M, Q, ra, rb, rc, hv, hq, hk⟩ := h
  cases a with
  | ref p =>
    cases b with
    | int k =>
      simp only [Rep] at ra rb
      simp only [rSetL] at hq
      split at hq
      · rename_i xs em
        obtain ⟨ho, e, r⟩ := hv p _ em
        obtain ⟨vs, rfl, hr⟩ := r
        cases e2 : ixN xs.length k with
        | none => rw [e2] at hq; exact hq.elim
        | some j =>
          rw [e2] at hq
          have ex : Ext H (upd H p (.lst (vs.set j v))) := Ext.write e rfl
          exact set_list pins s σ H o i v ov iv u Q0 I ro ri rv ⟨p, vs, k, j, ra, rb, e, by rw [← hr.length]; exact e2, hk _ _ hq ex (hv.write em ⟨_, rfl, Reps.ext ex _ _ (hr.set rc j)⟩)⟩
      · exact hq.elim
    | _ => exact (show False from hq).elim
  | _ => cases b <;> exact (show False from hq).elim
/-! ### calls of built-ins -/
def upC (K : PySem.W.Frag) (r : List RV → RM → RVK → Prop) : List V → Hp → VK → Prop := fun vs H Q0 => ∃ rs M Q, Reps K H rs vs ∧ View K H M ∧ r rs M Q ∧ UpK K H Q Q0
def rCall (r : List RV → RM → RVK → Prop) (t : RTA) : RTE := fun σ M Q => t σ M fun rs M1 => r rs M1 Q
theorem rcall_imp {K : PySem.W.Frag} {r : List RV → RM → RVK → Prop} {t : RTA} {σ0 : L2.St} {H : Hp} {Q0 : VK} (h : up K (rCall r t) σ0 H Q0) : tCB (upC K r) (upA K t) σ0 H Q0 := by
  obtain ⟨σ, M, Q, hs, hv, ht, hk⟩ := h
  exact ⟨σ, M, _, hs, hv, ht, fun rs M1 vs H1 q e1 v1 r1 => ⟨rs, M1, Q, r1, v1, q, hk.ext e1⟩⟩
variable {x : Str} {p pos : Pos} {e : Expr} {es : List Expr} {t : RTA} {id T : String} {r : List RV → RM → RVK → Prop}
theorem rcallB (hc : CallR X (.builtin id) (upC X.K r)) (hm : X.mg x = none) (hv : bootBuiltins x = some (.builtin id)) (ha : RPA X (e :: es) t) (hg : Gl X x := by rfl) (hn : x ≠ "__name__" := by decide) (hdb : (x == ("__debug__" : Str)) = false := by decide)
    (he : starEach (e :: es) X.env = (false, eval e X.env) :: starEach es X.env := by rfl) (hpl : (backTo pos (starEach es X.env)).any (·.1) = false := by rfl) : RPE X (.Call (.Name x p) (e :: es) [] pos) (rCall r t) :=
  PE.imp (pe_callB hc hg hm hv ha hn hdb he hpl) fun _ _ _ h => rcall_imp h
theorem rcallT (hc : CallR X (.type T) (upC X.K r)) (hm : X.mg x = none) (hv : bootBuiltins x = some (.type T)) (ha : RPA X (e :: es) t) (hg : Gl X x := by rfl) (hn : x ≠ "__name__" := by decide) (hdb : (x == ("__debug__" : Str)) = false := by decide)
    (he : starEach (e :: es) X.env = (false, eval e X.env) :: starEach es X.env := by rfl) (hpl : (backTo pos (starEach es X.env)).any (·.1) = false := by rfl) : RPE X (.Call (.Name x p) (e :: es) [] pos) (rCall r t) :=
  PE.imp (pe_callTy hc hg hm hv ha hn hdb he hpl) fun _ _ _ h => rcall_imp h
theorem Reps.one {K : PySem.W.Frag} {H : Hp} {x : RV} {vs : List V} (h : Reps K H [x] vs) : ∃ v, vs = [v] ∧ Rep K H x v := by
  simp only [Reps] at h
  obtain ⟨v, r, rfl, h1, rfl⟩ := h
  exact ⟨v, rfl, h1⟩
theorem Reps.two {K : PySem.W.Frag} {H : Hp} {x y : RV} {vs : List V} (h : Reps K H [x, y] vs) : ∃ v w, vs = [v, w] ∧ Rep K H x v ∧ Rep K H y w := by
  simp only [Reps] at h
  obtain ⟨v, r, rfl, h1, w, r', rfl, h2, rfl⟩ := h
  exact ⟨v, w, rfl, h1, h2⟩
def rLen : List RV → RM → RVK → Prop := fun rs M Q => match rs with
  | [.tup xs] => Q (.int xs.length) M
  | [.ls xs] => Q (.int xs.length) M
  | [.str z] => z.length ≤ sizeLine ∧ Q (.int z.length) M
  | [.ref a] => match M a with | some (.lst xs) => Q (.int xs.length) M | _ => False
  | _ => False
theorem clen : CallR X (.builtin "len") (upC X.K rLen) := by
  intro pins s σ H xs us Q0 I rl h
  obtain ⟨rs, M, Q, rr, hv, hq, hk⟩ := h
  unfold rLen at hq
  split at hq
  · rename_i ys
    obtain ⟨v, rfl, r1⟩ := rr.one
    simp only [Rep] at r1
    obtain ⟨q, vs, rfl, hp, hr⟩ := r1
    exact call_len_seq pins s σ H _ us Q0 I rl ⟨q, vs, rfl, .inr hp, by rw [← hr.length]; exact hk _ M _ H hq (.refl H) hv (by simp only [Rep])⟩
  · rename_i ys
    obtain ⟨v, rfl, r1⟩ := rr.one
    simp only [Rep] at r1
    obtain ⟨q, vs, rfl, hp, hr⟩ := r1
    exact call_len_seq pins s σ H _ us Q0 I rl ⟨q, vs, rfl, .inl hp.sq, by rw [← hr.length]; exact hk _ M _ H hq (.refl H) hv (by simp only [Rep])⟩
  · rename_i z
    obtain ⟨v, rfl, r1⟩ := rr.one
    simp only [Rep] at r1
    subst r1
    exact call_len_str pins s σ H _ us Q0 I rl ⟨z, rfl, hq.1, hk _ M _ H hq.2 (.refl H) hv (by simp only [Rep])⟩
  · rename_i a
    obtain ⟨v, rfl, r1⟩ := rr.one
    simp only [Rep] at r1
    subst r1
    split at hq
    · rename_i ys em
      obtain ⟨ho, e, r⟩ := hv a _ em
      obtain ⟨vs, rfl, hr⟩ := r
      exact call_len_seq pins s σ H _ us Q0 I rl ⟨a, vs, rfl, .inl (SqL.of e), by rw [← hr.length]; exact hk _ M _ H hq (.refl H) hv (by simp only [Rep])⟩
    · exact hq.elim
  · exact hq.elim
def rTuple : List RV → RM → RVK → Prop := fun rs M Q => match rs with
  | [.tup xs] => Q (.tup xs) M
  | [.ls xs] => Q (.tup xs) M
  | [.ref a] => match M a with | some (.lst xs) => Q (.tup xs) M | _ => False
  | _ => False
theorem ctuple : CallR X (.type "tuple") (upC X.K rTuple) := by
  intro pins s σ H xs us Q0 I rl h
  obtain ⟨rs, M, Q, rr, hv, hq, hk⟩ := h
  unfold rTuple at hq
  split at hq
  · rename_i ys
    obtain ⟨v, rfl, r1⟩ := rr.one
    simp only [Rep] at r1
    obtain ⟨q, vs, rfl, hp, hr⟩ := r1
    exact call_tuple_of pins s σ H _ us Q0 I rl ⟨q, vs, rfl, .inr ⟨hp, hk _ M _ H hq (.refl H) hv (by simp only [Rep]; exact ⟨q, vs, rfl, hp, hr⟩)⟩⟩
  · rename_i ys
    obtain ⟨v, rfl, r1⟩ := rr.one
    simp only [Rep] at r1
    obtain ⟨q, vs, rfl, hp, hr⟩ := r1
    exact call_tuple_of pins s σ H _ us Q0 I rl ⟨q, vs, rfl, .inl ⟨hp.sq, fun l hl => hk _ M _ _ hq (Ext.new hl) (hv.new hl) (rep_tup hl hr)⟩⟩
  · rename_i a
    obtain ⟨v, rfl, r1⟩ := rr.one
    simp only [Rep] at r1
    subst r1
    split at hq
    · rename_i ys em
      obtain ⟨ho, e, r⟩ := hv a _ em
      obtain ⟨vs, rfl, hr⟩ := r
      exact call_tuple_of pins s σ H _ us Q0 I rl ⟨a, vs, rfl, .inl ⟨SqL.of e, fun l hl => hk _ M _ _ hq (Ext.new hl) (hv.new hl) (rep_tup hl hr)⟩⟩
    · exact hq.elim
  · exact hq.elim
end
end R

set_option Elab.async false
set_option linter.all false
set_option maxRecDepth 100000
set_option maxHeartbeats 1000000
namespace R
open PySem PySem.Spec PyProof.Rows L2 HT
section
variable {prog : Program} {w : World} {A : Around} {E : Value → Shared → Prop} {s : Shared}
theorem getItem_tuple_whole {t sl : Addr} {items : Array Value} {vl vu : Value} {lo hi : Option Int} {Q : Value → Shared → Prop} (ht : IsTup s.heap t items) (hs : s.heap.IsSliceOf sl vl vu .none) (pl : IsPart vl lo) (pu : IsPart vu hi)
    (h0 : sIx items.size 0 lo = 0) (h1 : sIx items.size items.size hi = items.size)
    (h : Q (.ref t) s) : wpAny (model prog w) A (getItem (.ref t) (.ref sl)) Q E s := by
  obtain ⟨os, hos, hcs, hds⟩ := id hs
  have hTs : s.TypeIs (.ref sl) "slice" := ⟨os, hos, hcs⟩
  unfold getItem
  try with_reducible refine wpAny_holding ?_
  first | refine wpAny_bind (wpAny_pure ?_) | skip
  refine wpAny_bind (wpAny_sequenceKey ht.typeIs (by decide) ?_)
  refine wpAny_bind (wpAny_callSpecial?_slot (name := Str.ofString "__getitem__") ht.typeIs PyProof.Rows.slot_tuple_getitem
    (wpAny_call_entry PyProof.Rows.slot_tuple_getitem ht.typeIs entry_tuple_getitem ?_ (args_tuple_getitem _ _)))
  show wpAny _ _ (Builtin.Tuple.tupleItemsOf (.ref t) >>= _) _ _ s
  refine wpAny_bind (tupleItemsOf_ ht ?_)
  refine wpAny_bind (wpAny_typeOf hTs ?_)
  rw [if_pos (by decide)]
  refine wpAny_bind (sliceApplied_gen hs pl pu ?_)
  have hyes : (((sIx items.size 0 lo : Nat) : Int) == 0 && (1 : Int) == 1 && (sIx items.size items.size hi - sIx items.size 0 lo) == items.size) = true := by
    rw [h0, h1]; simp
  show wpAny _ _ (if (((sIx items.size 0 lo : Nat) : Int) == 0 && (1 : Int) == 1 && (sIx items.size items.size hi - sIx items.size 0 lo) == items.size) = true then _ else _) _ _ s
  rw [if_pos hyes]
  show wpAny _ _ (Builtin.Tuple.tupleIsExact (.ref t) >>= _) _ _ s
  unfold Builtin.Tuple.tupleIsExact
  refine wpAny_bind (wpAny_bind (wpAny_typeOf ht.typeIs (wpAny_pure ?_)))
  rw [if_pos (by decide)]
  refine wpAny_bind (wpAny_rule ?_)
  refine wpAny_bind (wpAny_pure ?_)
  exact wpAny_pure ⟨_, rfl, wpAny_pure h⟩
end

section
variable {X : Cx}
/-! ### slices -/
abbrev RTO := RSt → RM → (Option Int → RM → Prop) → Prop
def upP (K : PySem.W.Frag) (t : RTO) : TO := fun σ0 H Q0 => ∃ σ M Q, RepSt K H σ σ0 ∧ View K H M ∧ t σ M Q ∧ ∀ o M' H', Q o M' → Ext H H' → View K H' M' → Q0 o H'
def RPO (X : Cx) (e : Option Expr) (t : RTO) : Prop := PO X e (upP X.K t)
def rNoP : RTO := fun _ M Q => Q none M
def rPart (t : RTE) : RTO := fun σ M Q => t σ M fun x M1 => match x with | .int i => Q (some i) M1 | _ => False
theorem PO.imp {e : Option Expr} {t t' : TO} (h : PO X e t) (i : ∀ σ H Q, t' σ H Q → t σ H Q) : PO X e t' := fun pins s σ H Q I w => h pins s σ H Q I (i σ H Q w)
theorem pnone : RPO X none rNoP := PO.imp po_none fun σ0 H Q0 h => by
  obtain ⟨σ, M, Q, hs, hv, ht, hk⟩ := h
  exact hk none M H ht (.refl H) hv
theorem psome {e : Expr} {te : RTE} (h : RPE X e te) : RPO X (some e) (rPart te) := PO.imp (po_some h) fun σ0 H Q0 h => by
  obtain ⟨σ, M, Q, hs, hv, ht, hk⟩ := h
  refine ⟨σ, M, _, hs, hv, ht, fun rx M1 x H1 q e1 v1 r1 => ?_⟩
  cases rx with
  | int i => simp only [Rep] at r1; exact ⟨i, r1, hk _ M1 H1 q e1 v1⟩
  | _ => exact (show False from q).elim
def cutR (xs : List RV) (lo hi : Option Int) : List RV := (xs.drop (sIx xs.length 0 lo)).take (sIx xs.length xs.length hi - sIx xs.length 0 lo)
theorem reps_cut {K : PySem.W.Frag} {H : Hp} {xs : List RV} {vs : List V} (r : Reps K H xs vs) (lo hi : Option Int) : Reps K H (cutR xs lo hi) (cutV vs lo hi) := by
  unfold cutR cutV
  rw [r.length]
  exact (r.drop _).take _
def rSlc : RV → Option Int → Option Int → RM → RVK → Prop := fun x lo hi M Q => match x with
  | .tup xs => Q (.tup (cutR xs lo hi)) M
  | .ls xs => Q (.ls (cutR xs lo hi)) M
  | .ref a => match M a with | some (.lst xs) => Q (.ls (cutR xs lo hi)) M | _ => False
  | _ => False
def upL (K : PySem.W.Frag) (r : RV → Option Int → Option Int → RM → RVK → Prop) : V → Option Int → Option Int → Hp → VK → Prop := fun x lo hi H Q0 => ∃ rx M Q, Rep K H rx x ∧ View K H M ∧ r rx lo hi M Q ∧ UpK K H Q Q0
theorem oslc : SlR X (upL X.K rSlc) := by
  intro pins s σ H x v vl vu lo hi sl Q0 I rx hs pl pu h
  obtain ⟨a, M, Q, ra, hv, hq, hk⟩ := h
  have lstcase : ∀ (p : Addr) (xs : List RV) (vs : List V), x = .ref p → SqL X.K H p vs → Reps X.K H xs vs → Q (.ls (cutR xs lo hi)) M →
      ∃ T id, typeLookup (.type T) "__getitem__" = pure (some (.builtin id)) ∧ s.TypeIs v T ∧ wpAny (model X.prog X.w) X.A (getItem v (.ref sl)) (EP X pins σ Q0) X.xe s := by
    intro p xs vs ex hp hr hq
    obtain ⟨T, id, h1, h2, h3⟩ := sl_list pins s σ H x v vl vu lo hi sl (fun v H' => ∃ H1 p xs, v = .ref p ∧ H1 p = none ∧ H' = upd H1 p (.lst xs) ∧ ∀ o, Q0 (.ref p) (upd H1 p (.frz o (.lst xs)))) I rx hs pl pu
      ⟨p, vs, ex, hp, fun q hq' => ⟨H, q, _, rfl, hq', rfl, fun o => hk _ M _ _ hq (Ext.new hq') (hv.new hq') (rep_ls hq' (reps_cut hr lo hi))⟩⟩
    exact ⟨T, id, h1, h2, thn h3 fun _ _ e => frozen e⟩
  cases a with
  | tup xs =>
    simp only [rSlc] at hq
    simp only [Rep] at ra
    obtain ⟨p, vs, rfl, hp, hr⟩ := ra
    by_cases hw : sIx vs.length 0 lo = 0 ∧ sIx vs.length vs.length hi = vs.length
    · cases rx
      obtain ⟨its, r, ht, hz⟩ := I.tuple hp
      have hlen : its.toArray.size = vs.length := by rw [List.size_toArray]; exact r.length.symm
      refine ⟨"tuple", _, PyProof.Rows.slot_tuple_getitem.lookup, ht.typeIs, ?_⟩
      refine getItem_tuple_whole ht hs pl pu (by rw [hlen]; exact hw.1) (by rw [hlen]; exact hw.2) ⟨.ref p, H, I, rfl, ?_⟩
      have e : cutR xs lo hi = xs := by
        unfold cutR
        rw [hr.length, hw.1, hw.2, List.drop_zero, Nat.sub_zero, ← hr.length, List.take_length]
      rw [e] at hq
      exact hk _ M _ H hq (.refl H) hv (by simp only [Rep]; exact ⟨p, vs, rfl, hp, hr⟩)
    · exact sl_tup pins s σ H _ v vl vu lo hi sl Q0 I rx hs pl pu ⟨p, vs, rfl, hp, hw, fun q hq' => hk _ M _ _ hq (Ext.new hq') (hv.new hq') (rep_tup hq' (reps_cut hr lo hi))⟩
  | ls xs =>
    simp only [rSlc] at hq
    simp only [Rep] at ra
    obtain ⟨p, vs, rfl, hp, hr⟩ := ra
    exact lstcase p xs vs rfl hp.sq hr hq
  | ref p =>
    simp only [rSlc] at hq
    simp only [Rep] at ra
    split at hq
    · rename_i xs em
      obtain ⟨ho, e, r⟩ := hv p _ em
      obtain ⟨vs, rfl, hr⟩ := r
      exact lstcase p xs vs ra (SqL.of e) hr hq
    · exact hq.elim
  | _ => exact (show False from hq).elim
def rSl (te : RTE) (tl th : RTO) : RTE := fun σ M Q => te σ M fun x M1 => tl σ M1 fun l M2 => th σ M2 fun u M3 => rSlc x l u M3 Q
theorem rsl {e : Expr} {te : RTE} {lo hi : Option Expr} {tl th : RTO} {pos p2 : Pos} (he : RPE X e te) (hl : RPO X lo tl) (hu : RPO X hi th) : RPE X (.Subscript e (.Slice lo hi none p2) pos) (rSl te tl th) := PE.imp (pe_slice oslc he hl hu) fun σ0 H Q0 h => by
  obtain ⟨σ, M, Q, hs, hv, ht, hk⟩ := h
  refine ⟨σ, M, _, hs, hv, ht, fun rx M1 x H1 q e1 v1 r1 => ?_⟩
  refine ⟨σ, M1, _, hs.ext e1, v1, q, fun l M2 H2 q2 e2 v2 => ?_⟩
  refine ⟨σ, M2, _, hs.ext (e1.trans e2), v2, q2, fun u M3 H3 q3 e3 v3 => ?_⟩
  exact ⟨rx, M3, Q, Rep.ext (e2.trans e3) rx x r1, v3, q3, hk.ext ((e1.trans e2).trans e3)⟩
/-! ### isinstance -/
theorem kit_non_int (K : PySem.W.Frag) : PySem.W.kitOne K (.type "NoneType") (.type "int") = some false := by kernel_rfl
theorem kit_bl_int (K : PySem.W.Frag) : PySem.W.kitOne K (.type "bool") (.type "int") = some true := by kernel_rfl
theorem kit_int_int (K : PySem.W.Frag) : PySem.W.kitOne K (.type "int") (.type "int") = some true := by kernel_rfl
theorem kit_str_int (K : PySem.W.Frag) : PySem.W.kitOne K (.type "str") (.type "int") = some false := by kernel_rfl
theorem kit_tup_int (K : PySem.W.Frag) : PySem.W.kitOne K (.type "tuple") (.type "int") = some false := by kernel_rfl
theorem kit_ls_int (K : PySem.W.Frag) : PySem.W.kitOne K (.type "list") (.type "int") = some false := by kernel_rfl
def is_int : RV → Option Bool
  | .non => some false
  | .bl _ => some true
  | .int _ => some true
  | .str _ => some false
  | .tup _ => some false
  | .ls _ => some false
  | _ => none
theorem kit_non_bool (K : PySem.W.Frag) : PySem.W.kitOne K (.type "NoneType") (.type "bool") = some false := by kernel_rfl
theorem kit_bl_bool (K : PySem.W.Frag) : PySem.W.kitOne K (.type "bool") (.type "bool") = some true := by kernel_rfl
theorem kit_int_bool (K : PySem.W.Frag) : PySem.W.kitOne K (.type "int") (.type "bool") = some false := by kernel_rfl
theorem kit_str_bool (K : PySem.W.Frag) : PySem.W.kitOne K (.type "str") (.type "bool") = some false := by kernel_rfl
theorem kit_tup_bool (K : PySem.W.Frag) : PySem.W.kitOne K (.type "tuple") (.type "bool") = some false := by kernel_rfl
theorem kit_ls_bool (K : PySem.W.Frag) : PySem.W.kitOne K (.type "list") (.type "bool") = some false := by kernel_rfl
def is_bool : RV → Option Bool
  | .non => some false
  | .bl _ => some true
  | .int _ => some false
  | .str _ => some false
  | .tup _ => some false
  | .ls _ => some false
  | _ => none
theorem kit_non_str (K : PySem.W.Frag) : PySem.W.kitOne K (.type "NoneType") (.type "str") = some false := by kernel_rfl
theorem kit_bl_str (K : PySem.W.Frag) : PySem.W.kitOne K (.type "bool") (.type "str") = some false := by kernel_rfl
theorem kit_int_str (K : PySem.W.Frag) : PySem.W.kitOne K (.type "int") (.type "str") = some false := by kernel_rfl
theorem kit_str_str (K : PySem.W.Frag) : PySem.W.kitOne K (.type "str") (.type "str") = some true := by kernel_rfl
theorem kit_tup_str (K : PySem.W.Frag) : PySem.W.kitOne K (.type "tuple") (.type "str") = some false := by kernel_rfl
theorem kit_ls_str (K : PySem.W.Frag) : PySem.W.kitOne K (.type "list") (.type "str") = some false := by kernel_rfl
def is_str : RV → Option Bool
  | .non => some false
  | .bl _ => some false
  | .int _ => some false
  | .str _ => some true
  | .tup _ => some false
  | .ls _ => some false
  | _ => none
theorem kit_non_tuple (K : PySem.W.Frag) : PySem.W.kitOne K (.type "NoneType") (.type "tuple") = some false := by kernel_rfl
theorem kit_bl_tuple (K : PySem.W.Frag) : PySem.W.kitOne K (.type "bool") (.type "tuple") = some false := by kernel_rfl
theorem kit_int_tuple (K : PySem.W.Frag) : PySem.W.kitOne K (.type "int") (.type "tuple") = some false := by kernel_rfl
theorem kit_str_tuple (K : PySem.W.Frag) : PySem.W.kitOne K (.type "str") (.type "tuple") = some false := by kernel_rfl
theorem kit_tup_tuple (K : PySem.W.Frag) : PySem.W.kitOne K (.type "tuple") (.type "tuple") = some true := by kernel_rfl
theorem kit_ls_tuple (K : PySem.W.Frag) : PySem.W.kitOne K (.type "list") (.type "tuple") = some false := by kernel_rfl
def is_tuple : RV → Option Bool
  | .non => some false
  | .bl _ => some false
  | .int _ => some false
  | .str _ => some false
  | .tup _ => some true
  | .ls _ => some false
  | _ => none
theorem kit_non_list (K : PySem.W.Frag) : PySem.W.kitOne K (.type "NoneType") (.type "list") = some false := by kernel_rfl
theorem kit_bl_list (K : PySem.W.Frag) : PySem.W.kitOne K (.type "bool") (.type "list") = some false := by kernel_rfl
theorem kit_int_list (K : PySem.W.Frag) : PySem.W.kitOne K (.type "int") (.type "list") = some false := by kernel_rfl
theorem kit_str_list (K : PySem.W.Frag) : PySem.W.kitOne K (.type "str") (.type "list") = some false := by kernel_rfl
theorem kit_tup_list (K : PySem.W.Frag) : PySem.W.kitOne K (.type "tuple") (.type "list") = some false := by kernel_rfl
theorem kit_ls_list (K : PySem.W.Frag) : PySem.W.kitOne K (.type "list") (.type "list") = some true := by kernel_rfl
def is_list : RV → Option Bool
  | .non => some false
  | .bl _ => some false
  | .int _ => some false
  | .str _ => some false
  | .tup _ => some false
  | .ls _ => some true
  | _ => none
def tyN : RV → Option String
  | .non => some "NoneType"
  | .bl _ => some "bool"
  | .int _ => some "int"
  | .str _ => some "str"
  | .tup _ => some "tuple"
  | .ls _ => some "list"
  | _ => none
def rIsi (T : String) (test : RV → Option Bool) : List RV → RM → RVK → Prop := fun rs M Q => match rs with
  | [x, .ty T'] => T' = T ∧ (match test x with | some b => Q (.bl b) M | none => False)
  | _ => False
theorem cisi {T : String} {test : RV → Option Bool} (ht : ∀ a b, test a = some b → ∃ n, tyN a = some n ∧ PySem.W.kitOne X.K (.type n) (.type T) = some b) : CallR X (.builtin "isinstance") (upC X.K (rIsi T test)) := by
  intro pins s σ H xs us Q0 I rl h
  obtain ⟨rs, M, Q, rr, hv, hq, hk⟩ := h
  unfold rIsi at hq
  split at hq
  · rename_i a T'
    obtain ⟨rfl, hq⟩ := hq
    obtain ⟨v, w, rfl, r1, r2⟩ := rr.two
    obtain ⟨u, u', rfl, w1, w2⟩ := vals2 rl
    simp only [Rep] at r2
    subst r2
    obtain rfl : u' = Value.type T' := w2
    cases e : test a with
    | none => rw [e] at hq; exact hq.elim
    | some b =>
      rw [e] at hq
      obtain ⟨n, en, ek⟩ := ht a b e
      have fin : ∀ tk, EP X pins σ Q0 (.bool b) { s with toks := tk } := fun tk => ⟨.bl b, H, I.tok tk, rfl, hk _ M _ H hq (.refl H) hv (by simp only [Rep])⟩
      cases a with
      | non => cases en; simp only [Rep] at r1; subst r1; cases (show u = Value.none from w1); exact PySem.W.kia_one PySem.W.kitx_none I.kIn True.intro ek (fun z => nomatch z) fin
      | bl y => cases en; simp only [Rep] at r1; subst r1; cases (show u = Value.bool y from w1); exact PySem.W.kia_one PySem.W.kitx_bool I.kIn True.intro ek (fun z => nomatch z) fin
      | int y => cases en; simp only [Rep] at r1; subst r1; obtain ⟨t, q⟩ := (show ∃ t, u = Value.int y t from w1); cases q; exact PySem.W.kia_one PySem.W.kitx_int I.kIn True.intro ek (fun z => nomatch z) fin
      | str y => cases en; simp only [Rep] at r1; subst r1; obtain ⟨t, q⟩ := (show ∃ t, u = Value.str y t from w1); cases q; exact PySem.W.kia_one PySem.W.kitx_str I.kIn True.intro ek (fun z => nomatch z) fin
      | tup ys =>
        cases en; simp only [Rep] at r1
        obtain ⟨p, vs, rfl, hp, hr⟩ := r1
        cases (show u = Value.ref p from w1)
        obtain ⟨its, _, pt, _⟩ := I.tuple hp
        obtain ⟨o, h1, h2, _⟩ := pt
        exact PySem.W.kia_one PySem.W.kitx_tuple I.kIn ⟨o, h1, h2⟩ ek (fun z => nomatch z) fin
      | ls ys =>
        cases en; simp only [Rep] at r1
        obtain ⟨p, vs, rfl, hp, hr⟩ := r1
        cases (show u = Value.ref p from w1)
        obtain ⟨its, _, pt, _⟩ := I.list hp.sq
        obtain ⟨o, h1, h2, _⟩ := pt.isList
        exact PySem.W.kia_one PySem.W.kitx_list I.kIn ⟨o, h1, h2⟩ ek (fun z => nomatch z) fin
      | _ => cases en
  · exact hq.elim
theorem cisi_int : CallR X (.builtin "isinstance") (upC X.K (rIsi "int" is_int)) := cisi fun a b e => by
  cases a with
  | non => cases e; exact ⟨_, rfl, kit_non_int X.K⟩
  | bl _ => cases e; exact ⟨_, rfl, kit_bl_int X.K⟩
  | int _ => cases e; exact ⟨_, rfl, kit_int_int X.K⟩
  | str _ => cases e; exact ⟨_, rfl, kit_str_int X.K⟩
  | tup _ => cases e; exact ⟨_, rfl, kit_tup_int X.K⟩
  | ls _ => cases e; exact ⟨_, rfl, kit_ls_int X.K⟩
  | _ => cases e
theorem cisi_bool : CallR X (.builtin "isinstance") (upC X.K (rIsi "bool" is_bool)) := cisi fun a b e => by
  cases a with
  | non => cases e; exact ⟨_, rfl, kit_non_bool X.K⟩
  | bl _ => cases e; exact ⟨_, rfl, kit_bl_bool X.K⟩
  | int _ => cases e; exact ⟨_, rfl, kit_int_bool X.K⟩
  | str _ => cases e; exact ⟨_, rfl, kit_str_bool X.K⟩
  | tup _ => cases e; exact ⟨_, rfl, kit_tup_bool X.K⟩
  | ls _ => cases e; exact ⟨_, rfl, kit_ls_bool X.K⟩
  | _ => cases e
theorem cisi_str : CallR X (.builtin "isinstance") (upC X.K (rIsi "str" is_str)) := cisi fun a b e => by
  cases a with
  | non => cases e; exact ⟨_, rfl, kit_non_str X.K⟩
  | bl _ => cases e; exact ⟨_, rfl, kit_bl_str X.K⟩
  | int _ => cases e; exact ⟨_, rfl, kit_int_str X.K⟩
  | str _ => cases e; exact ⟨_, rfl, kit_str_str X.K⟩
  | tup _ => cases e; exact ⟨_, rfl, kit_tup_str X.K⟩
  | ls _ => cases e; exact ⟨_, rfl, kit_ls_str X.K⟩
  | _ => cases e
theorem cisi_tuple : CallR X (.builtin "isinstance") (upC X.K (rIsi "tuple" is_tuple)) := cisi fun a b e => by
  cases a with
  | non => cases e; exact ⟨_, rfl, kit_non_tuple X.K⟩
  | bl _ => cases e; exact ⟨_, rfl, kit_bl_tuple X.K⟩
  | int _ => cases e; exact ⟨_, rfl, kit_int_tuple X.K⟩
  | str _ => cases e; exact ⟨_, rfl, kit_str_tuple X.K⟩
  | tup _ => cases e; exact ⟨_, rfl, kit_tup_tuple X.K⟩
  | ls _ => cases e; exact ⟨_, rfl, kit_ls_tuple X.K⟩
  | _ => cases e
theorem cisi_list : CallR X (.builtin "isinstance") (upC X.K (rIsi "list" is_list)) := cisi fun a b e => by
  cases a with
  | non => cases e; exact ⟨_, rfl, kit_non_list X.K⟩
  | bl _ => cases e; exact ⟨_, rfl, kit_bl_list X.K⟩
  | int _ => cases e; exact ⟨_, rfl, kit_int_list X.K⟩
  | str _ => cases e; exact ⟨_, rfl, kit_str_list X.K⟩
  | tup _ => cases e; exact ⟨_, rfl, kit_tup_list X.K⟩
  | ls _ => cases e; exact ⟨_, rfl, kit_ls_list X.K⟩
  | _ => cases e
/-! ### own defs -/
abbrev RSp := List RV → RM → RVK → Prop
def upSp (K : PySem.W.Frag) (sp : RSp) : Sp := fun vs H Q0 _ => ∃ rs M Q, Reps K H rs vs ∧ View K H M ∧ sp rs M Q ∧ UpK K H Q Q0
end
structure RFn (P : Program) (w : World) (K : PySem.W.Frag) (mg : Str → Option Value) (base : Heap) (k : Nat) (x : Str) (ps : List Str) (sp : RSp) : Prop where
  ex : ∃ (f : Addr) (fd : FuncData), mg x = some (.ref f) ∧ PySem.W.keepIn K (.ref f) = true ∧ Binds K fd ps [] ∧ FnOk P w K mg base CX0 k f fd ps (upSp K sp)
section
variable {X : Cx} {x : Str} {p pos : Pos} {e : Expr} {es : List Expr} {t : RTA} {k : Nat} {ps : List Str} {sp : RSp}
theorem rcallF (F : RFn X.prog X.w X.K X.mg X.base k x ps sp) (hr : Room k X.A) (ha : RPA X (e :: es) t) (hg : Gl X x := by rfl) (hdb : (x == ("__debug__" : Str)) = false := by decide)
    (he : starEach (e :: es) X.env = (false, eval e X.env) :: starEach es X.env := by rfl) (hpl : (backTo pos (starEach es X.env)).any (·.1) = false := by rfl) : RPE X (.Call (.Name x p) (e :: es) [] pos) (rCall sp t) := by
  obtain ⟨f, fd, hm, hk, hb, F⟩ := F.ex
  refine PE.imp (pe_call F hr hg hm hk hb .nil pass0 ha hdb he hpl) fun σ0 H Q0 h => ?_
  obtain ⟨σ, M, Q, hs, hv, ht, hk⟩ := h
  exact ⟨σ, M, _, hs, hv, ht, fun rs M1 vs H1 q e1 v1 r1 => ⟨rs, M1, Q, by rw [List.append_nil]; exact r1, v1, q, hk.ext e1⟩⟩
theorem rcallF0 (F : RFn X.prog X.w X.K X.mg X.base k x ps sp) (hr : Room k X.A) (hg : Gl X x := by rfl) (hdb : (x == ("__debug__" : Str)) = false := by decide) : RPE X (.Call (.Name x p) [] [] pos) (rCall sp rNil) := by
  obtain ⟨f, fd, hm, hk, hb, F⟩ := F.ex
  refine PE.imp (pe_call0 F hr hg hm hk hb .nil pass0 hdb) fun σ0 H Q0 h => ?_
  obtain ⟨σ, M, Q, hs, hv, ht, hk⟩ := h
  exact ⟨[], M, Q, Reps.nil, hv, ht, hk⟩
def rstart (N : List Str) (rs : List RV) : RSt := rs.map some ++ List.replicate (N.length - rs.length) none
theorem start_rep {K : PySem.W.Frag} {H : Hp} {N : List Str} {rs : List RV} {vs : List V} (r : Reps K H rs vs) : RepSt K H (rstart N rs) (L2.start N vs) := by
  unfold rstart L2.start
  refine ⟨by simp [r.length], fun i z e => ?_⟩
  have hi : i < rs.length := by
    by_cases hi : i < rs.length
    · exact hi
    · rw [List.getElem?_append_right (by simpa using hi), List.getElem?_replicate] at e
      split at e <;> cases e
  rw [List.getElem?_append_left (by simpa using hi), List.getElem?_map] at e
  cases q : rs[i]? with
  | none => rw [q] at e; cases e
  | some y =>
    rw [q] at e; cases e
    obtain ⟨v, e1, r1⟩ := r.get q
    exact ⟨v, by rw [List.getElem?_append_left (by rw [List.length_map, ← r.length]; exact hi), List.getElem?_map, e1]; rfl, r1⟩
theorem rfn {P : Program} {w : World} {K : PySem.W.Frag} {mg : Str → Option Value} {base : Heap} {qual : Str} {st : Stmt} {f : Addr} {fd : FuncData} {N : List Str} {t : RTS} (F : Fun K x qual st f fd) (S : FnScope N ps (defScope st)) (hm : mg x = some (.ref f)) (hb : Binds K fd ps [])
    (len : ∀ rs M Q, sp rs M Q → rs.length = ps.length)
    (term : ∀ (cdv : Value) (A : Around) (outer : List Env) (s : Shared) (H : Hp) (E : XK), Room k (A.deeper (envOfC qual (defScope st) s.heap.objs.size f cdv)) → RPSs (cxOf CX0 P w K mg base N qual (defScope st) f cdv A outer s H E).nox (defBody st) t)
    (body : ∀ rs M Q, sp rs M Q → t { nx := fun _ M' => Q .non M', rt := Q } (rstart N rs) M) : RFn P w K mg base (k + 1) x ps sp := by
  refine ⟨f, fd, hm, F.kp, hb, F.ok S (fun vs H Q0 E h => ?_) fun cdv A outer s H vs Q0 E hr h => ?_⟩
  · obtain ⟨rs, M, Q, rr, hv, hq, hk⟩ := h
    rw [← rr.length]; exact len rs M Q hq
  · obtain ⟨rs, M, Q, rr, hv, hq, hk⟩ := h
    refine ⟨_, term cdv A outer s H E hr, rstart N rs, M, { nx := fun _ M' => Q .non M', rt := Q }, start_rep rr, hv, body rs M Q hq, ⟨fun σ M' σ0 H' q e w r => hk .non M' .non H' q e w (by simp only [Rep]), hk, fun _ _ _ _ z => z.elim, fun _ _ _ _ z => z.elim⟩⟩
/-! ### for k in range(n) -/
def nums (n : Nat) : List RV := (List.range n).map fun (i : Nat) => RV.int (i : Int)
def rRng (g : RTG) (tb : RTS) (D : RD) (σ : RSt) : List RV → RM → Prop := fun rs M => match rs with
  | [.int n] => -(2 ^ 62) ≤ n ∧ n < 2 ^ 62 ∧ rForL g tb D (nums n.toNat) σ M
  | _ => False
def rForR (te : RTE) (g : RTG) (tb : RTS) : RTS := fun D σ M => te σ M fun v M1 => rRng g tb D σ [v] M1
theorem nums_rep {K : PySem.W.Frag} {H : Hp} (n : Nat) : Reps K H (nums n) ((List.range n).map fun (i : Nat) => V.int (i : Int)) := by
  unfold nums
  induction (List.range n) with
  | nil => exact Reps.nil
  | cons a l ih => exact Reps.cons (by simp only [Rep]) ih
theorem nums_len (n : Nat) : (nums n).length = n := by simp [nums]
end
section
variable {X : Cx}
theorem sforR {tg a : Expr} {body : List Stmt} {te : RTE} {g : RTG} {tb : RTS} {p pos pos' : Pos} (hp : PassesOwn (model X.prog X.w) X.A X.env X.xe) (hc : X.calm = true) (hm : X.mg "range" = none) (ha : RPE X a te) (hg : RPG X tg g) (hb : RPSs X body tb) (hgl : Gl X "range" := by rfl)
    (hst : starEach [a] X.env = [(false, eval a X.env)] := by rfl) (hs : ∀ x, foldedSetIterable (.Call (.Name "range" p) [a] [] pos') X.env x = pure x := by intro _; rfl) (hsc : starEach (a :: []) X.env = (false, eval a X.env) :: starEach [] X.env := by rfl) :
    RPS X (.For tg (.Call (.Name "range" p) [a] [] pos') body [] pos) (rForR te g tb) := PS.imp (ps_for hp hc (pi_range1 hgl hm (acons ha anil hsc) hst) hg hb hs) fun D0 σ0 H h => by
  obtain ⟨σ, M, D, hs, hv, ht, hd⟩ := h
  refine ⟨σ, M, rRng g tb D σ, hs, hv, ht, fun rs M1 vs H1 q e1 v1 r1 => ?_⟩
  unfold rRng at q
  split at q
  · rename_i n
    obtain ⟨q1, q2, q⟩ := q
    obtain ⟨v, rfl, r2⟩ := r1.one
    simp only [Rep] at r2
    subst r2
    have rr := nums_rep (K := X.K) (H := H1) n.toNat
    refine ⟨n, rfl, q1, q2, for_range (lo := 0) (n := n.toNat) (fun i σ0 H => ∃ σ M, RepSt X.K H σ σ0 ∧ View X.K H M ∧ rForL g tb D ((nums n.toNat).drop i) σ M ∧ Ext H1 H) ⟨σ, M1, hs.ext e1, v1, by simpa using q, .refl _⟩
      (fun i σ0 H hi h => ?_) fun σ0 H ⟨σ, M, hs, hv, hf, e⟩ => ?_⟩
    · have e0 : (0 : Int) + (i : Int) = (i : Int) := by omega
      rw [e0]
      exact forL_turn (hd.ext e1) rr i (.int i) σ0 H (by simp [hi]) h
    · have e2 : (nums n.toNat).drop n.toNat = [] := List.drop_eq_nil_of_le (by rw [nums_len]; exact Nat.le_refl _)
      rw [e2] at hf
      exact hd.nx σ M σ0 H hf (e1.trans e) hv hs
  · exact q.elim
end
end R

set_option Elab.async false
set_option linter.all false
set_option maxRecDepth 100000
set_option maxHeartbeats 1000000
namespace R
open PySem PySem.Spec PyProof.Rows L2
/-! ### what is walked -/
structure ItOf (K : PySem.W.Frag) (J : It) (xs : List RV) (H1 : Hp) : Prop where
  turn : ∀ i H, Ext H1 H → ∀ x, xs[i]? = some x → J.go i H ∧ ∀ v H', J.yld i H v H' → Ext H H' ∧ (∀ M, View K H M → View K H' M) ∧ Rep K H' x v
  stop : ∀ i H, Ext H1 H → xs.length ≤ i → J.stop i H
abbrev RTI := RSt → RM → (List RV → RM → Prop) → Prop
def upI (K : PySem.W.Frag) (ti : RTI) : TI := fun σ0 H R => ∃ σ M Q, RepSt K H σ σ0 ∧ View K H M ∧ ti σ M Q ∧ ∀ xs M' J H', Q xs M' → Ext H H' → View K H' M' → ItOf K J xs H' → R J H'
def RPI (X : Cx) (tg iter : Expr) (ti : RTI) : Prop := PI X tg iter (upI X.K ti)
section
variable {X : Cx} {tg : Expr}
def rItS (te : RTE) : RTI := fun σ M Q => te σ M fun v M1 => match v with
  | .tup xs => Q xs M1
  | .ls xs => Q xs M1
  | _ => False
theorem itl_of {K : PySem.W.Frag} {H1 : Hp} {a : Addr} {rs : List RV} {vs : List V} (h : Fz K H1 a vs) (r : Reps K H1 rs vs) : ItOf K (Itl K a) rs H1 where
  turn := fun i H e x hx => by
    obtain ⟨v, e1, r1⟩ := r.get hx
    refine ⟨⟨vs, v, (h.ext e).sq, e1⟩, fun v' H' y => ?_⟩
    obtain ⟨rfl, y⟩ := y
    have := y vs (h.ext e).sq
    rw [e1] at this; cases this
    exact ⟨.refl _, fun _ w => w, Rep.ext e x v r1⟩
  stop := fun i H e hi => ⟨vs, (h.ext e).sq, by rw [← r.length]; exact hi⟩
theorem itt_of {K : PySem.W.Frag} {H1 : Hp} {a : Addr} {rs : List RV} {vs : List V} (h : SqT K H1 a vs) (r : Reps K H1 rs vs) : ItOf K (Itt K a) rs H1 where
  turn := fun i H e x hx => by
    obtain ⟨v, e1, r1⟩ := r.get hx
    refine ⟨⟨vs, v, SqT.ext e h, e1⟩, fun v' H' y => ?_⟩
    obtain ⟨rfl, y⟩ := y
    have := y vs (SqT.ext e h)
    rw [e1] at this; cases this
    exact ⟨.refl _, fun _ w => w, Rep.ext e x v r1⟩
  stop := fun i H e hi => ⟨vs, SqT.ext e h, by rw [← r.length]; exact hi⟩
theorem itr_of {K : PySem.W.Frag} {H1 : Hp} (n : Nat) : ItOf K (Itr 0 n) (nums n) H1 where
  turn := fun i H e x hx => by
    have hi : i < n := by have := (List.getElem?_eq_some_iff.mp hx).1; rw [nums_len] at this; exact this
    have hx' : x = .int (i : Int) := by simp [nums, hi] at hx; exact hx.symm
    subst hx'
    refine ⟨hi, fun v' H' y => ?_⟩
    obtain ⟨rfl, rfl⟩ := y
    exact ⟨.refl _, fun _ w => w, by simp only [Rep]; simp⟩
  stop := fun i H e hi => by rw [nums_len] at hi; exact hi
theorem iseq {l : Expr} {te : RTE} (hl : RPE X l te) : RPI X tg l (rItS te) := by
  intro pins s σ0 H R I h
  obtain ⟨σ, M, Q, hs, hv, ht, hk⟩ := h
  refine thn (hl pins s σ0 H (fun x H1 => (∃ a vs rs M1, x = .ref a ∧ Fz X.K H1 a vs ∧ Reps X.K H1 rs vs ∧ Q rs M1 ∧ Ext H H1 ∧ View X.K H1 M1) ∨ ∃ a vs rs M1, x = .ref a ∧ SqT X.K H1 a vs ∧ Reps X.K H1 rs vs ∧ Q rs M1 ∧ Ext H H1 ∧ View X.K H1 M1) I ⟨σ, M, _, hs, hv, ht, fun rv M1 v H1 q e1 v1 r1 => ?_⟩) fun v s1 ⟨x, H1, I1, r1, q1⟩ => ?_
  · cases rv with
    | ls xs => simp only [Rep] at r1; obtain ⟨a, vs, rfl, h1, h2⟩ := r1; exact .inl ⟨a, vs, xs, M1, rfl, h1, h2, q, e1, v1⟩
    | tup xs => simp only [Rep] at r1; obtain ⟨a, vs, rfl, h1, h2⟩ := r1; exact .inr ⟨a, vs, xs, M1, rfl, h1, h2, q, e1, v1⟩
    | _ => exact (show False from q).elim
  · rcases q1 with ⟨a, vs, rs, M1, rfl, h1, h2, q, e1, v1⟩ | ⟨a, vs, rs, M1, rfl, h1, h2, q, e1, v1⟩
    · cases r1
      obtain ⟨its, rv, p, hz⟩ := I1.list h1.sq
      refine wpAny_pyIter_list p.isList ?_
      refine ⟨s1.heap.objs.size, [s1.heap.objs.size], _, _, H1, rfl, I1.kept (t' := s1.toks) fun b o e => Heap.get?_push_of_some _ e, turn_list a _, ⟨_, Heap.get?_push_size _ rfl, rfl, rfl⟩, fun b hb => ?_, hk rs M1 _ H1 q e1 v1 (itl_of h1 h2)⟩
      have e : b = s1.heap.objs.size := by simpa using hb
      subst e
      exact I1.fpOk (Nat.le_refl _) (I1.hok.fresh (Nat.le_refl _))
    · cases r1
      obtain ⟨its, rv, p, hz⟩ := I1.tuple h1
      refine wpAny_pyIter_tuple (show s1.heap.IsTuple a its.toArray from p) ?_
      refine ⟨s1.heap.objs.size, [s1.heap.objs.size], _, _, H1, rfl, I1.kept (t' := s1.toks) fun b o e => Heap.get?_push_of_some _ e, turn_tuple a _, ⟨_, Heap.get?_push_size _ rfl, rfl, rfl⟩, fun b hb => ?_, hk rs M1 _ H1 q e1 v1 (itt_of h1 h2)⟩
      have e : b = s1.heap.objs.size := by simpa using hb
      subst e
      exact I1.fpOk (Nat.le_refl _) (I1.hok.fresh (Nat.le_refl _))
def rRngI (Q : List RV → RM → Prop) : List RV → RM → Prop := fun rs M => match rs with
  | [.int n] => -(2 ^ 62) ≤ n ∧ n < 2 ^ 62 ∧ Q (nums n.toNat) M
  | _ => False
def rItR (te : RTE) : RTI := fun σ M Q => te σ M fun v M1 => rRngI Q [v] M1
theorem PI.imp {iter : Expr} {t t' : TI} (h : PI X tg iter t) (i : ∀ σ H R, t' σ H R → t σ H R) : PI X tg iter t' := fun pins s σ H R I w => h pins s σ H R I (i σ H R w)
theorem irange {a : Expr} {te : RTE} {p pos : Pos} (hm : X.mg "range" = none) (ha : RPE X a te) (hgl : Gl X "range" := by rfl) (hst : starEach [a] X.env = [(false, eval a X.env)] := by rfl) (hsc : starEach (a :: []) X.env = (false, eval a X.env) :: starEach [] X.env := by rfl) :
    RPI X tg (.Call (.Name "range" p) [a] [] pos) (rItR te) := PI.imp (pi_range1 hgl hm (acons ha anil hsc) hst) fun σ0 H R h => by
  obtain ⟨σ, M, Q, hs, hv, ht, hk⟩ := h
  refine ⟨σ, M, rRngI Q, hs, hv, ht, fun rs M1 vs H1 q e1 v1 r1 => ?_⟩
  unfold rRngI at q
  split at q
  · rename_i n
    obtain ⟨q1, q2, q⟩ := q
    obtain ⟨v, rfl, r2⟩ := r1.one
    simp only [Rep] at r2
    subst r2
    exact ⟨n, rfl, q1, q2, hk _ M1 _ H1 q e1 v1 (itr_of _)⟩
  · exact q.elim
/-! ### for, over anything -/
def rForI (ti : RTI) (g : RTG) (tb : RTS) : RTS := fun D σ M => ti σ M fun xs M1 => rForL g tb D xs σ M1
theorem sfor {iter : Expr} {body : List Stmt} {ti : RTI} {g : RTG} {tb : RTS} {pos : Pos} (hp : PassesOwn (model X.prog X.w) X.A X.env X.xe) (hc : X.calm = true) (hi : RPI X tg iter ti) (hg : RPG X tg g) (hb : RPSs X body tb)
    (hs : ∀ x, foldedSetIterable iter X.env x = pure x := by intro _; rfl) : RPS X (.For tg iter body [] pos) (rForI ti g tb) := PS.imp (ps_for hp hc hi hg hb hs) fun D0 σ0 H h => by
  obtain ⟨σ, M, D, hs, hv, ht, hd⟩ := h
  refine ⟨σ, M, _, hs, hv, ht, fun xs M1 J H1 q e1 v1 hJ => ?_⟩
  refine ⟨fun i m σ0 H => m = xs.length - i ∧ i ≤ xs.length ∧ ∃ σ M, RepSt X.K H σ σ0 ∧ View X.K H M ∧ rForL g tb D (xs.drop i) σ M ∧ Ext H1 H, ⟨_, rfl, Nat.zero_le _, σ, M1, hs.ext e1, v1, by simpa using q, .refl _⟩, ?_⟩
  rintro i m σ0 H ⟨rfl, hi, σ, M, hs, hv, hf, e⟩
  by_cases hlt : i < xs.length
  · have ed : xs.drop i = xs[i] :: xs.drop (i + 1) := by simp
    rw [ed] at hf
    obtain ⟨hgo, hy⟩ := hJ.turn i H e xs[i] (by simp)
    refine .inr ⟨hgo, fun σ0 H => ∃ σ M, RepSt X.K H σ σ0 ∧ View X.K H M ∧ rForL g tb D (xs.drop (i + 1)) σ M ∧ Ext H1 H, fun σ' H' h => ⟨_, by omega, rfl, hlt, h⟩, fun x H' y => ?_⟩
    obtain ⟨e2, w2, r2⟩ := hy x H' y
    refine ⟨xs[i], σ, M, _, r2, hs.ext e2, w2 M hv, hf, fun σ' M' σ0' H'' q e3 v3 r3 => ?_⟩
    have e13 := (e.trans e2).trans e3
    refine ⟨σ', M', _, r3, v3, q, ⟨fun σ4 M4 σ04 H4 q4 e4 v4 r4 => ⟨σ4, M4, r4, v4, q4, e13.trans e4⟩, (hd.ext (e1.trans e13)).rt, (hd.ext (e1.trans e13)).nx, fun σ4 M4 σ04 H4 q4 e4 v4 r4 => ⟨σ4, M4, r4, v4, q4, e13.trans e4⟩⟩⟩
  · have ei : i = xs.length := by omega
    subst ei
    rw [List.drop_length] at hf
    exact .inl ⟨hJ.stop _ H e (Nat.le_refl _), hd.nx σ M σ0 H hf (e1.trans e) hv hs⟩
end
/-! ### a comprehension's block -/
theorem closure_ok {env : Env} : ∀ (scope : Scope), (∀ y ∈ scope.names, y.2 = .free → ∃ c, env.cells.lookup y.1 = some c) → ∃ cl, closureFor scope env = pure cl ∧ (∀ y c, cl.lookup y = some c → env.cells.lookup y = some c) ∧ ∀ y ∈ scope.names, y.2 = .free → ∃ c, cl.lookup y.1 = some c := by
  intro scope h
  have all : ∀ (l : List (Str × NameKind)) (cs : List (Str × Addr)), (∀ y ∈ l, y.2 = .free → ∃ c, env.cells.lookup y.1 = some c) → (∀ y c, cs.lookup y = some c → env.cells.lookup y = some c) →
      ∃ cl, (forIn l cs fun (x : Str × NameKind) (r : List (Str × Addr)) => (match x with | (name, kind) => if (kind == NameKind.free) = true then do let c ← cellOf env name; pure (ForInStep.yield ((name, c) :: r)) else pure (ForInStep.yield r) : Sem (ForInStep (List (Str × Addr))))) = (pure cl : Sem _) ∧
        (∀ y c, cl.lookup y = some c → env.cells.lookup y = some c) ∧ (∀ y c, cs.lookup y = some c → ∃ c', cl.lookup y = some c') ∧ ∀ y ∈ l, y.2 = .free → ∃ c, cl.lookup y.1 = some c := by
    intro l
    induction l with
    | nil => intro cs _ h2; exact ⟨cs, by simp, h2, fun y c e => ⟨c, e⟩, fun y hy => by cases hy⟩
    | cons x l ih =>
      intro cs h1 h2
      obtain ⟨n, k⟩ := x
      by_cases hk : k = .free
      · subst hk
        obtain ⟨c, ec⟩ := h1 (n, .free) List.mem_cons_self rfl
        have e0 : cellOf env n = pure c := by unfold cellOf; rw [ec]
        obtain ⟨cl, e1, e2, e3, e4⟩ := ih ((n, c) :: cs) (fun y hy => h1 y (List.mem_cons_of_mem _ hy)) (fun y d e => by
          rw [List.lookup_cons] at e
          split at e
          · rename_i z; cases e; rw [eq_of_beq z]; exact ec
          · exact h2 y d e)
        refine ⟨cl, ?_, e2, fun y d e => ?_, fun y hy hf => ?_⟩
        · rw [List.forIn_cons]
          simp only [beq_self_eq_true, if_true, e0, pure_bind]
          exact e1
        · by_cases hy : y = n
          · subst hy; exact e3 y c (by simp)
          · exact e3 y d (by rw [List.lookup_cons, beq_eq_false_iff_ne.mpr hy]; exact e)
        · rcases List.mem_cons.mp hy with rfl | hy
          · exact e3 n c (by simp)
          · exact e4 y hy hf
      · obtain ⟨cl, e1, e2, e3, e4⟩ := ih cs (fun y hy => h1 y (List.mem_cons_of_mem _ hy)) h2
        have hb : (k == NameKind.free) = false := by simpa using hk
        refine ⟨cl, ?_, e2, e3, fun y hy hf => ?_⟩
        · rw [List.forIn_cons]
          simp only [hb, Bool.false_eq_true, if_false, pure_bind]
          exact e1
        · rcases List.mem_cons.mp hy with rfl | hy
          · exact absurd hf hk
          · exact e4 y hy hf
  obtain ⟨cl, e1, e2, _, e4⟩ := all scope.names [] h (fun y c e => by simp at e)
  refine ⟨cl, ?_, e2, e4⟩
  unfold closureFor
  have e5 := congrArg (fun m => m >>= fun r => (pure r : Sem (List (Str × Addr)))) e1
  simp only [pure_bind] at e5
  rw [← e5]
def relF (env : Env) (p : Str × NameKind) : Str × NameKind := if (p.2 == NameKind.free && env.scope.kind == .function && env.kindOf p.1 == some .cell) then (p.1, NameKind.cell) else (p.1, p.2)
theorem relF_eq (env : Env) (names : List (Str × NameKind)) : (names.map fun (n, k) => if (k == NameKind.free && env.scope.kind == .function && env.kindOf n == some .cell) then (n, NameKind.cell) else (n, k)) = names.map (relF env) := rfl
theorem relF_fst (env : Env) (p : Str × NameKind) : (relF env p).1 = p.1 := by unfold relF; split <;> rfl
theorem relF_snd (env : Env) (p : Str × NameKind) : (relF env p).2 = p.2 ∨ ((relF env p).2 = .cell ∧ p.2 = .free) := by
  unfold relF
  split
  · rename_i h
    rw [Bool.and_eq_true, Bool.and_eq_true] at h
    exact .inr ⟨rfl, eq_of_beq h.1.1⟩
  · exact .inl rfl
theorem lookup_relF {env : Env} {x : Str} : ∀ {names : List (Str × NameKind)}, (names.map (relF env)).lookup x = (names.find? fun p => x == p.1).map fun p => (relF env p).2
  | [] => rfl
  | p :: r => by
    rw [List.map_cons, List.find?_cons]
    obtain ⟨n, k⟩ := p
    have e : relF env (n, k) = (n, (relF env (n, k)).2) := Prod.ext (relF_fst env (n, k)) rfl
    rw [e, List.lookup_cons]
    cases hx : x == n with
    | true => rfl
    | false => exact lookup_relF
theorem lookup_find {x : Str} : ∀ {names : List (Str × NameKind)}, names.lookup x = (names.find? fun p => x == p.1).map fun p => p.2
  | [] => rfl
  | (n, k) :: r => by
    rw [List.lookup_cons, List.find?_cons]
    cases hx : x == n with
    | true => rfl
    | false => exact lookup_find
theorem relabel_back {env : Env} {names : List (Str × NameKind)} {x : Str} {k : NameKind} (hc : ∀ y ∈ names, y.2 ≠ .cell) (hk : k = .cell ∨ k = .free)
    (h : (names.map (relF env)).lookup x = some k) : names.lookup x = some .free := by
  rw [lookup_relF] at h
  rw [lookup_find]
  cases e : names.find? fun p => x == p.1 with
  | none => rw [e] at h; cases h
  | some p =>
    rw [e] at h
    have h' : (relF env p).2 = k := Option.some.inj h
    have hp := List.mem_of_find?_eq_some e
    show some p.2 = some .free
    rcases relF_snd env p with z | z
    · rcases hk with rfl | rfl
      · exact absurd (z.symm.trans h') (hc p hp)
      · rw [← h', z]
    · rw [z.2]
theorem relabel_free {env : Env} {names : List (Str × NameKind)} {x : Str} (h : names.lookup x = some .free) : (names.map (relF env)).lookup x = some .cell ∨ (names.map (relF env)).lookup x = some .free := by
  rw [lookup_find] at h
  rw [lookup_relF]
  cases e : names.find? fun p => x == p.1 with
  | none => rw [e] at h; cases h
  | some p =>
    rw [e] at h
    have h' : p.2 = .free := Option.some.inj h
    show some (relF env p).2 = some .cell ∨ some (relF env p).2 = some .free
    rcases relF_snd env p with z | z
    · right; rw [z, h']
    · left; rw [z.1]
def blk (X : Cx) (scope : Scope) (cl : List (Str × Addr)) (C : Addr) (Nc : List Str) (s : Shared) (H : Hp) (fp : List Addr) : Cx :=
  { X with N := Nc, s₀ := s, H₀ := H, env := compEnvC scope cl C X.env, outer := X.stack, ex := fp, fn := fun _ => false, pn := [], xe := fun _ _ => False }
theorem blk_ok {X : Cx} {pins : List (Addr × Obj)} {σ : L2.St} {H : Hp} {s : Shared} {scope : Scope} {cl : List (Str × Addr)} {C : Addr} {Nc : List Str} {fp : List Addr} (I : Inv X pins σ H s) (hf : ∀ b ∈ fp, FpOk X pins H b) (hlt : ∀ b ∈ fp, b < s.heap.objs.size)
    (hkind : scope.kind = .function) (hC : s.heap.objs.size ≤ C) (h1 : ∀ y c, cl.lookup y = some c → X.env.cells.lookup y = some c) (h2 : ∀ y ∈ scope.names, y.2 = .free → ∃ c, cl.lookup y.1 = some c) (hcell : ∀ y ∈ scope.names, y.2 ≠ .cell) :
    (blk X scope cl C Nc s H fp).Ok where
  mod := I.ok.mod
  kind := hkind
  glob := I.ok.glob
  blt := I.ok.blt
  above := hC
  inj := fun x y c e1 e2 => I.ok.inj x y c (h1 x c e1) (h1 y c e2)
  has := fun x hx => by
    have e : scope.names.lookup x = some .free := by
      rcases hx with hx | hx
      · exact relabel_back hcell (.inl rfl) hx
      · exact relabel_back hcell (.inr rfl) hx
    exact h2 (x, .free) (PySem.mem_of_lookup e) rfl
  cab := fun x c z => by cases z
  hd := I.ok.hd
  frames := I.ok.frames
  stk := .inl rfl
  exf := fun b hb => ⟨fun z => absurd (Nat.lt_of_lt_of_le (hlt b hb) hC) (by rw [show b = C from z]; exact Nat.lt_irrefl _), fun x c e => (hf b hb).2.2.2.2.1 x c (h1 x c e)⟩
  bs := fun b o e => I.bs b o e
  bsz := Nat.le_trans I.ok.bsz I.sz
  noex := fun b o e hb => by
    rcases (hf b hb).2.2.2.1 with z | z
    · exact I.ok.noex b o e z
    · exact absurd (Nat.lt_of_lt_of_le (Heap.lt_size e) (Nat.le_trans I.ok.bsz z)) (Nat.lt_irrefl _)
  exfs := fun b hb z => by
    rcases List.mem_cons.mp (I.stkSub b z) with e | e
    · exact (hf b hb).2.1 e
    · exact (hf b hb).2.2.1 e
  funs := I.stack
  frf := I.stkFree
end R

set_option Elab.async false
set_option linter.all false
set_option maxRecDepth 100000
set_option maxHeartbeats 1000000
namespace R
open PySem PySem.Spec PyProof.Rows L2
section
variable {prog : Program} {w : World} {A : Around} {R : Result → Shared → Prop} {s : Shared}
abbrev Nv : Value → Shared → Prop := fun _ _ => False
abbrev testsOf (ifs : List Expr) (env : Env) : Sem Bool := forIn ifs true fun c r => if r = true then do let ok ← isTrue c env (eval c env); pure (ForInStep.yield ok) else pure (ForInStep.yield r)
theorem comp_loop {elt target iter : Expr} {ifs : List Expr} {scope : Scope} {pos : Pos} {it acc : Value} {env : Env} (I : Nat → Shared → Prop)
    (turn : ∀ n s, I n s → wpAny (model prog w) A (pyNext it) (fun r s₁ => (r = none ∧ R (.ok .next) s₁) ∨ ∃ v, r = some v ∧ wpAny (model prog w) A (letOwnedTupleGo target it v) (fun _ s₁' => wpAny (model prog w) A (assign target env v) (fun _ s₂ =>
          wpAny (model prog w) A (testsOf ifs env) (fun ok s₃ =>
            if ok = true then wpAny (model prog w) A (eval elt env) (fun x s₄ =>
              wpAny (model prog w) A (call (.builtin "list.append") [acc, x]) (fun _ s₅ => ∃ m, m < n ∧ I m s₅) Nv s₄) Nv s₃
            else ∃ m, m < n ∧ I m s₃) Nv s₂) Nv s₁') Nv s₁) Nv s)
    (n : Nat) (h : I n s) :
    codeAny (model prog w) A (.compLoop (.ListComp elt [⟨target, iter, ifs, 0⟩] scope pos) 0 it acc env) R s := by
  refine codeAny_loop rfl I (fun n s hI => ?_) n h
  show wpAny _ A ((compTurn (.ListComp elt [⟨target, iter, ifs, 0⟩] scope pos) 0 it acc env).onRaise (fun x => do noteFrame x env; theTreesLotGoes x)) _ _ s
  refine wpAny_noted ?_
  rw [compTurn_list]
  refine wpAny_bind (wpAny_standAt (wpAny_bind (wpAny_mono (turn n s hI) (fun r s₁ h₁ => ?_) fun _ _ h' => h'.elim)))
  rcases h₁ with ⟨rfl, h₁⟩ | ⟨v, rfl, h₁⟩
  · exact wpAny_pure h₁
  · refine wpAny_bind (wpAny_mono h₁ (fun _ s₁' h₁' => ?_) fun _ _ h' => h'.elim)
    refine wpAny_bind (wpAny_mono h₁' (fun _ s₂ h₂ => wpAny_bind (wpAny_mono h₂ (fun ok s₃ h₃ => ?_) fun _ _ h' => h'.elim)) fun _ _ h' => h'.elim)
    cases ok with
    | false => exact wpAny_pure ⟨rfl, h₃⟩
    | true =>
      exact wpAny_bind (wpAny_bind (wpAny_mono h₃ (fun x s₄ h₄ => wpAny_bind (wpAny_mono h₄ (fun _ s₅ h₅ => wpAny_pure (wpAny_pure ⟨rfl, h₅⟩)) fun _ _ h' => h'.elim)) fun _ _ h' => h'.elim))
end
/-! ### the tests of a block -/
def RPTs (X : Cx) (ifs : List Expr) (t : RTT) : Prop :=
  ∀ (pins : List (Addr × Obj)) (s : Shared) (σ : L2.St) (H : Hp) (Q : Bool → Hp → Prop), Inv X pins σ H s → upT X.K t σ H Q → wpAny (model X.prog X.w) X.A (testsOf ifs X.env) (TP X pins σ Q) X.xe s
def rYes : RTT := fun _ M Q => Q true M
theorem tnil {X : Cx} : RPTs X [] rYes := by
  intro pins s σ0 H Q0 I h
  obtain ⟨σ, M, Q, hs, hv, ht, hk⟩ := h
  exact wpAny_pure ⟨H, I, hk true M H ht (.refl H) hv⟩
theorem tone {X : Cx} {c : Expr} {t : RTT} (h : RPT X c t) : RPTs X [c] t := by
  intro pins s σ0 H Q0 I hw
  have := h pins s σ0 H Q0 I hw
  unfold testsOf
  rw [List.forIn_cons]
  simp only [if_true, bind_assoc, pure_bind]
  refine wpAny_bind (thn this fun b s' q => ?_)
  simp only [List.forIn_nil]
  exact wpAny_pure q
def rCompL (tt : RTT) (te : RTE) (base : List (Option RV)) : List RV → List RV → RM → RVK → Prop
  | [], acc, M, Q => Q (.ls acc) M
  | x :: r, acc, M, Q => tt (some x :: base) M fun ok M1 => (ok = true → te (some x :: base) M1 fun v M2 => rCompL tt te base r (acc ++ [v]) M2 Q) ∧ (ok = false → rCompL tt te base r acc M1 Q)
def rComp (ti : RTI) (cap : List Nat) (tt : RTT) (te : RTE) : RTE := fun σ M Q => ti σ M fun xs M1 => xs.length < sizeLine ∧ rCompL tt te (cap.map fun i => (σ[i]?).join) xs [] M1 Q
section
variable {X : Cx}
theorem rcomp {elt iter : Expr} {x : Str} {px : Pos} {scope : Scope} {pos : Pos} {ti : RTI} {tt : RTT} {te : RTE} {ifs : List Expr} (caps : List (Nat × Str)) {osc : Scope} {oN : List Str}
    (hc : X.calm = true) (hi : RPI X (.Name x px) iter ti)
    (hif : ∀ cl C s H fp, RPTs (blk X scope cl C (x :: caps.map Prod.snd) s H fp) ifs tt)
    (hel : ∀ cl C s H fp, RPE (blk X scope cl C (x :: caps.map Prod.snd) s H fp) elt te)
    (hX : X.env.scope = osc) (hN : X.N = oN)
    (hcaps : ∀ p ∈ caps, oN[p.1]? = some p.2 ∧ scope.names.lookup p.2 = some .free ∧ (osc.names.lookup p.2 = some .cell ∨ osc.names.lookup p.2 = some .free))
    (hfr : ∀ y ∈ scope.names, y.2 = .free → (osc.names.lookup y.1 = some .cell ∨ osc.names.lookup y.1 = some .free))
    (hcell : ∀ y ∈ scope.names, y.2 ≠ .cell) (hkind : scope.kind = .function) (hnames : ∀ y ∈ scope.names, y.2 = .local → scope.names.lookup y.1 = some .local) (hx : scope.names.lookup x = some .local) (hnd : (x :: caps.map Prod.snd).Nodup)
    (hs : ∀ v, foldedSetIterable iter X.env v = pure v := by intro _; rfl) :
    RPE X (.ListComp elt [⟨.Name x px, iter, ifs, 0⟩] scope pos) (rComp ti (caps.map Prod.fst) tt te) := by
  subst hX; subst hN
  intro pins s σ0 H Q0 I hw
  obtain ⟨σ, M, Q, hst, hv, ht, hk⟩ := hw
  obtain ⟨cl, hclos, hcl1, hcl2⟩ := closure_ok scope fun y hy hf => I.ok.has y.1 (hfr y hy hf)
  rw [eval_ListComp]
  refine wpAny_comprehension_free (use := none) (cl := cl) rfl hs hclos hkind hnames ?_
  refine wpAny_mono (hi pins s σ0 H (fun J H1 => ∃ xs M1, Ext H H1 ∧ View X.K H1 M1 ∧ ItOf X.K J xs H1 ∧ xs.length < sizeLine ∧ rCompL tt te ((caps.map Prod.fst).map fun i => (σ[i]?).join) xs [] M1 Q) I ⟨σ, M, _, hst, hv, ht, fun xs M' J H' q e w hJ => ⟨xs, M', e, w, hJ, q.1, q.2⟩⟩)
    (fun v s1 h1 => wpAny_mono h1 (fun itv s2 h2 => ?_) fun _ _ e => e) fun _ _ e => e
  obtain ⟨it, fp, tn, J, H2, rfl, I2, T, st2, f2, xs, M1, e2, w2, hJ, hz, hq⟩ := h2
  have flt : ∀ b ∈ fp, b < s2.heap.objs.size := fun b hb => by obtain ⟨o, e, _⟩ := T.obj _ _ st2 b hb; exact Heap.lt_size e
  -- the list and the frame of the block
  refine wpAny_newObj_type (wpAny_newFunctionEnv hcell (by intro y hy; simp at hy) (fun h₁ hns₁ hsb₁ => ?_) hkind)
  dsimp only at hns₁ hsb₁ ⊢
  generalize hH2 : s2.heap.push { cls := .type "list", dict := none, data := .seq ([] : List Value).toArray } = hp2 at hns₁ hsb₁ ⊢
  have hCs : hp2.objs.size = s2.heap.objs.size + 1 := by rw [← hH2, Heap.size_push]
  have hDC : s2.heap.objs.size ≠ hp2.objs.size := by rw [hCs]; exact Nat.ne_of_lt (Nat.lt_succ_self _)
  have hCle : s2.heap.objs.size ≤ hp2.objs.size := by rw [hCs]; exact Nat.le_succ _
  have old : ∀ b o, s2.heap.get? b = some o → h₁.get? b = some o := fun b o e => hsb₁.extBut b o (Nat.ne_of_lt (by rw [hCs]; exact Nat.lt_succ_of_lt (Heap.lt_size e))) (Heap.get?_push_of_some _ (hH2 ▸ Heap.get?_push_of_some _ e))
  have hacc : h₁.get? s2.heap.objs.size = some { cls := .type "list", data := .seq ([] : List Value).toArray } := hsb₁.extBut _ _ hDC (Heap.get?_push_of_some _ (hH2 ▸ Heap.get?_push_size _ rfl))
  generalize hD : s2.heap.objs.size = D at *
  generalize hCg : hp2.objs.size = C at *
  have hDfp : ∀ b ∈ fp, b ≠ D := fun b hb => Nat.ne_of_lt (flt b hb)
  have okB : (blk X scope cl C (x :: caps.map Prod.snd) s2 H2 fp).Ok := blk_ok I2 f2 (by rw [hD]; exact flt) hkind (by rw [hD]; exact hCle) hcl1 hcl2 hcell
  have fr : ∀ b, D ≤ b → H2 b = none := fun b hb => I2.hok.fresh (by rw [hD]; exact hb)
  -- the captured values
  have capsV : ∃ cv : List (Option V), cv.length = caps.length ∧ (∀ (j : Nat) v, cv[j]? = some (some v) → ∃ p, caps[j]? = some p ∧ σ0[p.1]? = some (some v)) ∧
      ∀ (j : Nat) r, ((caps.map Prod.fst).map fun i => (σ[i]?).join)[j]? = some (some r) → ∃ v, cv[j]? = some (some v) ∧ Rep X.K H2 r v := by
    refine ⟨caps.map fun p => (σ0[p.1]?).join, by simp, fun j v e => ?_, fun j r e => ?_⟩
    · rw [List.getElem?_map] at e
      cases q : caps[j]? with
      | none => rw [q] at e; cases e
      | some p =>
        rw [q] at e
        have e' : (σ0[p.1]?).join = some v := Option.some.inj e
        refine ⟨p, rfl, ?_⟩
        cases z : σ0[p.1]? with
        | none => rw [z] at e'; cases e'
        | some o => rw [z] at e'; have : o = some v := e'; rw [this]
    · rw [List.getElem?_map, List.getElem?_map] at e
      cases q : caps[j]? with
      | none => rw [q] at e; cases e
      | some p =>
        rw [q] at e
        have e' : (σ[p.1]?).join = some r := Option.some.inj e
        have e'' : σ[p.1]? = some (some r) := by
          cases z : σ[p.1]? with
          | none => rw [z] at e'; cases e'
          | some o => rw [z] at e'; have : o = some r := e'; rw [this]
        obtain ⟨v, h1, h2⟩ := hst.2 p.1 r e''
        refine ⟨v, ?_, Rep.ext e2 r v h2⟩
        rw [List.getElem?_map, q]
        show some ((σ0[p.1]?).join) = _
        rw [h1]; rfl
  obtain ⟨cv, cvl, cv1, cv2⟩ := capsV
  -- the block's state at its start
  have I3 : Inv (blk X scope cl C (x :: caps.map Prod.snd) s2 H2 fp) [(D, { cls := .type "list", data := .seq ([] : List Value).toArray })] (none :: cv) H2 { s2 with heap := h₁, toks := s2.toks + ([] : List (Str × Value)).length } := by
    refine ⟨okB, rfl, I2.bare, Un.kept old, ⟨_, hns₁, fun i y v a b c => ?_⟩, fun y c e => ?_, fr C hCle, fun y c e => I2.freeC y c (hcl1 y c e), fun p hp => ?_, I2.hok.kept old, ?_⟩
    · cases i with
      | zero => cases b
      | succ j =>
        obtain ⟨p, q1, q2⟩ := cv1 j v b
        have hy : p.2 = y := by
          have a' : (caps.map Prod.snd)[j]? = some y := a
          rw [List.getElem?_map, q1] at a'
          exact Option.some.inj a'
        subst hy
        obtain ⟨z1, z2, z3⟩ := hcaps p (List.mem_of_getElem? q1)
        obtain ⟨m, hn, hl⟩ := I2.loc
        have vis : Vis X.env.scope p.2 := by rcases z3 with z | z; exact .inr (.inl z); exact .inr (.inr z)
        obtain ⟨u, ru, lk⟩ := hl p.1 p.2 v z1 q2 vis
        refine ⟨u, ru, .inr ⟨relabel_free z2, ?_⟩⟩
        obtain ⟨c, ec⟩ := hcl2 (p.2, .free) (PySem.mem_of_lookup z2) rfl
        have ec' := hcl1 p.2 c ec
        rcases lk with ⟨k, _⟩ | ⟨_, c', e', ic⟩
        · have k' : X.env.scope.names.lookup p.2 = some .local := k
          rcases z3 with z | z <;> (rw [z] at k'; cases k')
        · rw [ec'] at e'; cases e'
          obtain ⟨o, ho, hd⟩ := ic
          exact ⟨c, ec, o, old c o ho, hd⟩
    · obtain ⟨v, o, ho, hd⟩ := I2.cell y c (hcl1 y c e)
      exact ⟨v, o, old c o ho, hd⟩
    · have hp' : p = (D, { cls := .type "list", data := .seq ([] : List Value).toArray }) := by simpa [blk] using hp
      subst hp'
      refine ⟨hacc, fr D (Nat.le_refl _), hDC, fun z => ?_, fun v => by simp⟩
      have := I2.stkFree D z
      rcases List.mem_cons.mp (I2.stkSub D z) with e | e
      · exact absurd I2.lt (by rw [← e, hD]; exact Nat.lt_irrefl _)
      · exact I2.nofs (by rw [hD]; exact Nat.le_refl _) e
    · show (none :: cv).length = (x :: caps.map Prod.snd).length
      simp [cvl]
  -- the loop
  have W : ∀ s3 : Shared, s3 = { s2 with heap := h₁, toks := s2.toks + ([] : List (Str × Value)).length } → codeAny (model X.prog X.w) X.A (.compLoop (.ListComp elt [⟨.Name x px, iter, ifs, 0⟩] scope pos) 0 (.ref it) (.ref D) (compEnvC scope cl C X.env))
      (compPost (model X.prog X.w) X.A X.xe none (EP X pins σ0 Q0) (.ref D) C) s3 := by
    rintro s3 rfl
    refine comp_loop (fun n s' => ∃ (i : Nat) (v0 : Option V) (H' : Hp) (M' : RM) (accR : List RV) (accV : List V) (its : List Value) (k : Nat), n = xs.length - i ∧ i ≤ xs.length ∧ accR.length ≤ i ∧
        Inv (blk X scope cl C (x :: caps.map Prod.snd) s2 H2 fp) [(D, { cls := .type "list", data := .seq its.toArray k })] (v0 :: cv) H' s' ∧ View X.K H' M' ∧ Ext H2 H' ∧ Reps X.K H' accR accV ∧ Vals accV its ∧ tn i s'.heap ∧ (∀ b ∈ fp, H' b = none) ∧
        rCompL tt te ((caps.map Prod.fst).map fun i => (σ[i]?).join) (xs.drop i) accR M' Q) ?_ xs.length ⟨0, none, H2, M1, [], [], [], 0, rfl, Nat.zero_le _, Nat.le_refl _, I3, w2, .refl _, Reps.nil, .nil, T.keep _ _ _ st2 fun b _ o e => old b o e, fun b hb => (f2 b hb).1, by simpa using hq⟩
    rintro n s' ⟨i, v0, H', M', accR, accV, its, k, rfl, hi, hal, I4, w4, e4, ra, rl, st4, f4, hq4⟩
    have fpB : ∀ (pins' : List (Addr × Obj)) (H'' : Hp), (∀ b ∈ fp, H'' b = none) → (∀ p ∈ pins', ∀ b ∈ fp, p.1 ≠ b) → ∀ b ∈ fp, FpOk (blk X scope cl C (x :: caps.map Prod.snd) s2 H2 fp) pins' H'' b := fun pins' H'' h1 h2 b hb =>
      ⟨h1 b hb, (okB.exf b hb).1, okB.exfs b hb, .inl hb, (okB.exf b hb).2, fun p hp => h2 p (by simpa [blk] using hp) b hb⟩
    have pD : ∀ (o : Obj), ∀ p ∈ [(D, o)], ∀ b ∈ fp, p.1 ≠ b := fun o p hp b hb => by
      have : p = (D, o) := by simpa using hp
      subst this
      exact (hDfp b hb).symm
    by_cases hlt : i < xs.length
    · obtain ⟨hgo, hy⟩ := hJ.turn i H' e4 xs[i] (by simp)
      refine thn (T.item (blk X scope cl C (x :: caps.map Prod.snd) s2 H2 fp) rfl rfl rfl hc i _ s' _ H' Nv I4 (fpB _ _ f4 (pD _)) st4 hgo) fun r s5 ⟨u, hr, h5⟩ => .inr ⟨u, hr, ?_⟩
      refine thn h5 fun _ s6 ⟨xv, H6, I6, r6, y6, st6, f6⟩ => ?_
      obtain ⟨e6, w6, rr6⟩ := hy xv H6 y6
      have I6' := I6.pinned (fpB _ _ f6 (pD _)) (T.obj _ _ st6)
      refine thn (pg_name (X := blk X scope cl C (x :: caps.map Prod.snd) s2 H2 fp) (i := 0) hnd rfl (.inl (lookup_relabel_local hx)) (.inr (lookup_relabel_local hx)) _ s6 _ H6 xv u (fun σ' H' => σ' = (some xv :: cv) ∧ H' = H6) I6' r6 ⟨rfl, rfl⟩) fun _ s7 ⟨σ7, H7, I7, q7, q7'⟩ => ?_
      obtain rfl := q7
      subst q7'
      have ed : xs.drop i = xs[i] :: xs.drop (i + 1) := by simp
      rw [ed] at hq4
      have base : ∀ {Hx : Hp}, Ext H7 Hx → RepSt X.K Hx (some xs[i] :: (caps.map Prod.fst).map fun i => (σ[i]?).join) (some xv :: cv) := fun {Hx} ex => by
        refine ⟨by simp [cvl], fun j r e => ?_⟩
        cases j with
        | zero =>
          have e' : xs[i] = r := by simpa using e
          subst e'
          exact ⟨xv, rfl, Rep.ext ex _ _ rr6⟩
        | succ j =>
          obtain ⟨v, a, b⟩ := cv2 j r (by simpa using e)
          exact ⟨v, by simpa using a, Rep.ext (e4.trans (e6.trans ex)) r v b⟩
      have next : ∀ (M8 : RM) (H8 : Hp) (s8 : Shared) (accR' : List RV) (accV' : List V) (its' : List Value) (k' : Nat), accR'.length ≤ i + 1 →
          Inv (blk X scope cl C (x :: caps.map Prod.snd) s2 H2 fp) ([(D, { cls := .type "list", data := .seq its'.toArray k' })] ++ pinsAt fp s6.heap) (some xv :: cv) H8 s8 → View X.K H8 M8 → Ext H7 H8 → Reps X.K H8 accR' accV' → Vals accV' its' →
          rCompL tt te ((caps.map Prod.fst).map fun i => (σ[i]?).join) (xs.drop (i + 1)) accR' M8 Q → ∃ m, m < xs.length - i ∧ ∃ (i : Nat) (v0 : Option V) (H' : Hp) (M' : RM) (accR : List RV) (accV : List V) (its : List Value) (k : Nat), m = xs.length - i ∧ i ≤ xs.length ∧ accR.length ≤ i ∧
        Inv (blk X scope cl C (x :: caps.map Prod.snd) s2 H2 fp) [(D, { cls := .type "list", data := .seq its.toArray k })] (v0 :: cv) H' s8 ∧ View X.K H' M' ∧ Ext H2 H' ∧ Reps X.K H' accR accV ∧ Vals accV its ∧ tn i s8.heap ∧ (∀ b ∈ fp, H' b = none) ∧
        rCompL tt te ((caps.map Prod.fst).map fun i => (σ[i]?).join) (xs.drop i) accR M' Q := by
        intro M8 H8 s8 accR' accV' its' k' hl' I8 w8 e8 ra' rl' hq8
        have keep8 : ∀ b ∈ fp, ∀ o, s6.heap.get? b = some o → s8.heap.get? b = some o ∧ H8 b = none := fun b hb o e => by
          have := I8.pin (b, o) (List.mem_append_right _ (List.mem_append_right _ (mem_pinsAt hb e)))
          exact ⟨this.1, this.2.1⟩
        refine ⟨xs.length - (i + 1), by omega, i + 1, some xv, H8, M8, accR', accV', its', k', rfl, hlt, hl', I8.unpinned, w8, e4.trans (e6.trans e8), ra', rl', T.keep _ _ _ st6 fun b hb o e => (keep8 b hb o e).1, fun b hb => ?_, hq8⟩
        obtain ⟨o, e, _⟩ := T.obj _ _ st6 b hb
        exact (keep8 b hb o e).2
      refine thn (hif cl C s2 H2 fp _ s7 _ H7 (fun ok H8 => ∃ M8, View X.K H8 M8 ∧ Ext H7 H8 ∧ (ok = true → te (some xs[i] :: (caps.map Prod.fst).map fun i => (σ[i]?).join) M8 fun v M2 => rCompL tt te ((caps.map Prod.fst).map fun i => (σ[i]?).join) (xs.drop (i + 1)) (accR ++ [v]) M2 Q) ∧
        (ok = false → rCompL tt te ((caps.map Prod.fst).map fun i => (σ[i]?).join) (xs.drop (i + 1)) accR M8 Q)) I7 ⟨_, M', _, base (.refl _), w6 M' w4, hq4, fun b M8 H8 q e w => ⟨M8, w, e, q.1, q.2⟩⟩) fun ok s8 ⟨H8, I8, M8, w8, e8, qt, qf⟩ => ?_
      cases ok with
      | false =>
        exact next M8 H8 s8 accR accV its k (by omega) I8 w8 e8 (Reps.ext (e6.trans e8) _ _ ra) rl (qf rfl)
      | true =>
        refine thn (hel cl C s2 H2 fp _ s8 _ H8 (fun v H9 => ∃ rv M9, View X.K H9 M9 ∧ Ext H8 H9 ∧ Rep X.K H9 rv v ∧ rCompL tt te ((caps.map Prod.fst).map fun i => (σ[i]?).join) (xs.drop (i + 1)) (accR ++ [rv]) M9 Q) I8 ⟨_, M8, _, base e8, w8, qt rfl, fun rv M9 v H9 q e w r => ⟨rv, M9, w, e, r, q⟩⟩) fun y s9 ⟨yv, H9, I9, r9, rv, M9, w9, e9, rr9, hq9⟩ => ?_
        have pD9 := I9.pin (D, { cls := .type "list", data := .seq its.toArray k }) (List.mem_append_right _ (List.mem_append_left _ List.mem_cons_self))
        have hlen : its.length ≤ i := by rw [← rl.length, ← ra.length]; exact hal
        refine call_meets F.slot_list_append ⟨_, pD9.1, rfl⟩ F.entry_list_append (F.args_list_append_2 _ _) (PySem.list_append D its.toArray k y (by rw [List.size_toArray]; omega)) ⟨pD9.1, ?_⟩
        have q := PySem.IsL.update pD9.1 (fun x_1 => x_1.push y)
        have hpush : its.toArray.push y = (its ++ [y]).toArray := by simp
        rw [hpush] at q
        obtain ⟨k', q⟩ : ∃ k', (s9.heap.update D (Obj.mapSeq fun x_1 => x_1.push y)).get? D = some { cls := .type "list", data := .seq (its ++ [y]).toArray k' } := ⟨_, q⟩
        have I10 : Inv (blk X scope cl C (x :: caps.map Prod.snd) s2 H2 fp) (pinsAt fp s6.heap) (some xv :: cv) H9 { s9 with heap := s9.heap.update D (Obj.mapSeq fun x_1 => x_1.push y), toks := s9.toks } := by
          refine Inv.turned (it := D) (I9.pins_of fun p hp => I9.pin p (List.mem_append_right _ (List.mem_append_right _ hp))) (fun b o hb e => (Heap.get?_update_other _ _ (Ne.symm hb)).trans e) pD9.2.1 pD9.2.2.1 (.inr (by show s2.heap.objs.size ≤ D; rw [hD]; exact Nat.le_refl _)) (fun z c e => ?_) fun p hp => ?_
          · obtain ⟨v, o, ho, hd⟩ := I2.cell z c (hcl1 z c e)
            exact Nat.ne_of_lt (by have := Heap.lt_size ho; rw [hD] at this; exact this)
          · have hp' : p ∈ pinsAt fp s6.heap := by simpa [blk] using hp
            exact hDfp p.1 (of_pinsAt hp').1
        have I11 : Inv (blk X scope cl C (x :: caps.map Prod.snd) s2 H2 fp) ([(D, { cls := .type "list", data := .seq (its ++ [y]).toArray k' })] ++ pinsAt fp s6.heap) (some xv :: cv) H9 { s9 with heap := s9.heap.update D (Obj.mapSeq fun x_1 => x_1.push y), toks := s9.toks } := by
          refine I10.pins_of fun p hp => ?_
          rcases List.mem_append.mp hp with hp | hp
          · have : p = (D, { cls := .type "list", data := .seq (its ++ [y]).toArray k' }) := by simpa using hp
            subst this
            exact ⟨q, pD9.2.1, pD9.2.2.1, pD9.2.2.2.1, fun v => by simp⟩
          · exact I10.pin p (List.mem_append_right _ hp)
        exact next M9 H9 _ (accR ++ [rv]) (accV ++ [yv]) (its ++ [y]) k' (by rw [List.length_append, List.length_singleton]; omega) I11 w9 (e8.trans e9) ((Reps.ext (e6.trans (e8.trans e9)) _ _ ra).append (Reps.cons rr9 Reps.nil)) (rl.append (.cons r9 .nil)) hq9
    · have ei : i = xs.length := by omega
      subst ei
      refine thn (T.done (blk X scope cl C (x :: caps.map Prod.snd) s2 H2 fp) rfl rfl rfl hc _ _ s' _ H' Nv I4 (fpB _ _ f4 (pD _)) st4 (hJ.stop _ H' e4 (Nat.le_refl _))) fun r s5 ⟨hr, I5⟩ => .inl ⟨hr, ?_⟩
      rw [List.drop_length] at hq4
      obtain ⟨m5, hn5, _⟩ := I5.loc
      refine ⟨m5, hn5, fun h' sb => ?_⟩
      have pD5 := I5.pin (D, { cls := .type "list", data := .seq its.toArray k }) (List.mem_append_right _ List.mem_cons_self)
      have hDh : h'.get? D = some { cls := .type "list", data := .seq its.toArray k } := sb.extBut _ _ hDC pD5.1
      have hC5 : H' C = none := I5.free
      have hz' : accV.length ≤ sizeLine := by rw [← ra.length]; omega
      have hok5 : HOk X.prog X.w (upd H' D (.frz { cls := .type "list", data := .seq its.toArray k } (.lst accV))) h' := fun b u q => by
        by_cases hb : b = D
        · subst hb; rw [upd_same] at q; cases q
          exact ⟨hDh, hz', its, k, rl, hDh⟩
        · rw [upd_ne hb] at q
          refine (I5.hok b u q).stay (fun c v hcb e => sb.extBut c v ?_ e) (fun c e => ?_) fun c ys e => ?_
          · rcases hcb with rfl | e'
            · exact ne_of_none q hC5
            · exact ne_of_none e' hC5
          · rw [upd_ne (ne_of_none e pD5.2.1)]; exact e
          · rw [upd_ne (ne_of_none e pD5.2.1)]; exact e
      have un5 : Un (frs X.stack) fp H2 (upd H' D (.frz { cls := .type "list", data := .seq its.toArray k } (.lst accV))) s2.heap h' := by
        have B : Un (frs X.stack) fp H2 H' s2.heap s5.heap := I5.base
        have nC : ∀ b o, s2.heap.get? b = some o → b ≠ C := fun b o e => Nat.ne_of_lt (Nat.lt_of_lt_of_le (Heap.lt_size e) (by rw [hD]; exact hCle))
        have nD : ∀ b o, s2.heap.get? b = some o → b ≠ D := fun b o e => Nat.ne_of_lt (by have := Heap.lt_size e; rw [hD] at this; exact this)
        refine ⟨fun b o a1 a2 a3 a4 => sb.extBut b o (nC b o a1) (B.keep b o a1 a2 a3 a4), fun b o a1 a2 a3 a4 => ?_, fun b o a1 a2 a4 => ?_, fun b o a1 a4 => ?_, fun b ys a => ?_, fun b o u a => ?_, fun b ps a => ?_⟩
        · obtain ⟨sl, e⟩ := B.slot b o a1 a2 a3 a4
          exact ⟨sl, sb.extBut b _ (nC b o a1) e⟩
        · rw [upd_ne (nD b o a1)]; exact B.free b o a1 a2 a4
        · obtain ⟨o', e⟩ := B.there b o a1 a4
          exact ⟨o', sb.extBut b o' (nC b o a1) e⟩
        · have e := B.tups b ys a; rw [upd_ne (ne_of_none e pD5.2.1)]; exact e
        · have e := B.frzs b o u a; rw [upd_ne (ne_of_none e pD5.2.1)]; exact e
        · obtain ⟨more, e⟩ := B.tbls b ps a; exact ⟨more, by rw [upd_ne (ne_of_none e pD5.2.1)]; exact e⟩
      have I6 : Inv X pins σ0 (upd H' D (.frz { cls := .type "list", data := .seq its.toArray k } (.lst accV))) { s5 with heap := h' } := I2.call' (ch := fp) I5.os un5 hok5 I5.bare fun b hb => ⟨(f2 b hb).2.2.2.1, (f2 b hb).2.1, (f2 b hb).2.2.2.2.1, (f2 b hb).2.2.2.2.2⟩
      refine ⟨.ref D, _, I6, rfl, hk _ M' _ _ hq4 ((e2.trans e4).trans (Ext.new pD5.2.1)) (w4.new pD5.2.1) (rep_ls pD5.2.1 ra)⟩
  exact codeAny_compStart_list (W _ rfl) (T.self X.A 0 _ _ _ (T.keep _ _ _ st2 fun b _ o e => old b o e) (W _ rfl))
end
end R

set_option Elab.async false
set_option linter.all false
set_option maxRecDepth 100000
set_option maxHeartbeats 1000000
namespace R
open PySem PySem.Spec PyProof.Rows L2
def keyR : RV → Option Key
  | .int i => some (.inl i)
  | .str x => some (.inr x)
  | _ => none
def lookK {α : Type} (kvs : List (Key × α)) (k : Key) : Option α := (kvs.find? fun p => decide (p.1 = k)).map (·.2)
theorem keyR_kV {K : PySem.W.Frag} {H : Hp} {a : RV} {x : V} {k : Key} (e : keyR a = some k) (r : Rep K H a x) : x = kV k := by
  cases a with
  | int i => cases e; simp only [Rep] at r; exact r
  | str y => cases e; simp only [Rep] at r; exact r
  | _ => cases e
theorem repP_look {K : PySem.W.Frag} {H : Hp} {k : Key} : ∀ {kvs : List (Key × RV)} {ws : List (Key × V)}, RepP K H kvs ws → (∀ r, lookK kvs k = some r → ∃ v, valV ws k = some v ∧ Rep K H r v) ∧ (lookK kvs k = none → valV ws k = none)
  | [], ws, h => by
    have h : ws = [] := h
    subst h
    exact ⟨fun r e => (by cases e), fun _ => rfl⟩
  | (j, x) :: t, ws, h => by
    obtain ⟨v, u, rfl, h1, h2⟩ := h
    have ih := repP_look (k := k) h2
    unfold lookK
    rw [List.find?_cons]
    by_cases hj : j = k
    · rw [decide_eq_true (show (j, x).1 = k from hj)]
      refine ⟨fun r e => ⟨v, valV_pos (p := (j, v)) hj, ?_⟩, fun e => (by cases e)⟩
      cases e; exact h1
    · rw [decide_eq_false (show ¬ (j, x).1 = k from hj)]
      refine ⟨fun r e => ?_, fun e => ?_⟩
      · rw [valV_neg (p := (j, v)) hj]; exact ih.1 r e
      · rw [valV_neg (p := (j, v)) hj]; exact ih.2 e
theorem mergeK_nodup : ∀ (ws acc : List (Key × V)), ((acc ++ ws).map Prod.fst).Nodup → mergeK acc ws = acc ++ ws
  | [], acc, _ => by simp [mergeK]
  | p :: r, acc, h => by
    have e : valV acc p.1 = none := by
      cases q : valV acc p.1 with
      | none => rfl
      | some v =>
        have m := valV_in q
        rw [List.map_append, List.map_cons, List.nodup_append] at h
        exact absurd rfl (h.2.2 p.1 m p.1 List.mem_cons_self)
    show mergeK (putK acc p.1 p.2) r = _
    rw [putK_new _ e, mergeK_nodup r (acc ++ [(p.1, p.2)]) (by simpa using h)]
    simp
/-! ### a dict of the module's top -/
structure KTab (P : Program) (w : World) (K : PySem.W.Frag) (mg : Str → Option Value) (x : Str) (kvs : List (Key × RV)) : Prop where
  ex : ∃ (a : Addr) (vs : List (Key × Value)) (ws : List (Key × V)), mg x = some (.ref a) ∧ (a == sysModules) = false ∧ (∀ h : Heap, K.In h → h.DictOf (mixKind P w) a vs) ∧ KV ws vs ∧ ∀ H, RepP K H kvs ws
def KRows (w : World) : List DictEntry → List (Str × Value) → Prop
  | [], [] => True
  | e :: es, (x, v) :: r => (∃ t, e.key = .str x t) ∧ e.hash = hashStr w x ∧ e.val = v ∧ KRows w es r
  | _, _ => False
theorem krows_pairs {P : Program} {w : World} : ∀ {es : List DictEntry} {vs : List (Str × Value)}, KRows w es vs →
    (∀ e ∈ es, ∃ k, (mixKind P w).is k e.key = true ∧ e.hash = (mixKind P w).hash k) ∧ Pairs (mixKind P w) es (vs.map fun p => ((Sum.inr p.1 : Key), p.2))
  | [], [], _ => ⟨fun _ h => (by cases h), Pairs.nil⟩
  | e :: es, (x, v) :: r, h => by
    obtain ⟨⟨t, h1⟩, h2, h3, h4⟩ := h
    obtain ⟨ih1, ih2⟩ := krows_pairs (P := P) (w := w) h4
    have hi : (mixKind P w).is (.inr x) e.key = true := by rw [h1]; exact mixKind_str P w x t
    refine ⟨fun e' he => ?_, ?_⟩
    · rcases List.mem_cons.mp he with rfl | he
      · exact ⟨.inr x, hi, h2⟩
      · exact ih1 e' he
    · subst h3
      exact Pairs.cons hi rfl ih2
theorem nodup_inr : ∀ {l : List Str}, l.Nodup → (l.map (Sum.inr : Str → Key)).Nodup
  | [], _ => List.nodup_nil
  | a :: r, h => by
    obtain ⟨h1, h2⟩ := List.nodup_cons.mp h
    rw [List.map_cons]
    refine List.nodup_cons.mpr ⟨fun m => ?_, nodup_inr h2⟩
    obtain ⟨b, hb, e⟩ := List.mem_map.mp m
    cases e
    exact h1 hb
theorem ktab_mk {P : Program} {w : World} {K : PySem.W.Frag} {mg : Str → Option Value} {x : Str} {a : Addr} {es : Array DictEntry} {ep : Nat} {sl : Array (Option Value)} {vs : List (Str × Value)} {kvs : List (Key × RV)} {ws : List (Key × V)}
    (hm : mg x = some (.ref a)) (l : K.lookup a = some ⟨.type "dict", none, .dict es ep, sl⟩) (ha : (a == sysModules) = false) (hr : KRows w es.toList vs) (hn : (vs.map Prod.fst).Nodup)
    (hsl : Obj.ExactDict ⟨.type "dict", none, .dict es ep, sl⟩) (hk : KV ws (vs.map fun p => ((Sum.inr p.1 : Key), p.2))) (hp : ∀ H, RepP K H kvs ws) : KTab P w K mg x kvs := by
  obtain ⟨h1, h2⟩ := krows_pairs (P := P) hr
  refine ⟨a, _, ws, hm, ha, fun h X => ⟨_, es, ep, X _ _ l, hsl, rfl, fun e he => h1 e (by simpa using he), h2, ?_⟩, hk, hp⟩
  have : (vs.map fun p => ((Sum.inr p.1 : Key), p.2)).map (·.1) = (vs.map Prod.fst).map Sum.inr := by simp [List.map_map, Function.comp_def]
  rw [this]
  exact nodup_inr hn
section
variable {X : Cx}
def rTab (kvs : List (Key × RV)) (te : RTE) : RTE := fun σ M Q => te σ M fun k M1 => match keyR k with
  | some key => (match lookK kvs key with | some v => Q v M1 | none => False)
  | none => False
theorem rtab {x : Str} {kvs : List (Key × RV)} {e : Expr} {te : RTE} {p pos : Pos} (T : KTab X.prog X.w X.K X.mg x kvs) (he : RPE X e te) (hs : NoSl e := by intro _ _; rfl) (hg : Gl X x := by rfl) (hd : (x == ("__debug__" : Str)) = false := by decide) :
    RPE X (.Subscript (.Name x p) e pos) (rTab kvs te) := by
  obtain ⟨a, vs, ws, hm, ha, hD, hk, hr⟩ := T.ex
  intro pins s σ0 H Q0 I h
  obtain ⟨σ, M, Q, hs', hv, ht, hq⟩ := h
  refine subD_of PySem.F.slot_dict_getitem.lookup hs (ld_glob I hg hm (thn (he pins s σ0 H (fun v H1 => ∃ r M1, Rep X.K H1 r v ∧ Ext H H1 ∧ View X.K H1 M1 ∧ (match keyR r with
    | some key => (match lookK kvs key with | some v => Q v M1 | none => False)
    | none => False)) I ⟨σ, M, _, hs', hv, ht, fun r M1 v H1 q e w r1 => ⟨r, M1, r1, e, w, q⟩⟩) fun iv s2 ⟨y, H2, I2, ry, r, M2, rr, e2, w2, q2⟩ => ?_) hd)
  have dd := hD _ I2.kIn
  refine ⟨dd.typeIs, ?_⟩
  cases ek : keyR r with
  | none => rw [ek] at q2; exact q2.elim
  | some key =>
    rw [ek] at q2
    simp only at q2
    cases el : lookK kvs key with
    | none => rw [el] at q2; exact q2.elim
    | some rv =>
      rw [el] at q2
      simp only at q2
      obtain ⟨v, e1, r1⟩ := (repP_look (k := key) (hr H2)).1 rv el
      have := keyR_kV ek rr
      subst this
      obtain ⟨w', hw, rw'⟩ := RelO.some_of (v := v) (o := valueAt vs key) (by rw [← e1]; exact hk.val key)
      exact wpAny_getItem_of (kV_is ry) dd.mapOf hw ⟨v, H2, I2.tok _, rw', hq rv M2 v H2 q2 e2 w2 r1⟩
/-- x in T, x not in T -/
def rTabIn (neg : Bool) (kvs : List (Key × RV)) (te : RTE) : RTE := fun σ M Q => te σ M fun k M1 => match keyR k with
  | some key => Q (.bl (if neg then !(lookK kvs key).isSome else (lookK kvs key).isSome)) M1
  | none => False
theorem tab_isSome {K : PySem.W.Frag} {H : Hp} {kvs : List (Key × RV)} {ws : List (Key × V)} {vs : List (Key × Value)} {key : Key} (hk : KV ws vs) (hr : RepP K H kvs ws) : (valueAt vs key).isSome = (lookK kvs key).isSome := by
  rw [← (hk.val key).isSome_eq]
  cases el : lookK kvs key with
  | none => rw [(repP_look (k := key) hr).2 el]; rfl
  | some rv => obtain ⟨v, e1, _⟩ := (repP_look (k := key) hr).1 rv el; rw [e1]; rfl
theorem rtabin_core {x : Str} {kvs : List (Key × RV)} {e : Expr} {te : RTE} {p : Pos} {op : CmpOp} {neg : Bool} (T : KTab X.prog X.w X.K X.mg x kvs) (he : RPE X e te) (hop : (op = .In ∧ neg = false) ∨ (op = .NotIn ∧ neg = true)) (hg : Gl X x) (hd : (x == ("__debug__" : Str)) = false) :
    PC X op e (.Name x p) (up X.K (rTabIn neg kvs te)) := by
  obtain ⟨a, vs, ws, hm, ha, hD, hk, hr⟩ := T.ex
  intro pins s σ0 H Q0 I h
  obtain ⟨σ, M, Q, hs', hv, ht, hq⟩ := h
  refine thn (he pins s σ0 H (fun v H1 => ∃ r M1, Rep X.K H1 r v ∧ Ext H H1 ∧ View X.K H1 M1 ∧ (match keyR r with
    | some key => Q (.bl (if neg then !(lookK kvs key).isSome else (lookK kvs key).isSome)) M1
    | none => False)) I ⟨σ, M, _, hs', hv, ht, fun r M1 v H1 q e w r1 => ⟨r, M1, r1, e, w, q⟩⟩) fun iv s2 ⟨y, H2, I2, ry, r, M2, rr, e2, w2, q2⟩ => ?_
  refine ld_glob I2 hg hm ?_ hd
  have dd := hD _ I2.kIn
  cases ek : keyR r with
  | none => rw [ek] at q2; exact q2.elim
  | some key =>
    rw [ek] at q2
    simp only at q2
    have := keyR_kV ek rr
    subst this
    rcases hop with ⟨rfl, rfl⟩ | ⟨rfl, rfl⟩
    · refine wpAny_in_of (kV_is ry) ha dd.mapOf ?_
      rw [tab_isSome hk (hr H2)]
      exact ⟨.bl (lookK kvs key).isSome, H2, I2.tok _, rfl, hq _ M2 _ H2 q2 e2 w2 (by simp only [Rep]; rfl)⟩
    · refine wpAny_notIn_of (kV_is ry) ha dd.mapOf ?_
      rw [tab_isSome hk (hr H2)]
      exact ⟨.bl (!(lookK kvs key).isSome), H2, I2.tok _, rfl, hq _ M2 _ H2 q2 e2 w2 (by simp only [Rep]; rfl)⟩
theorem rttabnot {x : Str} {kvs : List (Key × RV)} {e : Expr} {te : RTE} {p pos : Pos} (T : KTab X.prog X.w X.K X.mg x kvs) (he : RPE X e te) (hg : Gl X x := by rfl) (hd : (x == ("__debug__" : Str)) = false := by decide) (h1 : behindInMarks .NotIn (Expr.Name x p) = false := by with_unfolding_all rfl) :
    RPT X (.Compare e [.NotIn] [.Name x p] pos) (rTest (rTabIn true kvs te)) := PT.imp (pt_cmp (rtabin_core T he (.inr ⟨rfl, rfl⟩) hg hd) h1) fun σ0 H Q0 h => by
  obtain ⟨σ, M, Q, hs, hv, ht, hk⟩ := h
  exact ⟨σ, M, _, hs, hv, ht, test_up hk⟩
/-! ### {k: v, ..}[e], written keys and values -/
def drop (M : RM) (p : Addr) : RM := fun b => if b = p then none else M b
theorem drop_put {M : RM} {p : Addr} {o : RO} (h : M p = none) : drop (put M p o) p = M := by
  funext b
  unfold drop put
  by_cases hb : b = p
  · subst hb; simp [h]
  · simp [hb]
theorem View.drop {K : PySem.W.Frag} {H : Hp} {M : RM} (w : View K H M) (p : Addr) : View K H (drop M p) := fun a o e => by
  unfold R.drop at e
  split at e
  · cases e
  · exact w a o e
def rDispGet (kvs : List (Key × RV)) (te : RTE) : RTE := fun σ M Q => ∀ p, M p = none → te σ (put M p (.dk kvs)) fun k M1 => M1 p = some (.dk kvs) ∧ (match keyR k with
  | some key => (match lookK kvs key with | some v => Q v (drop M1 p) | none => False)
  | none => False)
def constTrs : List (Key × V) → List (TE × TE)
  | [] => []
  | (k, v) :: r => (tC (kV k), tC v) :: constTrs r
theorem constTrs_go {σ : L2.St} : ∀ {ws : List (Key × V)} {H : Hp} {Q : List (V × V) → Hp → Prop}, Q (ws.map fun kv => (kV kv.1, kv.2)) H → tPairs (constTrs ws) σ H Q
  | [], _, _, h => h
  | (k, v) :: r, H, Q, h => constTrs_go (ws := r) (Q := fun ps H3 => Q ((kV k, v) :: ps) H3) h
theorem rdispget {kvs : List (Key × RV)} {ws : List (Key × V)} {keys : List (Option Expr)} {values : List Expr} {e : Expr} {te : RTE} {p1 pos : Pos} (hu : X.A.units + 1 < cLine) (h : PPs X p1 keys values (constTrs ws)) (he : RPE X e te) (hr : ∀ H, RepP X.K H kvs ws)
    (hn : (ws.map Prod.fst).Nodup) (hl15 : ws.length ≤ 15 := by decide) (hall : keys.all (·.isSome) = true := by rfl) (hl : keys.length = values.length := by rfl) (h0 : keys ≠ [] := by exact List.cons_ne_nil _ _) (h15 : keys.length ≤ 15 := by decide) (hs : NoSl e := by intro _ _; rfl) :
    RPE X (.Subscript (.Dict keys values p1) e pos) (rDispGet kvs te) := PE.imp (pe_dget hu (pe_disp h hall hl h0 h15) he hs) fun σ0 H Q0 h => by
  obtain ⟨σ, M, Q, hst, hv, ht, hk⟩ := h
  intro p hp
  refine constTrs_go ⟨upd_same, ws, rfl, hl15, ?_⟩
  have hm : mergeK [] ws = ws := by have := mergeK_nodup ws [] (by simpa using hn); simpa using this
  rw [hm, upd_upd]
  have ex : Ext H (upd H p (.dK ws)) := Ext.new hp
  refine ⟨σ, put M p (.dk kvs), _, hst.ext ex, hv.newPut hp ⟨ws, rfl, hr _⟩, ht p (hv.free hp), fun r M1 v H1 q e1 w1 r1 => ?_⟩
  obtain ⟨q0, q⟩ := q
  obtain ⟨ho, eh, rp⟩ := w1 p _ q0
  obtain ⟨ws1, rfl, rp⟩ := rp
  cases ek : keyR r with
  | none => rw [ek] at q; exact q.elim
  | some key =>
    rw [ek] at q
    simp only at q
    cases el : lookK kvs key with
    | none => rw [el] at q; exact q.elim
    | some rv =>
      rw [el] at q
      simp only at q
      obtain ⟨v', e', r'⟩ := (repP_look (k := key) rp).1 rv el
      have := keyR_kV ek r1
      subst this
      exact ⟨p, v', rfl, by rw [← e']; exact DGet.k eh, hk rv _ v' H1 q (ex.trans e1) (w1.drop p) r'⟩
/-- written texts for written ints -/
def kvI (l : List (Str × Int)) : List (Key × RV) := l.map fun p => ((Sum.inr p.1 : Key), RV.int p.2)
def wsI (l : List (Str × Int)) : List (Key × V) := l.map fun p => ((Sum.inr p.1 : Key), V.int p.2)
theorem repP_I {K : PySem.W.Frag} {H : Hp} : ∀ l : List (Str × Int), RepP K H (kvI l) (wsI l)
  | [] => rfl
  | p :: r => ⟨V.int p.2, wsI r, rfl, by simp only [Rep], repP_I r⟩
theorem nodup_I {l : List (Str × Int)} (h : (l.map Prod.fst).Nodup) : ((wsI l).map Prod.fst).Nodup := by
  have e : (wsI l).map Prod.fst = (l.map Prod.fst).map (Sum.inr : Str → Key) := by simp [wsI, List.map_map, Function.comp_def]
  rw [e]
  exact nodup_inr h
theorem rdispI (l : List (Str × Int)) {keys : List (Option Expr)} {values : List Expr} {trs : List (TE × TE)} {e : Expr} {te : RTE} {p1 pos : Pos} (hu : X.A.units + 1 < cLine) (h : PPs X p1 keys values trs) (he : RPE X e te)
    (hn : (l.map Prod.fst).Nodup) (ht : trs = constTrs (wsI l) := by rfl) (hl15 : l.length ≤ 15 := by decide) (hall : keys.all (·.isSome) = true := by rfl) (hl : keys.length = values.length := by rfl) (h0 : keys ≠ [] := by exact List.cons_ne_nil _ _) (h15 : keys.length ≤ 15 := by decide) (hs : NoSl e := by intro _ _; rfl) :
    RPE X (.Subscript (.Dict keys values p1) e pos) (rDispGet (kvI l) te) := rdispget hu (ht ▸ h) he (fun H => repP_I l) (nodup_I hn) (by rw [wsI, List.length_map]; exact hl15) hall hl h0 h15 hs
end
end R

set_option Elab.async false
set_option linter.all false
set_option maxRecDepth 100000
set_option maxHeartbeats 1000000
namespace R
open PySem PySem.Spec PyProof.Rows L2
theorem rfnok {P : Program} {w : World} {K : PySem.W.Frag} {mg : Str → Option Value} {base : Heap} {x qual : Str} {st : Stmt} {f : Addr} {fd : FuncData} {N ps : List Str} {k : Nat} {sp : RSp} {t : RTS} (F : Fun K x qual st f fd) (S : FnScope N ps (defScope st))
    (len : ∀ rs M Q, sp rs M Q → rs.length = ps.length)
    (term : ∀ (cdv : Value) (A : Around) (outer : List Env) (s : Shared) (H : Hp) (E : XK), Room k (A.deeper (envOfC qual (defScope st) s.heap.objs.size f cdv)) → RPSs (cxOf CX0 P w K mg base N qual (defScope st) f cdv A outer s H E).nox (defBody st) t)
    (body : ∀ rs M Q, sp rs M Q → t { nx := fun _ M' => Q .non M', rt := Q } (rstart N rs) M) : FnOk P w K mg base CX0 (k + 1) f fd ps (upSp K sp) := by
  refine F.ok S (fun vs H Q0 E h => ?_) fun cdv A outer s H vs Q0 E hr h => ?_
  · obtain ⟨rs, M, Q, rr, hv, hq, hk⟩ := h
    rw [← rr.length]; exact len rs M Q hq
  · obtain ⟨rs, M, Q, rr, hv, hq, hk⟩ := h
    refine ⟨_, term cdv A outer s H E hr, rstart N rs, M, { nx := fun _ M' => Q .non M', rt := Q }, start_rep rr, hv, body rs M Q hq, ⟨fun σ M' σ0 H' q e w r => hk .non M' .non H' q e w (by simp only [Rep]), hk, fun _ _ _ _ z => z.elim, fun _ _ _ _ z => z.elim⟩⟩
theorem bt_len : bootBuiltins "len" = some (.builtin "len") := by decide +kernel
theorem bt_isinstance : bootBuiltins "isinstance" = some (.builtin "isinstance") := by decide +kernel
theorem bt_ord : bootBuiltins "ord" = some (.builtin "ord") := by decide +kernel
theorem bt_all : bootBuiltins "all" = some (.builtin "all") := by decide +kernel
theorem bt_tuple : bootBuiltins "tuple" = some (.type "tuple") := by decide +kernel
theorem bt_list : bootBuiltins "list" = some (.type "list") := by decide +kernel
theorem bt_int : bootBuiltins "int" = some (.type "int") := by decide +kernel
theorem bt_bool : bootBuiltins "bool" = some (.type "bool") := by decide +kernel
theorem bt_str : bootBuiltins "str" = some (.type "str") := by decide +kernel
section
variable {X : Cx} {pos : Pos}
theorem rty_int (hm : X.mg "int" = none) (hg : Gl X "int" := by rfl) : RPE X (.Name "int" pos) (rC (.ty "int")) := rbltn hm bt_int (v := .ty "int") rfl (fun H => by simp only [Rep]) hg
theorem rty_bool (hm : X.mg "bool" = none) (hg : Gl X "bool" := by rfl) : RPE X (.Name "bool" pos) (rC (.ty "bool")) := rbltn hm bt_bool (v := .ty "bool") rfl (fun H => by simp only [Rep]) hg
theorem rty_str (hm : X.mg "str" = none) (hg : Gl X "str" := by rfl) : RPE X (.Name "str" pos) (rC (.ty "str")) := rbltn hm bt_str (v := .ty "str") rfl (fun H => by simp only [Rep]) hg
theorem rty_tuple (hm : X.mg "tuple" = none) (hg : Gl X "tuple" := by rfl) : RPE X (.Name "tuple" pos) (rC (.ty "tuple")) := rbltn hm bt_tuple (v := .ty "tuple") rfl (fun H => by simp only [Rep]) hg
theorem rty_list (hm : X.mg "list" = none) (hg : Gl X "list" := by rfl) : RPE X (.Name "list" pos) (rC (.ty "list")) := rbltn hm bt_list (v := .ty "list") rfl (fun H => by simp only [Rep]) hg
/-- an int of the module's top -/
def IntC (mg : Str → Option Value) (x : Str) (i : Int) : Prop := ∃ t, mg x = some (.int i t)
theorem rgi {x : Str} {i : Int} (h : IntC X.mg x i) (hg : Gl X x := by rfl) (hd : (x == ("__debug__" : Str)) = false := by decide) : RPE X (.Name x pos) (rC (.int i)) := by
  obtain ⟨t, hm⟩ := h
  exact rglob hm (v := .int i) ⟨t, rfl⟩ (fun H => by simp only [Rep]) hg hd
/-- a tuple of texts of the module's top -/
def TupC (K : PySem.W.Frag) (mg : Str → Option Value) (x : Str) (ss : List Str) : Prop := ∃ a, mg x = some (.ref a) ∧ ∀ H, Rep K H (.tup (ss.map RV.str)) (.ref a)
theorem rgt {x : Str} {ss : List Str} (h : TupC X.K X.mg x ss) (hg : Gl X x := by rfl) (hd : (x == ("__debug__" : Str)) = false := by decide) : RPE X (.Name x pos) (rC (.tup (ss.map RV.str))) := by
  obtain ⟨a, hm, hr⟩ := h
  exact rglob hm (v := .ref a) rfl hr hg hd
end
theorem tupc_mk {K : PySem.W.Frag} {mg : Str → Option Value} {x : Str} {a : Addr} {ss : List Str} {its : Array Value} {n : Nat} {d : Option Addr} {sl : Array (Option Value)} (hm : mg x = some (.ref a)) (l : K.lookup a = some ⟨.type "tuple", d, .seq its n, sl⟩) (hz : its.size ≤ sizeLine)
    (hv : Vals (ss.map V.str) its.toList) : TupC K mg x ss := by
  refine ⟨a, hm, fun H => ?_⟩
  simp only [Rep]
  refine ⟨a, ss.map V.str, rfl, .inr ⟨_, its, n, l, rfl, rfl, hz, hv⟩, ?_⟩
  clear hv
  induction ss with
  | nil => exact Reps.nil
  | cons s r ih => exact Reps.cons (by simp only [Rep]) ih
/-- the law's own head -/
theorem law_in {K : PySem.W.Frag} {sp : RSp} {H : Hp} {a : Addr} {ns : List Int} (hO : Only H) (hS : SqL K H a (ns.map V.int)) (h : sp [.ls (ns.map RV.int)] (fun _ => none) (fun v _ => v = .bl true)) : upSp K sp [.ref a] H (fun v _ => v = .bl true) (fun _ _ _ => False) := by
  have hr : ∀ l : List Int, Reps K H (l.map RV.int) (l.map V.int) := fun l => by
    induction l with
    | nil => exact Reps.nil
    | cons s r ih => exact Reps.cons (by simp only [Rep]) ih
  have hf : Fz K H a (ns.map V.int) := by
    rcases hS with (e | ⟨o, e⟩) | e
    · rcases hO a with z | ⟨o, xs, z⟩
      · rw [e] at z; cases z
      · rw [e] at z; cases z
    · exact .inl ⟨o, e⟩
    · exact .inr e
  refine ⟨[.ls (ns.map RV.int)], fun _ => none, fun v _ => v = .bl true, Reps.cons (by simp only [Rep]; exact ⟨a, _, rfl, hf, hr ns⟩) Reps.nil, fun _ _ z => (by cases z), h, fun rv M' v H' q _ _ r => ?_⟩
  have q' : rv = .bl true := q
  subst q'
  simpa only [Rep] using r
end R

set_option Elab.async false
set_option linter.all false
set_option maxRecDepth 100000
set_option maxHeartbeats 1000000
namespace R
open PySem PySem.Spec PyProof.Rows L2
/-! ### names, looked up once by the kernel -/
structure NameOk (N : List Str) (sc : Scope) : Prop where
  nd : N.Nodup
  loc : ∀ x ∈ N, sc.names.lookup x = some .local ∨ sc.names.lookup x = some .cell
  dbg : ∀ x ∈ N, (x == ("__debug__" : Str)) = false ∧ (x == ("__classdict__" : Str)) = false
section
variable {X : Cx} {x : Str} {pos pos' : Pos}
theorem rvN (i : Nat) (S : NameOk X.N X.env.scope) (hN : X.N[i]? = some x := by rfl) : RPE X (.Name x pos) (rVar i) :=
  have m := List.mem_of_getElem? hN
  rv i hN ((S.loc x m).elim .inl fun z => .inr (.inl z)) (S.dbg x m).1 (S.dbg x m).2
theorem ssetN {e : Expr} {te : RTE} (i : Nat) (S : NameOk X.N X.env.scope) (he : RPE X e te) (hN : X.N[i]? = some x := by rfl) (hs : swapsWith e (some (.Name x pos')) pos.line X.env = pure false := by rfl) (hf : X.fn x = true := by rfl) :
    RPS X (.Assign [.Name x pos'] e pos) (rSet i te) := sset i he S.nd hN (S.loc x (List.mem_of_getElem? hN)) hs (.inl hf)
theorem gnameN (i : Nat) (S : NameOk X.N X.env.scope) (hN : X.N[i]? = some x := by rfl) (hf : X.fn x = true := by rfl) : RPG X (.Name x pos) (rgN i) := gname i S.nd hN (S.loc x (List.mem_of_getElem? hN)) (.inl hf)
theorem pgN (i : Nat) (S : NameOk X.N X.env.scope) (hN : X.N[i]? = some x := by rfl) (hf : X.fn x = true := by rfl) : PG X (.Name x pos) (gName i) := pg_name S.nd hN (S.loc x (List.mem_of_getElem? hN)) (.inl hf)
structure VisB (X : Cx) : Prop where
  vis : ∀ x ∈ X.N, Vis X.env.scope x
  dbg : ∀ x ∈ X.N, (x == ("__debug__" : Str)) = false ∧ (x == ("__classdict__" : Str)) = false
theorem rvB (i : Nat) (S : VisB X) (hN : X.N[i]? = some x := by rfl) : RPE X (.Name x pos) (rVar i) :=
  have m := List.mem_of_getElem? hN
  rv i hN (S.vis x m) (S.dbg x m).1 (S.dbg x m).2
theorem glB {scope : Scope} {cl : List (Str × Addr)} {C : Addr} {Nc : List Str} {s : Shared} {H : Hp} {fp : List Addr} (h : scope.names.lookup x = some .globalImplicit) : Gl (blk X scope cl C Nc s H fp) x := by
  show (scope.names.map (relF X.env)).lookup x = _
  rw [lookup_relF]
  rw [lookup_find] at h
  cases e : scope.names.find? fun p => x == p.1 with
  | none => rw [e] at h; cases h
  | some p =>
    rw [e] at h
    have h' : p.2 = .globalImplicit := Option.some.inj h
    show some (relF X.env p).2 = _
    rcases relF_snd X.env p with z | z
    · rw [z, h']
    · rw [h'] at z; cases z.2
theorem rcompN {elt iter : Expr} {px : Pos} {scope : Scope} {ti : RTI} {tt : RTT} {te : RTE} {ifs : List Expr} (caps : List (Nat × Str)) {osc : Scope} {oN : List Str}
    (hc : X.calm = true) (hi : RPI X (.Name x px) iter ti)
    (hif : ∀ cl C s H fp, VisB (blk X scope cl C (x :: caps.map Prod.snd) s H fp) → RPTs (blk X scope cl C (x :: caps.map Prod.snd) s H fp) ifs tt)
    (hel : ∀ cl C s H fp, VisB (blk X scope cl C (x :: caps.map Prod.snd) s H fp) → RPE (blk X scope cl C (x :: caps.map Prod.snd) s H fp) elt te)
    (hX : X.env.scope = osc) (hN : X.N = oN)
    (hcaps : ∀ p ∈ caps, oN[p.1]? = some p.2 ∧ scope.names.lookup p.2 = some .free ∧ (osc.names.lookup p.2 = some .cell ∨ osc.names.lookup p.2 = some .free))
    (hfr : ∀ y ∈ scope.names, y.2 = .free → (osc.names.lookup y.1 = some .cell ∨ osc.names.lookup y.1 = some .free))
    (hcell : ∀ y ∈ scope.names, y.2 ≠ .cell) (hkind : scope.kind = .function) (hnames : ∀ y ∈ scope.names, y.2 = .local → scope.names.lookup y.1 = some .local) (hx : scope.names.lookup x = some .local) (hnd : (x :: caps.map Prod.snd).Nodup)
    (hdb : ∀ y ∈ x :: caps.map Prod.snd, (y == ("__debug__" : Str)) = false ∧ (y == ("__classdict__" : Str)) = false)
    (hs : ∀ v, foldedSetIterable iter X.env v = pure v := by intro _; rfl) :
    RPE X (.ListComp elt [⟨.Name x px, iter, ifs, 0⟩] scope pos) (rComp ti (caps.map Prod.fst) tt te) := by
  have vb : ∀ cl C s H fp, VisB (blk X scope cl C (x :: caps.map Prod.snd) s H fp) := fun cl C s H fp => ⟨fun y hy => by
    rcases List.mem_cons.mp hy with rfl | hy
    · exact .inl (lookup_relabel_local hx)
    · obtain ⟨p, hp, rfl⟩ := List.mem_map.mp hy
      exact .inr (relabel_free (hcaps p hp).2.1), hdb⟩
  exact rcomp caps hc hi (fun cl C s H fp => hif cl C s H fp (vb cl C s H fp)) (fun cl C s H fp => hel cl C s H fp (vb cl C s H fp)) hX hN hcaps hfr hcell hkind hnames hx hnd hs
end
/-! ### a dict of the top: texts and ints -/
def KRowsI (w : World) : List DictEntry → List (Str × Int) → Prop
  | [], [] => True
  | e :: es, (x, i) :: r => (∃ t, e.key = .str x t) ∧ e.hash = hashStr w x ∧ (∃ t, e.val = .int i t) ∧ KRowsI w es r
  | _, _ => False
theorem krowsI {w : World} : ∀ {es : List DictEntry} {l : List (Str × Int)}, KRowsI w es l → ∃ vs : List (Str × Value), KRows w es vs ∧ vs.map Prod.fst = l.map Prod.fst ∧ KV (wsI l) (vs.map fun p => ((Sum.inr p.1 : Key), p.2))
  | [], [], _ => ⟨[], trivial, rfl, .nil⟩
  | e :: es, (x, i) :: r, h => by
    obtain ⟨h1, h2, ⟨t, h3⟩, h4⟩ := h
    obtain ⟨vs, a, b, c⟩ := krowsI h4
    exact ⟨(x, .int i t) :: vs, ⟨h1, h2, h3, a⟩, by simp [b], .cons ⟨rfl, t, rfl⟩ c⟩
theorem ktabI_mk {P : Program} {w : World} {K : PySem.W.Frag} {mg : Str → Option Value} {x : Str} {a : Addr} {es : Array DictEntry} {ep : Nat} {l : List (Str × Int)}
    (hm : mg x = some (.ref a)) (lk : K.lookup a = some ⟨.type "dict", none, .dict es ep, #[]⟩) (ha : (a == sysModules) = false) (hr : KRowsI w es.toList l) (hn : (l.map Prod.fst).Nodup) : KTab P w K mg x (kvI l) := by
  obtain ⟨vs, h1, h2, h3⟩ := krowsI hr
  exact ktab_mk hm lk ha h1 (by rw [h2]; exact hn) ⟨rfl, rfl, rfl⟩ h3 fun H => repP_I l
end R

set_option Elab.async false
set_option linter.all false
set_option maxRecDepth 100000
set_option maxHeartbeats 1000000
/-! Readings step by step: one lemma for each head, and a tactic that takes the step that the goal's head asks for. -/
namespace R
open PySem PySem.Spec PyProof.Rows L2
section
variable {σ : RSt} {M : RM} {Q : RVK} {QT : Bool → RM → Prop} {QA : List RV → RM → Prop} {QO : Option Int → RM → Prop} {n b c : RSt → RM → Prop} {r : RVK} {ta tb tc : RTE} {tA tB : RTT} {t u : RTS} {tr : RTA} {rr rr' : RR2} {N : RSt → RM → Prop}
def kTest (Q : Bool → RM → Prop) : RVK := fun v M' => match v with | .bl k => Q k M' | _ => False
def kIf (A B : RM → Prop) : Bool → RM → Prop := fun c M1 => (c = true → A M1) ∧ (c = false → B M1)
def kPart (Q : Option Int → RM → Prop) : RVK := fun x M1 => match x with | .int i => Q (some i) M1 | _ => False
def kAt (Q : RVK) (M : RM) : Option RV → Prop := fun o => match o with | some v => Q v M | none => False
def kItS (Q : List RV → RM → Prop) : RVK := fun v M1 => match v with | .tup xs => Q xs M1 | .ls xs => Q xs M1 | _ => False
def kCh (rr' : RR2) (tc : RTE) (σ : RSt) (y : RV) (Q : RVK) : RVK := fun z M3 => match z with
  | .bl k => (k = true → tc σ M3 fun w M4 => rr' y w M4 Q) ∧ (k = false → Q (.bl false) M3)
  | _ => False
theorem do_var {i : Nat} {v : RV} (e : σ[i]? = some (some v)) (h : Q v M) : rVar i σ M Q := by unfold rVar; rw [e]; exact h
theorem do_c {v : RV} (h : Q v M) : rC v σ M Q := h
theorem do_op (h : ta σ M fun x M1 => tb σ M1 fun y M2 => rr x y M2 Q) : rOp rr ta tb σ M Q := h
theorem do_un {g : RV → RM → RVK → Prop} (h : ta σ M fun x M1 => g x M1 Q) : rUn g ta σ M Q := h
theorem do_chain (h : ta σ M fun x M1 => tb σ M1 fun y M2 => rr x y M2 (kCh rr' tc σ y Q)) : rChain rr rr' ta tb tc σ M Q := h
theorem do_kchT {y : RV} (h : tc σ M fun w M4 => rr' y w M4 Q) : kCh rr' tc σ y Q (.bl true) M := ⟨fun _ => h, fun z => (by cases z)⟩
theorem do_kchF {y : RV} (h : Q (.bl false) M) : kCh rr' tc σ y Q (.bl false) M := ⟨fun z => (by cases z), fun _ => h⟩
theorem do_test (h : ta σ M (kTest QT)) : rTest ta σ M QT := h
theorem do_ktest {k : Bool} (h : QT k M) : kTest QT (.bl k) M := h
theorem do_and (h : tA σ M (kIf (fun M1 => tB σ M1 QT) (fun M1 => QT false M1))) : rAnd tA tB σ M QT := h
theorem do_or (h : tA σ M (kIf (fun M1 => QT true M1) (fun M1 => tB σ M1 QT))) : rOr tA tB σ M QT := h
theorem do_not (h : tA σ M fun c M1 => QT (!c) M1) : rNot tA σ M QT := h
theorem do_if (h : tA σ M (kIf (fun M1 => ta σ M1 Q) (fun M1 => tb σ M1 Q))) : rIf tA ta tb σ M Q := h
theorem do_ifs {D : RD} (h : tA σ M (kIf (fun M1 => t D σ M1) (fun M1 => u D σ M1))) : rIfS tA t u D σ M := h
theorem do_kT {A B : RM → Prop} (h : A M) : kIf A B true M := ⟨fun _ => h, fun z => (by cases z)⟩
theorem do_kF {A B : RM → Prop} (h : B M) : kIf A B false M := ⟨fun z => (by cases z), fun _ => h⟩
theorem do_kT' {A B : RM → Prop} {x : Bool} (e : x = true) (h : A M) : kIf A B x M := by subst e; exact do_kT h
theorem do_kF' {A B : RM → Prop} {x : Bool} (e : x = false) (h : B M) : kIf A B x M := by subst e; exact do_kF h
theorem do_kB {A B : RM → Prop} {x : Bool} (h1 : x = true → A M) (h2 : x = false → B M) : kIf A B x M := ⟨h1, h2⟩
theorem do_norm {P : RSt → RM → Prop} {l : RSt} {i : Nat} {v : Option RV} {σ' : RSt} (e : l.set i v = σ') (h : P σ' M) : P (l.set i v) M := by subst e; exact h
theorem do_normU {P : RSt → RM → Prop} {l : RSt} {is : List Nat} {vs : List RV} {σ' : RSt} (e : setAll l is vs = σ') (h : P σ' M) : P (setAll l is vs) M := by subst e; exact h
theorem do_knT {A B : RM → Prop} (h : B M) : kIf A B (!true) M := do_kF h
theorem do_knF {A B : RM → Prop} (h : A M) : kIf A B (!false) M := do_kT h
theorem do_mulL {a : Addr} {k : Int} {xs : List RV} (e : M a = some (.lst xs)) (h0 : -(2 ^ 63) ≤ k) (h1 : k < 2 ^ 63) (h2 : Nat.ble (xs.length * k.toNat) 1000 = true) (h : Q (.ls (List.replicate k.toNat xs).flatten) M) : R.rMul (.ref a) (.int k) M Q :=
  ⟨xs, e, h0, h1, Nat.le_trans (Nat.le_of_ble_eq_true h2) (by decide), h⟩
theorem neqF {x : RV} (e : eqR x x = true) : (!eqR x x) = false := by rw [e]; rfl
theorem neqB {a b : Bool} (e : a = b) : (!eqR (.bl a) (.bl b)) = false := by subst e; cases a <;> rfl
theorem do_nil (h : QA [] M) : rNil σ M QA := h
theorem do_cons (h : ta σ M fun x M1 => tr σ M1 fun xs M2 => QA (x :: xs) M2) : rCons ta tr σ M QA := h
theorem do_tup (h : tr σ M fun rs M1 => rs.length ≤ sizeLine ∧ Q (.tup rs) M1) : rTup tr σ M Q := h
theorem do_lsf (h : tr σ M fun rs M1 => rs.length ≤ sizeLine ∧ Q (.ls rs) M1) : rLsF tr σ M Q := h
theorem do_lst (h : tr σ M fun rs M1 => rs.length ≤ sizeLine ∧ ∀ p, M1 p = none → Q (.ref p) (put M1 p (.lst rs))) : rLst tr σ M Q := h
theorem do_size {rs : List RV} {P : Prop} (e : Nat.ble rs.length 1000 = true) (h : P) : rs.length ≤ sizeLine ∧ P := ⟨Nat.le_trans (Nat.le_of_ble_eq_true e) (by decide), h⟩
theorem do_call {f : List RV → RM → RVK → Prop} (h : tr σ M fun rs M1 => f rs M1 Q) : rCall f tr σ M Q := h
theorem do_next : n σ M → rNext ⟨n, r, b, c⟩ σ M := fun h => h
theorem do_break : b σ M → rBreak ⟨n, r, b, c⟩ σ M := fun h => h
theorem do_cont : c σ M → rCont ⟨n, r, b, c⟩ σ M := fun h => h
theorem do_seq (h : t ⟨u ⟨n, r, b, c⟩, r, b, c⟩ σ M) : rSeq t u ⟨n, r, b, c⟩ σ M := h
theorem do_set {i : Nat} (h : ta σ M fun x M1 => n (σ.set i (some x)) M1) : rSet i ta ⟨n, r, b, c⟩ σ M := h
theorem do_ret (h : ta σ M r) : rRet ta ⟨n, r, b, c⟩ σ M := h
theorem do_retN (h : r .non M) : rRetN ⟨n, r, b, c⟩ σ M := h
theorem do_drop (h : ta σ M fun _ M1 => n σ M1) : rDrop ta ⟨n, r, b, c⟩ σ M := h
theorem do_asg {g : RTG} (h : ta σ M fun x M1 => g x σ M1 n) : rAsg ta g ⟨n, r, b, c⟩ σ M := h
theorem do_gN {i : Nat} {x : RV} (h : N (σ.set i (some x)) M) : rgN i x σ M N := h
theorem do_gU {is : List Nat} {xs : List RV} (e : xs.length = is.length) (h : N (setAll σ is xs) M) : rgU is (.tup xs) σ M N := ⟨e, h⟩
theorem do_gSub {to ti : RTE} {g : RTSet} {v : RV} (h : to σ M fun o M1 => ti σ M1 fun i M2 => g o i v M2 fun M3 => N σ M3) : rgSub to ti g v σ M N := h
theorem do_forI {ti : RTI} {g : RTG} (h : ti σ M fun xs M1 => rForL g t ⟨n, r, b, c⟩ xs σ M1) : rForI ti g t ⟨n, r, b, c⟩ σ M := h
theorem do_itS (h : ta σ M (kItS QA)) : rItS ta σ M QA := h
theorem do_kits_t {xs : List RV} (h : QA xs M) : kItS QA (.tup xs) M := h
theorem do_kits_l {xs : List RV} (h : QA xs M) : kItS QA (.ls xs) M := h
theorem do_itR (h : ta σ M fun v M1 => rRngI QA [v] M1) : rItR ta σ M QA := h
theorem do_rng {k : Int} (h0 : -(2 ^ 62) ≤ k) (h1 : k < 2 ^ 62) (h : QA (nums k.toNat) M) : rRngI QA [.int k] M := ⟨h0, h1, h⟩
theorem do_forNil {g : RTG} (h : n σ M) : rForL g t ⟨n, r, b, c⟩ [] σ M := h
theorem do_forCons {g : RTG} {x : RV} {xs : List RV} (h : g x σ M fun σ2 M2 => t ⟨rForL g t ⟨n, r, b, c⟩ xs, r, n, rForL g t ⟨n, r, b, c⟩ xs⟩ σ2 M2) : rForL g t ⟨n, r, b, c⟩ (x :: xs) σ M := h
theorem do_comp {ti : RTI} {cap : List Nat} (h : ti σ M fun xs M1 => xs.length < sizeLine ∧ rCompL tA ta (cap.map fun i => (σ[i]?).join) xs [] M1 Q) : rComp ti cap tA ta σ M Q := h
theorem do_compNil {base : List (Option RV)} {acc : List RV} (h : Q (.ls acc) M) : rCompL tA ta base [] acc M Q := h
theorem do_compYes {base : List (Option RV)} {acc : List RV} {x : RV} {xs : List RV} (h : ta (some x :: base) M fun v M2 => rCompL rYes ta base xs (acc ++ [v]) M2 Q) : rCompL rYes ta base (x :: xs) acc M Q := ⟨fun _ => h, fun z => (by cases z)⟩
theorem do_compT {base : List (Option RV)} {acc : List RV} {x : RV} {xs : List RV} (h : tA (some x :: base) M (kIf (fun M1 => ta (some x :: base) M1 fun v M2 => rCompL tA ta base xs (acc ++ [v]) M2 Q) (fun M1 => rCompL tA ta base xs acc M1 Q))) : rCompL tA ta base (x :: xs) acc M Q := h
theorem do_sl {tl th : RTO} (h : ta σ M fun x M1 => tl σ M1 fun l M2 => th σ M2 fun u M3 => rSlc x l u M3 Q) : rSl ta tl th σ M Q := h
theorem do_noP (h : QO none M) : rNoP σ M QO := h
theorem do_part (h : ta σ M (kPart QO)) : rPart ta σ M QO := h
theorem do_kpart {i : Int} (h : QO (some i) M) : kPart QO (.int i) M := h
theorem do_slT {xs : List RV} {lo hi : Option Int} (h : Q (.tup (cutR xs lo hi)) M) : rSlc (.tup xs) lo hi M Q := h
theorem do_slL {xs : List RV} {lo hi : Option Int} (h : Q (.ls (cutR xs lo hi)) M) : rSlc (.ls xs) lo hi M Q := h
theorem do_int0 {g : Int → Int → RV} {i j : Int} (h : Q (g i j) M) : rInt0 g (.int i) (.int j) M Q := h
theorem do_int2 {C : Int → Int → Prop} {g : Int → Int → RV} {i j : Int} (e : C i j) (h : Q (g i j) M) : rInt2 C g (.int i) (.int j) M Q := ⟨e, h⟩
theorem do_addI {i j : Int} (h : Q (.int (i + j)) M) : R.rAdd (.int i) (.int j) M Q := h
theorem do_addT {xs ys : List RV} (e : Nat.ble (xs.length + ys.length) 1000 = true) (h : Q (.tup (xs ++ ys)) M) : R.rAdd (.tup xs) (.tup ys) M Q := ⟨Nat.le_trans (Nat.le_of_ble_eq_true e) (by decide), h⟩
theorem do_addL {xs ys : List RV} (e : Nat.ble (xs.length + ys.length) 1000 = true) (h : Q (.ls (xs ++ ys)) M) : R.rAdd (.ls xs) (.ls ys) M Q := ⟨Nat.le_trans (Nat.le_of_ble_eq_true e) (by decide), h⟩
theorem do_eq {x y : RV} (e1 : okR 16 x = true) (e2 : okR 16 y = true) (h : Q (.bl (eqR x y)) M) : rEqq x y M Q := ⟨e1, e2, h⟩
theorem do_ne {x y : RV} (e1 : okR 16 x = true) (e2 : okR 16 y = true) (h : Q (.bl (!eqR x y)) M) : rNeq x y M Q := ⟨e1, e2, h⟩
theorem do_is {x : RV} (h : Q (.bl (isN x)) M) : rIs x .non M Q := h
theorem do_isnot {x : RV} (h : Q (.bl (!isN x)) M) : rIsNot x .non M Q := h
theorem do_ixT {xs : List RV} {i : Int} (h : kAt Q M (atI xs i)) : R.rIx (.tup xs) (.int i) M Q := h
theorem do_ixL {xs : List RV} {i : Int} (h : kAt Q M (atI xs i)) : R.rIx (.ls xs) (.int i) M Q := h
theorem do_kat {o : Option RV} {v : RV} (e : o = some v) (h : Q v M) : kAt Q M o := by subst e; exact h
theorem do_len_t {xs : List RV} (h : Q (.int xs.length) M) : rLen [.tup xs] M Q := h
theorem do_len_l {xs : List RV} (h : Q (.int xs.length) M) : rLen [.ls xs] M Q := h
theorem do_tuple_l {xs : List RV} (h : Q (.tup xs) M) : rTuple [.ls xs] M Q := h
theorem do_tuple_t {xs : List RV} (h : Q (.tup xs) M) : rTuple [.tup xs] M Q := h
theorem do_isi {T : String} {test : RV → Option Bool} {x : RV} {b : Bool} (e : test x = some b) (h : Q (.bl b) M) : rIsi T test [x, .ty T] M Q := by
  refine ⟨rfl, ?_⟩; rw [e]; exact h
def kTab (kvs : List (Key × RV)) (Q : RVK) : RVK := fun k M1 => match keyR k with
  | some key => (match lookK kvs key with | some v => Q v M1 | none => False)
  | none => False
theorem do_tab {kvs : List (Key × RV)} (h : ta σ M (kTab kvs Q)) : rTab kvs ta σ M Q := h
theorem do_ktab {kvs : List (Key × RV)} {k v : RV} {key : Key} (e1 : keyR k = some key) (e2 : lookK kvs key = some v) (h : Q v M) : kTab kvs Q k M := by
  unfold kTab; rw [e1]; dsimp only; rw [e2]; exact h
def kDisp (kvs : List (Key × RV)) (p : Addr) (Q : RVK) : RVK := fun k M1 => M1 p = some (.dk kvs) ∧ (match keyR k with
  | some key => (match lookK kvs key with | some v => Q v (drop M1 p) | none => False)
  | none => False)
theorem do_disp {kvs : List (Key × RV)} (h : ∀ p, M p = none → ta σ (put M p (.dk kvs)) (kDisp kvs p Q)) : rDispGet kvs ta σ M Q := h
theorem do_kdisp {kvs : List (Key × RV)} {p : Addr} {k v : RV} {key : Key} (e : M p = some (.dk kvs)) (e1 : keyR k = some key) (e2 : lookK kvs key = some v) (h : Q v (drop M p)) : kDisp kvs p Q k M := by
  refine ⟨e, ?_⟩; rw [e1]; dsimp only; rw [e2]; exact h
theorem drop_put' {M : RM} {p : Addr} {o : RO} (h : M p = none) : drop (put M p o) p = M := by
  funext b; unfold drop put
  by_cases hb : b = p
  · subst hb; rw [if_pos rfl, h]
  · rw [if_neg hb, if_neg hb]
theorem do_kdisp' {kvs : List (Key × RV)} {p : Addr} {k v : RV} {key : Key} (hp : M p = none) (e1 : keyR k = some key) (e2 : lookK kvs key = some v) (h : Q v M) : kDisp kvs p Q k (put M p (.dk kvs)) :=
  do_kdisp put_same e1 e2 (by rw [drop_put' hp]; exact h)
end
end R

set_option Elab.async false
set_option linter.all false
set_option maxRecDepth 100000
namespace K04
open PySem PySem.Spec PyProof.Rows L2 R
def top (i : Nat) : Stmt := PySem.Challenge.pw_lentgate_k04_holders_and_times.main.body.getD i (.Pass ⟨0, 0, 0, 0⟩)
abbrev s_holder_of : Stmt := top 2
abbrev N_holder_of : List Str := ["form", "inner", "lending", "kind", "house", "door", "place", "far"]
theorem sc_holder_of : FnScope N_holder_of ["form", "inner"] (defScope s_holder_of) := ⟨rfl, rfl, rfl, by decide +kernel, rfl, by decide +kernel, by decide +kernel⟩
theorem no_holder_of : NameOk N_holder_of (defScope s_holder_of) := ⟨by decide +kernel, by decide +kernel, by decide +kernel⟩
abbrev s_time_of : Stmt := top 3
abbrev N_time_of : List Str := ["form", "state", "times"]
theorem sc_time_of : FnScope N_time_of ["form", "state"] (defScope s_time_of) := ⟨rfl, rfl, rfl, by decide +kernel, rfl, by decide +kernel, by decide +kernel⟩
theorem no_time_of : NameOk N_time_of (defScope s_time_of) := ⟨by decide +kernel, by decide +kernel, by decide +kernel⟩
theorem gl_time_of_TIME_AT : (defScope s_time_of).names.lookup ("TIME_AT" : Str) = some .globalImplicit := by decide +kernel
abbrev s__law_cell : Stmt := top 5
abbrev N__law_cell : List Str := ["script", "k"]
theorem sc__law_cell : FnScope N__law_cell ["script", "k"] (defScope s__law_cell) := ⟨rfl, rfl, rfl, by decide +kernel, rfl, by decide +kernel, by decide +kernel⟩
theorem no__law_cell : NameOk N__law_cell (defScope s__law_cell) := ⟨by decide +kernel, by decide +kernel, by decide +kernel⟩
theorem gl__law_cell_len : (defScope s__law_cell).names.lookup ("len" : Str) = some .globalImplicit := by decide +kernel
abbrev s__law_well : Stmt := top 6
abbrev N__law_well : List Str := ["cell", "turn"]
theorem sc__law_well : FnScope N__law_well ["cell", "turn"] (defScope s__law_well) := ⟨rfl, rfl, rfl, by decide +kernel, rfl, by decide +kernel, by decide +kernel⟩
theorem no__law_well : NameOk N__law_well (defScope s__law_well) := ⟨by decide +kernel, by decide +kernel, by decide +kernel⟩
abbrev s__law_take : Stmt := top 7
abbrev N__law_take : List Str := ["bag", "many", "p", "n", "found"]
theorem sc__law_take : FnScope N__law_take ["bag", "many"] (defScope s__law_take) := ⟨rfl, rfl, rfl, by decide +kernel, rfl, by decide +kernel, by decide +kernel⟩
theorem no__law_take : NameOk N__law_take (defScope s__law_take) := ⟨by decide +kernel, by decide +kernel, by decide +kernel⟩
abbrev s__law_whole : Stmt := top 8
abbrev N__law_whole : List Str := ["found"]
theorem sc__law_whole : FnScope N__law_whole ["found"] (defScope s__law_whole) := ⟨rfl, rfl, rfl, by decide +kernel, rfl, by decide +kernel, by decide +kernel⟩
theorem no__law_whole : NameOk N__law_whole (defScope s__law_whole) := ⟨by decide +kernel, by decide +kernel, by decide +kernel⟩
theorem gl__law_whole_bool : (defScope s__law_whole).names.lookup ("bool" : Str) = some .globalImplicit := by decide +kernel
theorem gl__law_whole_int : (defScope s__law_whole).names.lookup ("int" : Str) = some .globalImplicit := by decide +kernel
theorem gl__law_whole_isinstance : (defScope s__law_whole).names.lookup ("isinstance" : Str) = some .globalImplicit := by decide +kernel
abbrev s__law_a_form : Stmt := top 9
abbrev N__law_a_form : List Str := ["bag", "many", "low", "lending", "sieve", "pick", "most", "renew", "far", "times", "rest"]
theorem sc__law_a_form : FnScope N__law_a_form ["bag"] (defScope s__law_a_form) := ⟨rfl, rfl, rfl, by decide +kernel, rfl, by decide +kernel, by decide +kernel⟩
theorem no__law_a_form : NameOk N__law_a_form (defScope s__law_a_form) := ⟨by decide +kernel, by decide +kernel, by decide +kernel⟩
theorem gl__law_a_form__law_take : (defScope s__law_a_form).names.lookup ("_law_take" : Str) = some .globalImplicit := by decide +kernel
theorem gl__law_a_form_range : (defScope s__law_a_form).names.lookup ("range" : Str) = some .globalImplicit := by decide +kernel
theorem gl__law_a_form_tuple : (defScope s__law_a_form).names.lookup ("tuple" : Str) = some .globalImplicit := by decide +kernel
abbrev s__law_any_inner : Stmt := top 10
abbrev N__law_any_inner : List Str := ["bag", "kind", "house", "door", "place"]
theorem sc__law_any_inner : FnScope N__law_any_inner ["bag"] (defScope s__law_any_inner) := ⟨rfl, rfl, rfl, by decide +kernel, rfl, by decide +kernel, by decide +kernel⟩
theorem no__law_any_inner : NameOk N__law_any_inner (defScope s__law_any_inner) := ⟨by decide +kernel, by decide +kernel, by decide +kernel⟩
theorem gl__law_any_inner__law_take : (defScope s__law_any_inner).names.lookup ("_law_take" : Str) = some .globalImplicit := by decide +kernel
abbrev s_law : Stmt := top 11
abbrev N_law : List Str := ["script", "cell", "bag", "form", "inner", "other", "mask", "seen", "end", "alike", "state", "due", "found", "at"]
theorem sc_law : FnScope N_law ["script"] (defScope s_law) := ⟨rfl, rfl, rfl, by decide +kernel, rfl, by decide +kernel, by decide +kernel⟩
theorem no_law : NameOk N_law (defScope s_law) := ⟨by decide +kernel, by decide +kernel, by decide +kernel⟩
theorem gl_law__law_a_form : (defScope s_law).names.lookup ("_law_a_form" : Str) = some .globalImplicit := by decide +kernel
theorem gl_law__law_any_inner : (defScope s_law).names.lookup ("_law_any_inner" : Str) = some .globalImplicit := by decide +kernel
theorem gl_law__law_cell : (defScope s_law).names.lookup ("_law_cell" : Str) = some .globalImplicit := by decide +kernel
theorem gl_law__law_take : (defScope s_law).names.lookup ("_law_take" : Str) = some .globalImplicit := by decide +kernel
theorem gl_law__law_well : (defScope s_law).names.lookup ("_law_well" : Str) = some .globalImplicit := by decide +kernel
theorem gl_law__law_whole : (defScope s_law).names.lookup ("_law_whole" : Str) = some .globalImplicit := by decide +kernel
theorem gl_law_holder_of : (defScope s_law).names.lookup ("holder_of" : Str) = some .globalImplicit := by decide +kernel
theorem gl_law_isinstance : (defScope s_law).names.lookup ("isinstance" : Str) = some .globalImplicit := by decide +kernel
theorem gl_law_range : (defScope s_law).names.lookup ("range" : Str) = some .globalImplicit := by decide +kernel
theorem gl_law_time_of : (defScope s_law).names.lookup ("time_of" : Str) = some .globalImplicit := by decide +kernel
theorem gl_law_tuple : (defScope s_law).names.lookup ("tuple" : Str) = some .globalImplicit := by decide +kernel
theorem db_TIME_AT : (("TIME_AT" : Str) == ("__debug__" : Str)) = false := by decide +kernel
theorem nn_TIME_AT : ("TIME_AT" : Str) ≠ "__name__" := by decide +kernel
theorem db__law_a_form : (("_law_a_form" : Str) == ("__debug__" : Str)) = false := by decide +kernel
theorem nn__law_a_form : ("_law_a_form" : Str) ≠ "__name__" := by decide +kernel
theorem db__law_any_inner : (("_law_any_inner" : Str) == ("__debug__" : Str)) = false := by decide +kernel
theorem nn__law_any_inner : ("_law_any_inner" : Str) ≠ "__name__" := by decide +kernel
theorem db__law_cell : (("_law_cell" : Str) == ("__debug__" : Str)) = false := by decide +kernel
theorem nn__law_cell : ("_law_cell" : Str) ≠ "__name__" := by decide +kernel
theorem db__law_take : (("_law_take" : Str) == ("__debug__" : Str)) = false := by decide +kernel
theorem nn__law_take : ("_law_take" : Str) ≠ "__name__" := by decide +kernel
theorem db__law_well : (("_law_well" : Str) == ("__debug__" : Str)) = false := by decide +kernel
theorem nn__law_well : ("_law_well" : Str) ≠ "__name__" := by decide +kernel
theorem db__law_whole : (("_law_whole" : Str) == ("__debug__" : Str)) = false := by decide +kernel
theorem nn__law_whole : ("_law_whole" : Str) ≠ "__name__" := by decide +kernel
theorem db_holder_of : (("holder_of" : Str) == ("__debug__" : Str)) = false := by decide +kernel
theorem nn_holder_of : ("holder_of" : Str) ≠ "__name__" := by decide +kernel
theorem db_isinstance : (("isinstance" : Str) == ("__debug__" : Str)) = false := by decide +kernel
theorem nn_isinstance : ("isinstance" : Str) ≠ "__name__" := by decide +kernel
theorem db_len : (("len" : Str) == ("__debug__" : Str)) = false := by decide +kernel
theorem nn_len : ("len" : Str) ≠ "__name__" := by decide +kernel
theorem db_time_of : (("time_of" : Str) == ("__debug__" : Str)) = false := by decide +kernel
theorem nn_time_of : ("time_of" : Str) ≠ "__name__" := by decide +kernel
theorem db_tuple : (("tuple" : Str) == ("__debug__" : Str)) = false := by decide +kernel
theorem nn_tuple : ("tuple" : Str) ≠ "__name__" := by decide +kernel
structure Txt (P : Program) (w : World) (K : PySem.W.Frag) (mg : Str → Option Value) : Prop where
  b_bool : mg "bool" = none
  b_int : mg "int" = none
  b_isinstance : mg "isinstance" = none
  b_len : mg "len" = none
  b_range : mg "range" = none
  b_tuple : mg "tuple" = none
  t_TIME_AT : KTab P w K mg "TIME_AT" [((Sum.inr "note" : Key), RV.int 0), ((Sum.inr "asked" : Key), RV.int 1), ((Sum.inr "called" : Key), RV.int 1), ((Sum.inr "up" : Key), RV.int 2), ((Sum.inr "near" : Key), RV.int 2), ((Sum.inr "far" : Key), RV.int 2)]
section
variable {P : Program} {w : World} {K : PySem.W.Frag} {mg : Str → Option Value} {base : Heap}
/-- the bag: a list of three ints, drawn on at most n times -/
def BagO (o : RO) (n : Int) : Prop := ∃ x y t : Int, o = .lst [.int x, .int y, .int t] ∧ 0 ≤ x ∧ 0 ≤ y ∧ y < 2305843009213693951 ∧ 0 ≤ t ∧ t ≤ n
def Bag (M : RM) (b : Addr) (n : Int) : Prop := ∃ o, M b = some o ∧ BagO o n
theorem Bag.put {M : RM} {b : Addr} {o : RO} {n : Int} (h : BagO o n) : Bag (put M b o) b n := ⟨o, put_same, h⟩
theorem BagO.mono {o : RO} {m n : Int} (h : BagO o m) (l : m ≤ n) : BagO o n := by
  obtain ⟨x, y, t, e, h1, h2, h3, h4, h5⟩ := h
  exact ⟨x, y, t, e, h1, h2, h3, h4, Int.le_trans h5 l⟩
theorem small64 {i : Int} (h0 : 0 ≤ i) (h1 : i < 18446744073709551616) : i.natAbs < 2 ^ 64 := by
  have : (2 : Nat) ^ 64 = 18446744073709551616 := by decide
  omega
theorem cmul_left {i j : Int} (h0 : -18446744073709551616 < i) (h1 : i < 18446744073709551616) : CMul i j := .inl ⟨h0, h1⟩
theorem szl {n : Nat} (h : n ≤ 1000 := by first | decide | (simp only [List.length_cons, List.length_nil, List.length_append]; decide)) : n ≤ sizeLine := Nat.le_trans h (by decide)
theorem at0 {a : RV} {r : List RV} : atI (a :: r) 0 = some a := atI_nat (j := 0) rfl
theorem at1 {a b : RV} {r : List RV} : atI (a :: b :: r) 1 = some b := atI_nat (j := 1) rfl
theorem at2 {a b c : RV} {r : List RV} : atI (a :: b :: c :: r) 2 = some c := atI_nat (j := 2) rfl
theorem ix0 {n : Nat} : ixN (n + 1) 0 = some 0 := by unfold ixN; rw [if_pos (by omega), if_pos (by omega)]; rfl
theorem ix2 {n : Nat} : ixN (n + 3) 2 = some 2 := by unfold ixN; rw [if_pos (by omega), if_pos (by omega)]; rfl
/-- an item of a written list at a drawn place -/
theorem at_some {xs : List RV} {i : Int} (h0 : 0 ≤ i) (h1 : i < xs.length) : ∃ v, atI xs i = some v ∧ v ∈ xs := by
  obtain ⟨j, rfl⟩ := Int.eq_ofNat_of_zero_le h0
  have hj : j < xs.length := by omega
  exact ⟨xs[j], atI_nat (by simp [hj]), List.getElem_mem hj⟩
theorem at_eq {xs : List RV} {i : Int} {v : RV} {P : RV → Prop} (e : atI xs i = some v) (h : P v) : (match atI xs i with | some v => P v | none => False) := by rw [e]; exact h
theorem lk_here {α : Type} {k : Key} {v : α} {r : List (Key × α)} : lookK ((k, v) :: r) k = some v := by unfold lookK; rw [List.find?_cons, decide_eq_true rfl]; rfl
theorem lk_next {α : Type} {j k : Key} {v : α} {r : List (Key × α)} (h : ¬ j = k) : lookK ((j, v) :: r) k = lookK r k := by unfold lookK; rw [List.find?_cons, decide_eq_false h]
theorem lk_eq {kvs : List (Key × RV)} {k : Key} {v : RV} {P : RV → Prop} (e : lookK kvs k = some v) (h : P v) : (match lookK kvs k with | some v => P v | none => False) := by rw [e]; exact h
theorem ne_inr {a b : Str} (h : ¬ a = b) : ¬ (Sum.inr a : Key) = Sum.inr b := fun e => h (Sum.inr.inj e)
theorem rif_any {t : RTT} {ta tb : RTE} {σ : RSt} {M : RM} {Q : RVK} (p : RV → Prop) (h : ∀ v, p v → Q v M) (ht : ∀ Q' : Bool → RM → Prop, (∀ c, Q' c M) → t σ M Q') (ha : ∀ Q' : RVK, (∀ v, p v → Q' v M) → ta σ M Q') (hb : ∀ Q' : RVK, (∀ v, p v → Q' v M) → tb σ M Q') : rIf t ta tb σ M Q :=
  ht _ fun c => ⟨fun _ => ha Q h, fun _ => hb Q h⟩
theorem forL_inv {g : RTG} {tb : RTS} {D : RD} (J : RSt → RM → Prop) (p : RV → Prop) : ∀ (xs : List RV), (∀ x ∈ xs, p x) → (∀ x σ M (N : RSt → RM → Prop), p x → J σ M → (∀ σ' M', J σ' M' → N σ' M') → g x σ M fun σ2 M2 => tb { D with nx := N, ct := N, bk := D.nx } σ2 M2) →
    (∀ σ M, J σ M → D.nx σ M) → ∀ σ M, J σ M → rForL g tb D xs σ M
  | [], _, _, hd, σ, M, j => hd σ M j
  | x :: r, hp, hs, hd, σ, M, j => hs x σ M _ (hp x List.mem_cons_self) j fun σ' M' j' => forL_inv J p r (fun y hy => hp y (List.mem_cons_of_mem _ hy)) hs hd σ' M' j'
/-- what a reading wants of an item at a drawn place -/
theorem at_do {xs : List RV} {i : Int} {P : RV → Prop} (h0 : 0 ≤ i) (h1 : i < xs.length) (h : ∀ v ∈ xs, P v) : (match atI xs i with | some v => P v | none => False) := by
  obtain ⟨v, e, m⟩ := at_some h0 h1
  rw [e]
  exact h v m
def wholeR : RV → Option Bool
  | .int _ => some true
  | .bl _ => some false
  | .non => some false
  | .str _ => some false
  | .tup _ => some false
  | .ls _ => some false
  | _ => none
def AllI (lo hi : Int) : List RV → Prop
  | [] => True
  | .int k :: r => (lo ≤ k ∧ k ≤ hi) ∧ AllI lo hi r
  | _ :: _ => False
def AllS (p : Str → Prop) : List RV → Prop
  | [] => True
  | .str k :: r => p k ∧ AllS p r
  | _ :: _ => False
theorem allI_mem {lo hi : Int} : ∀ {xs : List RV}, AllI lo hi xs → ∀ v ∈ xs, ∃ k : Int, v = .int k ∧ lo ≤ k ∧ k ≤ hi
  | x :: r, h, v, m => by
    cases x with
    | int k =>
      rcases List.mem_cons.mp m with rfl | m
      · exact ⟨k, rfl, h.1.1, h.1.2⟩
      · exact allI_mem h.2 v m
    | _ => exact (show False from h).elim
theorem allS_mem {p : Str → Prop} : ∀ {xs : List RV}, AllS p xs → ∀ v ∈ xs, ∃ k : Str, v = .str k ∧ p k
  | x :: r, h, v, m => by
    cases x with
    | str k =>
      rcases List.mem_cons.mp m with rfl | m
      · exact ⟨k, rfl, h.1⟩
      · exact allS_mem h.2 v m
    | _ => exact (show False from h).elim
theorem at_ints (lo hi : Int) {xs : List RV} {i : Int} {P : RV → Prop} (h0 : 0 ≤ i) (h : ∀ k : Int, lo ≤ k → k ≤ hi → P (.int k)) (h1 : i < xs.length := by (simp only [List.length_cons, List.length_nil]; omega)) (ha : AllI lo hi xs := by (simp only [AllI, and_true]; omega)) : (match atI xs i with | some v => P v | none => False) :=
  at_do h0 h1 fun v hv => by obtain ⟨k, rfl, a, b⟩ := allI_mem ha v hv; exact h k a b
theorem at_strs (p : Str → Prop) {xs : List RV} {i : Int} {P : RV → Prop} (h0 : 0 ≤ i) (ha : AllS p xs) (h : ∀ k : Str, p k → P (.str k)) (h1 : i < xs.length := by (simp only [List.length_cons, List.length_nil]; omega)) : (match atI xs i with | some v => P v | none => False) :=
  at_do h0 h1 fun v hv => by obtain ⟨k, rfl, a⟩ := allS_mem ha v hv; exact h k a
theorem nums3 : R.nums (Int.toNat 3) = [.int 0, .int 1, .int 2] := rfl
theorem nums5 : R.nums (Int.toNat 5) = [.int 0, .int 1, .int 2, .int 3, .int 4] := rfl

def Lend (s : Str) : Prop := s = "door" ∨ s = "place" ∨ s = "talk"
theorem ne_note_asked : ¬ (("note" : Str) = "asked") := by decide +kernel
theorem ne_note_called : ¬ (("note" : Str) = "called") := by decide +kernel
theorem ne_note_up : ¬ (("note" : Str) = "up") := by decide +kernel
theorem ne_note_near : ¬ (("note" : Str) = "near") := by decide +kernel
theorem ne_note_far : ¬ (("note" : Str) = "far") := by decide +kernel
theorem ne_asked_called : ¬ (("asked" : Str) = "called") := by decide +kernel
theorem ne_asked_up : ¬ (("asked" : Str) = "up") := by decide +kernel
theorem ne_asked_near : ¬ (("asked" : Str) = "near") := by decide +kernel
theorem ne_asked_far : ¬ (("asked" : Str) = "far") := by decide +kernel
theorem ne_called_up : ¬ (("called" : Str) = "up") := by decide +kernel
theorem ne_called_near : ¬ (("called" : Str) = "near") := by decide +kernel
theorem ne_called_far : ¬ (("called" : Str) = "far") := by decide +kernel
theorem ne_up_near : ¬ (("up" : Str) = "near") := by decide +kernel
theorem ne_up_far : ¬ (("up" : Str) = "far") := by decide +kernel
theorem ne_near_far : ¬ (("near" : Str) = "far") := by decide +kernel
theorem ne_door_place : ¬ (("door" : Str) = "place") := by decide +kernel
theorem ne_door_talk : ¬ (("door" : Str) = "talk") := by decide +kernel
theorem ne_place_talk : ¬ (("place" : Str) = "talk") := by decide +kernel
theorem lk_note : lookK [((Sum.inr "note" : Key), RV.int 0), ((Sum.inr "asked" : Key), RV.int 1), ((Sum.inr "called" : Key), RV.int 1), ((Sum.inr "up" : Key), RV.int 2), ((Sum.inr "near" : Key), RV.int 2), ((Sum.inr "far" : Key), RV.int 2)] (Sum.inr "note") = some (.int 0) := lk_here
theorem lk_asked : lookK [((Sum.inr "note" : Key), RV.int 0), ((Sum.inr "asked" : Key), RV.int 1), ((Sum.inr "called" : Key), RV.int 1), ((Sum.inr "up" : Key), RV.int 2), ((Sum.inr "near" : Key), RV.int 2), ((Sum.inr "far" : Key), RV.int 2)] (Sum.inr "asked") = some (.int 1) := (lk_next (ne_inr ne_note_asked)).trans (lk_here)
theorem lk_called : lookK [((Sum.inr "note" : Key), RV.int 0), ((Sum.inr "asked" : Key), RV.int 1), ((Sum.inr "called" : Key), RV.int 1), ((Sum.inr "up" : Key), RV.int 2), ((Sum.inr "near" : Key), RV.int 2), ((Sum.inr "far" : Key), RV.int 2)] (Sum.inr "called") = some (.int 1) := (lk_next (ne_inr ne_note_called)).trans ((lk_next (ne_inr ne_asked_called)).trans (lk_here))
theorem lk_up : lookK [((Sum.inr "note" : Key), RV.int 0), ((Sum.inr "asked" : Key), RV.int 1), ((Sum.inr "called" : Key), RV.int 1), ((Sum.inr "up" : Key), RV.int 2), ((Sum.inr "near" : Key), RV.int 2), ((Sum.inr "far" : Key), RV.int 2)] (Sum.inr "up") = some (.int 2) := (lk_next (ne_inr ne_note_up)).trans ((lk_next (ne_inr ne_asked_up)).trans ((lk_next (ne_inr ne_called_up)).trans (lk_here)))
theorem lk_near : lookK [((Sum.inr "note" : Key), RV.int 0), ((Sum.inr "asked" : Key), RV.int 1), ((Sum.inr "called" : Key), RV.int 1), ((Sum.inr "up" : Key), RV.int 2), ((Sum.inr "near" : Key), RV.int 2), ((Sum.inr "far" : Key), RV.int 2)] (Sum.inr "near") = some (.int 2) := (lk_next (ne_inr ne_note_near)).trans ((lk_next (ne_inr ne_asked_near)).trans ((lk_next (ne_inr ne_called_near)).trans ((lk_next (ne_inr ne_up_near)).trans (lk_here))))
theorem lk_far : lookK [((Sum.inr "note" : Key), RV.int 0), ((Sum.inr "asked" : Key), RV.int 1), ((Sum.inr "called" : Key), RV.int 1), ((Sum.inr "up" : Key), RV.int 2), ((Sum.inr "near" : Key), RV.int 2), ((Sum.inr "far" : Key), RV.int 2)] (Sum.inr "far") = some (.int 2) := (lk_next (ne_inr ne_note_far)).trans ((lk_next (ne_inr ne_asked_far)).trans ((lk_next (ne_inr ne_called_far)).trans ((lk_next (ne_inr ne_up_far)).trans ((lk_next (ne_inr ne_near_far)).trans (lk_here)))))
theorem lk_door : lookK [((Sum.inr "door" : Key), RV.int 3), ((Sum.inr "place" : Key), RV.int 4), ((Sum.inr "talk" : Key), RV.int 5)] (Sum.inr "door") = some (.int 3) := lk_here
theorem lk_place : lookK [((Sum.inr "door" : Key), RV.int 3), ((Sum.inr "place" : Key), RV.int 4), ((Sum.inr "talk" : Key), RV.int 5)] (Sum.inr "place") = some (.int 4) := (lk_next (ne_inr ne_door_place)).trans (lk_here)
theorem lk_talk : lookK [((Sum.inr "door" : Key), RV.int 3), ((Sum.inr "place" : Key), RV.int 4), ((Sum.inr "talk" : Key), RV.int 5)] (Sum.inr "talk") = some (.int 5) := (lk_next (ne_inr ne_door_talk)).trans ((lk_next (ne_inr ne_place_talk)).trans (lk_here))
def hold (lend : Str) (k h d p f : RV) : RV := if lend = "door" then .tup [k, h, d, .non, .non] else if lend = "place" then .tup [k, h, d, p, .non] else .tup [k, h, d, p, f]
theorem hold_door {k h d p f : RV} : hold "door" k h d p f = .tup [k, h, d, .non, .non] := if_pos rfl
theorem hold_place {k h d p f : RV} : hold "place" k h d p f = .tup [k, h, d, p, .non] := (if_neg (fun e => ne_door_place e.symm)).trans (if_pos rfl)
theorem hold_talk {k h d p f : RV} : hold "talk" k h d p f = .tup [k, h, d, p, f] := (if_neg (fun e => ne_door_talk e.symm)).trans (if_neg (fun e => ne_place_talk e.symm))

@[irreducible] def sp_holder_of : RSp := fun rs M Q => ∃ (fs : List RV) (lend : Str) (k h d p f : RV), rs = [.tup fs, .tup [k, h, d, p, f]] ∧ atI fs 2 = some (.str lend) ∧ Q (hold lend k h d p f) M
set_option maxHeartbeats 4000000 in
theorem fn_holder_of {f : Addr} {fd : FuncData} (F : Fun K "holder_of" "holder_of" s_holder_of f fd) (T : Txt P w K mg)  : FnOk P w K mg base CX0 1 f fd ["form", "inner"] (upSp K sp_holder_of) := by
  refine' rfnok F sc_holder_of (fun rs M Q h => ?len) (fun cdv A outer s H E hr => ?term) (fun rs M Q h => ?body)
  case term =>
    refine' scons ?h906 ?h907
    case h906 =>
     refine' sasg ?h904 ?h905
     case h904 =>
      exact rvN 1 no_holder_of
     case h905 =>
      refine' gtup (is := [3, 4, 5, 6, 7]) rfl ?h903
      case h903 =>
       refine' pgs_cons (pgN 3 no_holder_of) ?h902
       case h902 =>
        refine' pgs_cons (pgN 4 no_holder_of) ?h901
        case h901 =>
         refine' pgs_cons (pgN 5 no_holder_of) ?h900
         case h900 =>
          refine' pgs_cons (pgN 6 no_holder_of) ?h899
          case h899 =>
           refine' pgs_cons (pgN 7 no_holder_of) ?h898
           case h898 =>
            exact pgs_nil
    case h907 =>
     refine' scons ?h896 ?h897
     case h896 =>
      refine' ssetN 2 no_holder_of ?h895
      case h895 =>
       refine' rix ?h893 ?h894
       case h893 =>
        exact rvN 0 no_holder_of
       case h894 =>
        exact ri
     case h897 =>
      refine' scons ?h891 ?h892
      case h891 =>
       refine' sif ?h888 ?h889 ?h890
       case h888 =>
        refine' rtcmp (oeq hr.units) ?h873 ?h874
        case h873 =>
         exact rvN 2 no_holder_of
        case h874 =>
         exact rs
       case h889 =>
        refine' sone ?h887
        case h887 =>
         refine' sret ?h886
         case h886 =>
          refine' rtup ?h885
          case h885 =>
           refine' acons ?h883 ?h884
           case h883 =>
            exact rvN 3 no_holder_of
           case h884 =>
            refine' acons ?h881 ?h882
            case h881 =>
             exact rvN 4 no_holder_of
            case h882 =>
             refine' acons ?h879 ?h880
             case h879 =>
              exact rvN 5 no_holder_of
             case h880 =>
              refine' acons ?h877 ?h878
              case h877 =>
               exact rn
              case h878 =>
               refine' acons ?h875 ?h876
               case h875 =>
                exact rn
               case h876 =>
                exact anil
       case h890 =>
        exact snil
      case h892 =>
       refine' scons ?h871 ?h872
       case h871 =>
        refine' sif ?h868 ?h869 ?h870
        case h868 =>
         refine' rtcmp (oeq hr.units) ?h853 ?h854
         case h853 =>
          exact rvN 2 no_holder_of
         case h854 =>
          exact rs
        case h869 =>
         refine' sone ?h867
         case h867 =>
          refine' sret ?h866
          case h866 =>
           refine' rtup ?h865
           case h865 =>
            refine' acons ?h863 ?h864
            case h863 =>
             exact rvN 3 no_holder_of
            case h864 =>
             refine' acons ?h861 ?h862
             case h861 =>
              exact rvN 4 no_holder_of
             case h862 =>
              refine' acons ?h859 ?h860
              case h859 =>
               exact rvN 5 no_holder_of
              case h860 =>
               refine' acons ?h857 ?h858
               case h857 =>
                exact rvN 6 no_holder_of
               case h858 =>
                refine' acons ?h855 ?h856
                case h855 =>
                 exact rn
                case h856 =>
                 exact anil
        case h870 =>
         exact snil
       case h872 =>
        refine' sone ?h852
        case h852 =>
         refine' sret ?h851
         case h851 =>
          refine' rtup ?h850
          case h850 =>
           refine' acons ?h848 ?h849
           case h848 =>
            exact rvN 3 no_holder_of
           case h849 =>
            refine' acons ?h846 ?h847
            case h846 =>
             exact rvN 4 no_holder_of
            case h847 =>
             refine' acons ?h844 ?h845
             case h844 =>
              exact rvN 5 no_holder_of
             case h845 =>
              refine' acons ?h842 ?h843
              case h842 =>
               exact rvN 6 no_holder_of
              case h843 =>
               refine' acons ?h840 ?h841
               case h840 =>
                exact rvN 7 no_holder_of
               case h841 =>
                exact anil
  case len =>
    unfold sp_holder_of at h; obtain ⟨fs, lend, k, h, d, p, f, rfl, _⟩ := h; rfl
  case body =>
    unfold sp_holder_of at h
    obtain ⟨fs, lend, k, hh, d, p, f, rfl, e, h⟩ := h
    refine ⟨rfl, at_eq e ⟨rfl, rfl, fun hc => ⟨szl, ?_⟩, fun hc => ⟨rfl, rfl, fun hc2 => ⟨szl, ?_⟩, fun hc2 => ⟨szl, ?_⟩⟩⟩⟩
    · have z : lend = "door" := by simpa [R.eqR] using hc
      subst z
      rw [hold_door] at h
      exact h
    · have z : lend = "place" := by simpa [R.eqR] using hc2
      subst z
      rw [hold_place] at h
      exact h
    · have z1 : ¬ lend = "door" := by simpa [R.eqR] using hc
      have z2 : ¬ lend = "place" := by simpa [R.eqR] using hc2
      have z : hold lend k hh d p f = .tup [k, hh, d, p, f] := (if_neg z1).trans (if_neg z2)
      rw [z] at h
      exact h
theorem holder_do {M : RM} {fs : List RV} {lend : Str} {k h d p f : RV} {Q : RVK} (e : atI fs 2 = some (.str lend)) (hq : Q (hold lend k h d p f) M) : sp_holder_of [.tup fs, .tup [k, h, d, p, f]] M Q := by
  unfold sp_holder_of; exact ⟨fs, lend, k, h, d, p, f, rfl, e, hq⟩
@[irreducible] def sp_time_of : RSp := fun rs M Q => ∃ (fs ts : List RV) (s : Str) (i : Int) (v : RV), rs = [.tup fs, .str s] ∧ atI fs 7 = some (.tup ts) ∧ lookK [((Sum.inr "note" : Key), RV.int 0), ((Sum.inr "asked" : Key), RV.int 1), ((Sum.inr "called" : Key), RV.int 1), ((Sum.inr "up" : Key), RV.int 2), ((Sum.inr "near" : Key), RV.int 2), ((Sum.inr "far" : Key), RV.int 2)] (Sum.inr s) = some (.int i) ∧ atI ts i = some v ∧ Q v M
set_option maxHeartbeats 4000000 in
theorem fn_time_of {f : Addr} {fd : FuncData} (F : Fun K "time_of" "time_of" s_time_of f fd) (T : Txt P w K mg)  : FnOk P w K mg base CX0 1 f fd ["form", "state"] (upSp K sp_time_of) := by
  refine' rfnok F sc_time_of (fun rs M Q h => ?len) (fun cdv A outer s H E hr => ?term) (fun rs M Q h => ?body)
  case term =>
    refine' scons ?h916 ?h917
    case h916 =>
     refine' ssetN 2 no_time_of ?h915
     case h915 =>
      refine' rix ?h913 ?h914
      case h913 =>
       exact rvN 0 no_time_of
      case h914 =>
       exact ri
    case h917 =>
     refine' sone ?h912
     case h912 =>
      refine' sret ?h911
      case h911 =>
       refine' rix ?h909 ?h910
       case h909 =>
        exact rvN 2 no_time_of
       case h910 =>
        refine' rtab T.t_TIME_AT ?h908 (hg := gl_time_of_TIME_AT) (hd := db_TIME_AT)
        case h908 =>
         exact rvN 1 no_time_of
  case len =>
    unfold sp_time_of at h; obtain ⟨fs, ts, s, i, v, rfl, _⟩ := h; rfl
  case body =>
    unfold sp_time_of at h
    obtain ⟨fs, ts, s, i, v, rfl, e, el, ev, h⟩ := h
    exact at_eq e (lk_eq el (at_eq ev h))
theorem time_do {M : RM} {fs ts : List RV} {s : Str} {i : Int} {v : RV} {Q : RVK} (e : atI fs 7 = some (.tup ts)) (el : lookK [((Sum.inr "note" : Key), RV.int 0), ((Sum.inr "asked" : Key), RV.int 1), ((Sum.inr "called" : Key), RV.int 1), ((Sum.inr "up" : Key), RV.int 2), ((Sum.inr "near" : Key), RV.int 2), ((Sum.inr "far" : Key), RV.int 2)] (Sum.inr s) = some (.int i)) (ev : atI ts i = some v) (hq : Q v M) : sp_time_of [.tup fs, .str s] M Q := by
  unfold sp_time_of; exact ⟨fs, ts, s, i, v, rfl, e, el, ev, hq⟩
@[irreducible] def sp__law_cell : RSp := fun rs M Q => ∃ (ns : List Int) (k : Int), rs = [.ls (ns.map RV.int), .int k] ∧ 0 ≤ k ∧ ∀ i : Int, Q (.int i) M
set_option maxHeartbeats 4000000 in
theorem fn__law_cell {f : Addr} {fd : FuncData} (F : Fun K "_law_cell" "_law_cell" s__law_cell f fd) (T : Txt P w K mg)  : FnOk P w K mg base CX0 1 f fd ["script", "k"] (upSp K sp__law_cell) := by
  refine' rfnok F sc__law_cell (fun rs M Q h => ?len) (fun cdv A outer s H E hr => ?term) (fun rs M Q h => ?body)
  case term =>
    refine' scons ?h932 ?h933
    case h932 =>
     refine' sif ?h929 ?h930 ?h931
     case h929 =>
      refine' rtcmp olt ?h923 ?h924
      case h923 =>
       exact rvN 1 no__law_cell
      case h924 =>
       refine' rcallB clen T.b_len bt_len ?h922 (hg := gl__law_cell_len) (hdb := db_len) (hn := nn_len)
       case h922 =>
        refine' acons ?h920 ?h921
        case h920 =>
         exact rvN 0 no__law_cell
        case h921 =>
         exact anil
     case h930 =>
      refine' sone ?h928
      case h928 =>
       refine' sret ?h927
       case h927 =>
        refine' rix ?h925 ?h926
        case h925 =>
         exact rvN 0 no__law_cell
        case h926 =>
         exact rvN 1 no__law_cell
     case h931 =>
      exact snil
    case h933 =>
     refine' sone ?h919
     case h919 =>
      refine' sret ?h918
      case h918 =>
       exact ri
  case len =>
    unfold sp__law_cell at h; obtain ⟨ns, k, rfl, _⟩ := h; rfl
  case body =>
    unfold sp__law_cell at h
    obtain ⟨ns, k, rfl, h0, h⟩ := h
    simp only [R.rSeq, R.rIfS, R.rSet, R.rRet, R.rRetN, R.rTest, R.rOp, R.rVar, R.rC, R.rCons, R.rNil, R.rCall, R.rTup, R.rLsF, R.rLst, R.rIx, R.rAsg, R.rgSub, R.rgN, R.rgU, R.setAll, R.rInt0, R.rInt2, R.rAdd, R.rNext, R.rDrop, R.rIf, R.rAnd, R.rOr, R.rNot, R.rAndV, R.rOrV, R.rNotV, R.rChain, R.rUn, R.rgNeg, R.rSl, R.rPart, R.rNoP, R.rSlc, R.rForI, R.rItS, R.rItR, R.rRngI, R.rComp, R.rYes, R.rTuple, R.rLen, R.rIsi, R.rEqq, R.rNeq, R.rIs, R.rIsNot, R.rTab, R.rDispGet, R.rSetL, R.rMul, R.isN, R.keyR, R.rstart, R.is_int, R.is_bool, R.is_str, R.is_tuple, R.is_list, R.rGt, R.rMod, R.rDiv, R.rPow, R.rShr, R.rBand, R.rLt, R.rLe, R.rGe, R.rSub, List.map_cons, List.map_nil, List.set_cons_zero, List.set_cons_succ, List.length_cons, List.length_nil, List.replicate_succ, List.replicate_zero, List.cons_append, List.nil_append, List.getElem?_cons_zero, List.getElem?_cons_succ, Nat.reduceSub, Nat.reduceAdd, true_implies, Bool.false_eq_true, Bool.true_eq_false, reduceCtorEq, false_implies, and_true, true_and, Option.join_some, Nat.zero_add, decide_eq_true_eq, decide_eq_false_iff_not, List.append_nil]
    refine ⟨fun hk => ?_, fun _ => h 0⟩
    refine at_do h0 (by simpa using hk) fun v hv => ?_
    obtain ⟨i, _, rfl⟩ := List.mem_map.mp hv
    exact h i
theorem cell_do {M : RM} {ns : List Int} {k : Int} {Q : RVK} (h0 : 0 ≤ k) (h : ∀ i : Int, Q (.int i) M) : sp__law_cell [.ls (ns.map RV.int), .int k] M Q := by
  unfold sp__law_cell; exact ⟨ns, k, rfl, h0, h⟩
@[irreducible] def sp__law_well : RSp := fun rs M Q => ∃ (c : Int), rs = [.int c, .int 0] ∧ ∀ (p : Addr) (o : RO), M p = none → BagO o 0 → Q (.ref p) (put M p o)
set_option maxHeartbeats 4000000 in
theorem fn__law_well {f : Addr} {fd : FuncData} (F : Fun K "_law_well" "_law_well" s__law_well f fd) (T : Txt P w K mg)  : FnOk P w K mg base CX0 1 f fd ["cell", "turn"] (upSp K sp__law_well) := by
  refine' rfnok F sc__law_well (fun rs M Q h => ?len) (fun cdv A outer s H E hr => ?term) (fun rs M Q h => ?body)
  case term =>
    refine' scons ?h967 ?h968
    case h967 =>
     refine' sif ?h964 ?h965 ?h966
     case h964 =>
      refine' rtcmp oge ?h947 ?h948
      case h947 =>
       exact rvN 0 no__law_well
      case h948 =>
       refine' rop opow ?h945 ?h946
       case h945 =>
        exact ri
       case h946 =>
        exact ri
     case h965 =>
      refine' sone ?h963
      case h963 =>
       refine' sret ?h962
       case h962 =>
        refine' rlst ?h961
        case h961 =>
         refine' acons ?h959 ?h960
         case h959 =>
          refine' rop osub ?h957 ?h958
          case h957 =>
           exact rvN 0 no__law_well
          case h958 =>
           refine' rop opow ?h955 ?h956
           case h955 =>
            exact ri
           case h956 =>
            exact ri
         case h960 =>
          refine' acons ?h953 ?h954
          case h953 =>
           refine' rop omod ?h951 ?h952
           case h951 =>
            exact rvN 0 no__law_well
           case h952 =>
            exact ri
          case h954 =>
           refine' acons ?h949 ?h950
           case h949 =>
            exact rvN 1 no__law_well
           case h950 =>
            exact anil
     case h966 =>
      exact snil
    case h968 =>
     refine' sone ?h944
     case h944 =>
      refine' sret ?h943
      case h943 =>
       refine' rlst ?h942
       case h942 =>
        refine' acons ?h940 ?h941
        case h940 =>
         exact ri
        case h941 =>
         refine' acons ?h938 ?h939
         case h938 =>
          refine' rop omod ?h936 ?h937
          case h936 =>
           exact rvN 0 no__law_well
          case h937 =>
           exact ri
         case h939 =>
          refine' acons ?h934 ?h935
          case h934 =>
           exact rvN 1 no__law_well
          case h935 =>
           exact anil
  case len =>
    unfold sp__law_well at h; obtain ⟨c, rfl, _⟩ := h; rfl
  case body =>
    unfold sp__law_well at h
    obtain ⟨c, rfl, h⟩ := h
    simp only [R.rSeq, R.rIfS, R.rSet, R.rRet, R.rRetN, R.rTest, R.rOp, R.rVar, R.rC, R.rCons, R.rNil, R.rCall, R.rTup, R.rLsF, R.rLst, R.rIx, R.rAsg, R.rgSub, R.rgN, R.rgU, R.setAll, R.rInt0, R.rInt2, R.rAdd, R.rNext, R.rDrop, R.rIf, R.rAnd, R.rOr, R.rNot, R.rAndV, R.rOrV, R.rNotV, R.rChain, R.rUn, R.rgNeg, R.rSl, R.rPart, R.rNoP, R.rSlc, R.rForI, R.rItS, R.rItR, R.rRngI, R.rComp, R.rYes, R.rTuple, R.rLen, R.rIsi, R.rEqq, R.rNeq, R.rIs, R.rIsNot, R.rTab, R.rDispGet, R.rSetL, R.rMul, R.isN, R.keyR, R.rstart, R.is_int, R.is_bool, R.is_str, R.is_tuple, R.is_list, R.rGt, R.rMod, R.rDiv, R.rPow, R.rShr, R.rBand, R.rLt, R.rLe, R.rGe, R.rSub, List.map_cons, List.map_nil, List.set_cons_zero, List.set_cons_succ, List.length_cons, List.length_nil, List.replicate_succ, List.replicate_zero, List.cons_append, List.nil_append, List.getElem?_cons_zero, List.getElem?_cons_succ, Nat.reduceSub, Nat.reduceAdd, true_implies, Bool.false_eq_true, Bool.true_eq_false, reduceCtorEq, false_implies, and_true, true_and, Option.join_some, Nat.zero_add, decide_eq_true_eq, decide_eq_false_iff_not, List.append_nil]
    have e18 : (10 : Int) ^ Int.toNat 18 = 1000000000000000000 := by decide
    rw [e18]
    refine ⟨⟨by decide, by decide, by decide⟩, fun hc => ⟨⟨by decide, by decide, by decide⟩, by decide, szl, fun p hp => ?_⟩, fun _ => ⟨by decide, szl, fun p hp => ?_⟩⟩
    · exact h p _ hp ⟨_, _, 0, rfl, by omega, Int.emod_nonneg _ (by decide), Int.emod_lt_of_pos _ (by decide), by decide, by decide⟩
    · exact h p _ hp ⟨_, _, 0, rfl, by decide, Int.emod_nonneg _ (by decide), Int.emod_lt_of_pos _ (by decide), by decide, by decide⟩
theorem well_do {M : RM} {c : Int} {Q : RVK} (h : ∀ (p : Addr) (o : RO), M p = none → BagO o 0 → Q (.ref p) (put M p o)) : sp__law_well [.int c, .int 0] M Q := by
  unfold sp__law_well; exact ⟨c, rfl, h⟩
@[irreducible] def sp__law_take : RSp := fun rs M Q => ∃ (b : Addr) (m n : Int), rs = [.ref b, .int m] ∧ 0 < m ∧ m < 1073741824 ∧ Bag M b n ∧ n ≤ 100000 ∧ ∀ (r : Int) (o : RO), 0 ≤ r → r < m → BagO o (n + 1) → Q (.int r) (put M b o)
set_option maxHeartbeats 4000000 in
theorem fn__law_take {f : Addr} {fd : FuncData} (F : Fun K "_law_take" "_law_take" s__law_take f fd) (T : Txt P w K mg)  : FnOk P w K mg base CX0 1 f fd ["bag", "many"] (upSp K sp__law_take) := by
  refine' rfnok F sc__law_take (fun rs M Q h => ?len) (fun cdv A outer s H E hr => ?term) (fun rs M Q h => ?body)
  case term =>
    refine' scons ?h1046 ?h1047
    case h1046 =>
     refine' sif ?h1043 ?h1044 ?h1045
     case h1043 =>
      refine' rtcmp ogt ?h1023 ?h1024
      case h1023 =>
       refine' rix ?h1021 ?h1022
       case h1021 =>
        exact rvN 0 no__law_take
       case h1022 =>
        exact ri
      case h1024 =>
       exact ri
     case h1044 =>
      refine' scons ?h1041 ?h1042
      case h1041 =>
       refine' ssetN 4 no__law_take ?h1040
       case h1040 =>
        refine' rop omod ?h1038 ?h1039
        case h1038 =>
         refine' rix ?h1036 ?h1037
         case h1036 =>
          exact rvN 0 no__law_take
         case h1037 =>
          exact ri
        case h1039 =>
         exact rvN 1 no__law_take
      case h1042 =>
       refine' scons ?h1034 ?h1035
       case h1034 =>
        refine' sasg ?h1031 (gsub ?h1032 ?h1033 osetl)
        case h1031 =>
         refine' rop odiv ?h1029 ?h1030
         case h1029 =>
          refine' rix ?h1027 ?h1028
          case h1027 =>
           exact rvN 0 no__law_take
          case h1028 =>
           exact ri
         case h1030 =>
          exact rvN 1 no__law_take
        case h1032 =>
         exact rvN 0 no__law_take
        case h1033 =>
         exact ri
       case h1035 =>
        refine' sone ?h1026
        case h1026 =>
         refine' sret ?h1025
         case h1025 =>
          exact rvN 4 no__law_take
     case h1045 =>
      exact snil
    case h1047 =>
     refine' scons ?h1019 ?h1020
     case h1019 =>
      refine' sasg ?h1016 (gsub ?h1017 ?h1018 osetl)
      case h1016 =>
       refine' rop oadd ?h1014 ?h1015
       case h1014 =>
        refine' rix ?h1012 ?h1013
        case h1012 =>
         exact rvN 0 no__law_take
        case h1013 =>
         exact ri
       case h1015 =>
        exact ri
      case h1017 =>
       exact rvN 0 no__law_take
      case h1018 =>
       exact ri
     case h1020 =>
      refine' scons ?h1010 ?h1011
      case h1010 =>
       refine' ssetN 2 no__law_take ?h1009
       case h1009 =>
        exact ri
      case h1011 =>
       refine' scons ?h1007 ?h1008
       case h1007 =>
        refine' ssetN 3 no__law_take ?h1006
        case h1006 =>
         refine' rop omod ?h1004 ?h1005
         case h1004 =>
          refine' rop oadd ?h1002 ?h1003
          case h1002 =>
           refine' rix ?h996 ?h997
           case h996 =>
            exact rvN 0 no__law_take
           case h997 =>
            exact ri
          case h1003 =>
           refine' rop omul ?h1000 ?h1001
           case h1000 =>
            exact ri
           case h1001 =>
            refine' rix ?h998 ?h999
            case h998 =>
             exact rvN 0 no__law_take
            case h999 =>
             exact ri
         case h1005 =>
          exact rvN 2 no__law_take
       case h1008 =>
        refine' scons ?h994 ?h995
        case h994 =>
         refine' ssetN 3 no__law_take ?h993
         case h993 =>
          refine' rop omod ?h991 ?h992
          case h991 =>
           refine' rop oadd ?h989 ?h990
           case h989 =>
            refine' rop oadd ?h987 ?h988
            case h987 =>
             refine' rop omul ?h979 ?h980
             case h979 =>
              exact rvN 3 no__law_take
             case h980 =>
              exact rvN 3 no__law_take
            case h988 =>
             refine' rop omul ?h985 ?h986
             case h985 =>
              exact ri
             case h986 =>
              refine' rop opow ?h983 ?h984
              case h983 =>
               refine' rix ?h981 ?h982
               case h981 =>
                exact rvN 0 no__law_take
               case h982 =>
                exact ri
              case h984 =>
               exact ri
           case h990 =>
            exact ri
          case h992 =>
           exact rvN 2 no__law_take
        case h995 =>
         refine' sone ?h978
         case h978 =>
          refine' sret ?h977
          case h977 =>
           refine' rop omod ?h975 ?h976
           case h975 =>
            refine' rop odiv ?h973 ?h974
            case h973 =>
             refine' rop omod ?h971 ?h972
             case h971 =>
              refine' rop opow ?h969 ?h970
              case h969 =>
               exact rvN 3 no__law_take
              case h970 =>
               exact ri
             case h972 =>
              exact rvN 2 no__law_take
            case h974 =>
             exact ri
           case h976 =>
            exact rvN 1 no__law_take
  case len =>
    unfold sp__law_take at h; obtain ⟨b, m, n, rfl, _⟩ := h; rfl
  case body =>
    unfold sp__law_take at h
    obtain ⟨b, m, n, rfl, m0, m1, ⟨o, hb, x, y, t, rfl, x0, y0, y1, t0, t1⟩, hn, h⟩ := h
    simp only [R.rSeq, R.rIfS, R.rSet, R.rRet, R.rRetN, R.rTest, R.rOp, R.rVar, R.rC, R.rCons, R.rNil, R.rCall, R.rTup, R.rLsF, R.rLst, R.rIx, R.rAsg, R.rgSub, R.rgN, R.rgU, R.setAll, R.rInt0, R.rInt2, R.rAdd, R.rNext, R.rDrop, R.rIf, R.rAnd, R.rOr, R.rNot, R.rAndV, R.rOrV, R.rNotV, R.rChain, R.rUn, R.rgNeg, R.rSl, R.rPart, R.rNoP, R.rSlc, R.rForI, R.rItS, R.rItR, R.rRngI, R.rComp, R.rYes, R.rTuple, R.rLen, R.rIsi, R.rEqq, R.rNeq, R.rIs, R.rIsNot, R.rTab, R.rDispGet, R.rSetL, R.rMul, R.isN, R.keyR, R.rstart, R.is_int, R.is_bool, R.is_str, R.is_tuple, R.is_list, R.rGt, R.rMod, R.rDiv, R.rPow, R.rShr, R.rBand, R.rLt, R.rLe, R.rGe, R.rSub, List.map_cons, List.map_nil, List.set_cons_zero, List.set_cons_succ, List.length_cons, List.length_nil, List.replicate_succ, List.replicate_zero, List.cons_append, List.nil_append, List.getElem?_cons_zero, List.getElem?_cons_succ, Nat.reduceSub, Nat.reduceAdd, true_implies, Bool.false_eq_true, Bool.true_eq_false, reduceCtorEq, false_implies, and_true, true_and, Option.join_some, Nat.zero_add, decide_eq_true_eq, decide_eq_false_iff_not, List.append_nil, hb, at0, at1, at2, ix0, ix2, R.put_same, R.put_put]
    generalize e1 : (y + 1000003 * (t + 1)) % 2305843009213693951 = a
    have a0 : 0 ≤ a ∧ a < 2305843009213693951 := by subst e1; exact ⟨Int.emod_nonneg _ (by decide), Int.emod_lt_of_pos _ (by decide)⟩
    generalize e2 : (a * a + 7919 * (t + 1) ^ Int.toNat 2 + 5) % 2305843009213693951 = c
    have c0 : 0 ≤ c ∧ c < 2305843009213693951 := by subst e2; exact ⟨Int.emod_nonneg _ (by decide), Int.emod_lt_of_pos _ (by decide)⟩
    refine ⟨fun hx => ⟨m0, ⟨m0, m1⟩, h _ _ (Int.emod_nonneg _ (by omega)) (Int.emod_lt_of_pos _ m0) ⟨x / m, y, t, rfl, Int.ediv_nonneg x0 (by omega), y0, y1, t0, by omega⟩⟩, fun hx => ⟨cmul_left (by decide) (by decide), by decide, cmul_left (by omega) (by omega), ⟨by decide, by decide, small64 (by omega) (by omega)⟩, cmul_left (by decide) (by decide), by decide, ⟨by decide, by decide, small64 (by omega) (by omega)⟩, by decide, ⟨by decide, by decide⟩, m0, h _ _ (Int.emod_nonneg _ (by omega)) (Int.emod_lt_of_pos _ m0) ⟨x, y, t + 1, rfl, x0, y0, y1, by omega, by omega⟩⟩⟩
theorem take_do {M : RM} {b : Addr} {m n : Int} {Q : RVK} (hB : Bag M b n) (m0 : 0 < m) (m1 : m < 1073741824) (hn : n ≤ 100000) (h : ∀ (r : Int) (o : RO), 0 ≤ r → r < m → BagO o (n + 1) → Q (.int r) (put M b o)) : sp__law_take [.ref b, .int m] M Q :=
  by unfold sp__law_take; exact ⟨b, m, n, rfl, m0, m1, hB, hn, h⟩
@[irreducible] def sp__law_whole : RSp := fun rs M Q => ∃ (x : RV) (b : Bool), rs = [x] ∧ wholeR x = some b ∧ Q (.bl b) M
set_option maxHeartbeats 4000000 in
theorem fn__law_whole {f : Addr} {fd : FuncData} (F : Fun K "_law_whole" "_law_whole" s__law_whole f fd) (T : Txt P w K mg)  : FnOk P w K mg base CX0 1 f fd ["found"] (upSp K sp__law_whole) := by
  refine' rfnok F sc__law_whole (fun rs M Q h => ?len) (fun cdv A outer s H E hr => ?term) (fun rs M Q h => ?body)
  case term =>
    refine' sone ?h1063
    case h1063 =>
     refine' sret ?h1062
     case h1062 =>
      refine' randv ?h1060 ?h1061
      case h1060 =>
       refine' rcallB cisi_int T.b_isinstance bt_isinstance ?h1059 (hg := gl__law_whole_isinstance) (hdb := db_isinstance) (hn := nn_isinstance)
       case h1059 =>
        refine' acons ?h1057 ?h1058
        case h1057 =>
         exact rvN 0 no__law_whole
        case h1058 =>
         refine' acons ?h1055 ?h1056
         case h1055 =>
          exact rty_int T.b_int gl__law_whole_int
         case h1056 =>
          exact anil
      case h1061 =>
       refine' rone ?h1054
       case h1054 =>
        refine' rnotv ?h1053
        case h1053 =>
         refine' rcallB cisi_bool T.b_isinstance bt_isinstance ?h1052 (hg := gl__law_whole_isinstance) (hdb := db_isinstance) (hn := nn_isinstance)
         case h1052 =>
          refine' acons ?h1050 ?h1051
          case h1050 =>
           exact rvN 0 no__law_whole
          case h1051 =>
           refine' acons ?h1048 ?h1049
           case h1048 =>
            exact rty_bool T.b_bool gl__law_whole_bool
           case h1049 =>
            exact anil
  case len =>
    unfold sp__law_whole at h; obtain ⟨x, b, rfl, _⟩ := h; rfl
  case body =>
    unfold sp__law_whole at h
    obtain ⟨x, b, rfl, e, h⟩ := h
    cases x <;> first | (cases e; done) | (cases e; simp only [R.rSeq, R.rIfS, R.rSet, R.rRet, R.rRetN, R.rTest, R.rOp, R.rVar, R.rC, R.rCons, R.rNil, R.rCall, R.rTup, R.rLsF, R.rLst, R.rIx, R.rAsg, R.rgSub, R.rgN, R.rgU, R.setAll, R.rInt0, R.rInt2, R.rAdd, R.rNext, R.rDrop, R.rIf, R.rAnd, R.rOr, R.rNot, R.rAndV, R.rOrV, R.rNotV, R.rChain, R.rUn, R.rgNeg, R.rSl, R.rPart, R.rNoP, R.rSlc, R.rForI, R.rItS, R.rItR, R.rRngI, R.rComp, R.rYes, R.rTuple, R.rLen, R.rIsi, R.rEqq, R.rNeq, R.rIs, R.rIsNot, R.rTab, R.rDispGet, R.rSetL, R.rMul, R.isN, R.keyR, R.rstart, R.is_int, R.is_bool, R.is_str, R.is_tuple, R.is_list, R.rGt, R.rMod, R.rDiv, R.rPow, R.rShr, R.rBand, R.rLt, R.rLe, R.rGe, R.rSub, List.map_cons, List.map_nil, List.set_cons_zero, List.set_cons_succ, List.length_cons, List.length_nil, List.replicate_succ, List.replicate_zero, List.cons_append, List.nil_append, List.getElem?_cons_zero, List.getElem?_cons_succ, Nat.reduceSub, Nat.reduceAdd, true_implies, Bool.false_eq_true, Bool.true_eq_false, reduceCtorEq, false_implies, and_true, true_and, Option.join_some, Nat.zero_add, decide_eq_true_eq, decide_eq_false_iff_not, List.append_nil, Bool.not_true, Bool.not_false]; exact h)
theorem whole_do {M : RM} {x : RV} {b : Bool} {Q : RVK} (e : wholeR x = some b) (h : Q (.bl b) M) : sp__law_whole [x] M Q := by
  unfold sp__law_whole; exact ⟨x, b, rfl, e, h⟩
@[irreducible] def sp__law_a_form : RSp := fun rs M Q => ∃ (b : Addr) (n : Int), rs = [.ref b] ∧ Bag M b n ∧ 0 ≤ n ∧ n ≤ 1000 ∧ ∀ (low high most t1 t2 t3 t4 : Int) (lend sieve pick : Str) (renew : Bool) (o : RO), Lend lend → BagO o (n + 40) → Q (.tup [.int low, .int high, .str lend, .str sieve, .str pick, .int most, .bl renew, .tup [.int t1, .int t2, .int t3, .int t4]]) (put M b o)
set_option maxHeartbeats 4000000 in
theorem fn__law_a_form {f : Addr} {fd : FuncData} (F : Fun K "_law_a_form" "_law_a_form" s__law_a_form f fd) (T : Txt P w K mg) (F__law_take : RFn P w K mg base 1 "_law_take" ["bag", "many"] sp__law_take) : FnOk P w K mg base CX0 2 f fd ["bag"] (upSp K sp__law_a_form) := by
  refine' rfnok F sc__law_a_form (fun rs M Q h => ?len) (fun cdv A outer s H E hr => ?term) (fun rs M Q h => ?body)
  case term =>
    refine' scons ?h1294 ?h1295
    case h1294 =>
     refine' ssetN 1 no__law_a_form ?h1293
     case h1293 =>
      refine' rix ?h1291 ?h1292
      case h1291 =>
       refine' rlsf ?h1285
       case h1285 =>
        refine' acons ?h1283 ?h1284
        case h1283 =>
         exact ri
        case h1284 =>
         refine' acons ?h1281 ?h1282
         case h1281 =>
          exact ri
         case h1282 =>
          refine' acons ?h1279 ?h1280
          case h1279 =>
           exact ri
          case h1280 =>
           refine' acons ?h1277 ?h1278
           case h1277 =>
            refine' rop oadd ?h1275 ?h1276
            case h1275 =>
             exact ri
            case h1276 =>
             refine' rcallF F__law_take (hr.mono (by decide)) ?h1274 (hg := gl__law_a_form__law_take) (hdb := db__law_take)
             case h1274 =>
              refine' acons ?h1272 ?h1273
              case h1272 =>
               exact rvN 0 no__law_a_form
              case h1273 =>
               refine' acons ?h1270 ?h1271
               case h1270 =>
                exact ri
               case h1271 =>
                exact anil
           case h1278 =>
            refine' acons ?h1268 ?h1269
            case h1268 =>
             exact ri
            case h1269 =>
             exact anil
      case h1292 =>
       refine' rcallF F__law_take (hr.mono (by decide)) ?h1290 (hg := gl__law_a_form__law_take) (hdb := db__law_take)
       case h1290 =>
        refine' acons ?h1288 ?h1289
        case h1288 =>
         exact rvN 0 no__law_a_form
        case h1289 =>
         refine' acons ?h1286 ?h1287
         case h1286 =>
          exact ri
         case h1287 =>
          exact anil
    case h1295 =>
     refine' scons ?h1266 ?h1267
     case h1266 =>
      refine' ssetN 2 no__law_a_form ?h1265
      case h1265 =>
       refine' rix ?h1263 ?h1264
       case h1263 =>
        refine' rlsf ?h1257
        case h1257 =>
         refine' acons ?h1255 ?h1256
         case h1255 =>
          exact ri
         case h1256 =>
          refine' acons ?h1253 ?h1254
          case h1253 =>
           refine' rop osub ?h1251 ?h1252
           case h1251 =>
            exact ri
           case h1252 =>
            exact rvN 1 no__law_a_form
          case h1254 =>
           refine' acons ?h1249 ?h1250
           case h1249 =>
            refine' rop oadd ?h1247 ?h1248
            case h1247 =>
             exact ri
            case h1248 =>
             refine' rcallF F__law_take (hr.mono (by decide)) ?h1246 (hg := gl__law_a_form__law_take) (hdb := db__law_take)
             case h1246 =>
              refine' acons ?h1244 ?h1245
              case h1244 =>
               exact rvN 0 no__law_a_form
              case h1245 =>
               refine' acons ?h1242 ?h1243
               case h1242 =>
                refine' rop osub ?h1240 ?h1241
                case h1240 =>
                 exact ri
                case h1241 =>
                 exact rvN 1 no__law_a_form
               case h1243 =>
                exact anil
           case h1250 =>
            exact anil
       case h1264 =>
        refine' rcallF F__law_take (hr.mono (by decide)) ?h1262 (hg := gl__law_a_form__law_take) (hdb := db__law_take)
        case h1262 =>
         refine' acons ?h1260 ?h1261
         case h1260 =>
          exact rvN 0 no__law_a_form
         case h1261 =>
          refine' acons ?h1258 ?h1259
          case h1258 =>
           exact ri
          case h1259 =>
           exact anil
     case h1267 =>
      refine' scons ?h1238 ?h1239
      case h1238 =>
       refine' ssetN 3 no__law_a_form ?h1237
       case h1237 =>
        refine' rix ?h1235 ?h1236
        case h1235 =>
         refine' rlsf ?h1229
         case h1229 =>
          refine' acons ?h1227 ?h1228
          case h1227 =>
           exact rs
          case h1228 =>
           refine' acons ?h1225 ?h1226
           case h1225 =>
            exact rs
           case h1226 =>
            refine' acons ?h1223 ?h1224
            case h1223 =>
             exact rs
            case h1224 =>
             exact anil
        case h1236 =>
         refine' rcallF F__law_take (hr.mono (by decide)) ?h1234 (hg := gl__law_a_form__law_take) (hdb := db__law_take)
         case h1234 =>
          refine' acons ?h1232 ?h1233
          case h1232 =>
           exact rvN 0 no__law_a_form
          case h1233 =>
           refine' acons ?h1230 ?h1231
           case h1230 =>
            exact ri
           case h1231 =>
            exact anil
      case h1239 =>
       refine' scons ?h1221 ?h1222
       case h1221 =>
        refine' ssetN 4 no__law_a_form ?h1220
        case h1220 =>
         refine' rix ?h1218 ?h1219
         case h1218 =>
          refine' rlsf ?h1212
          case h1212 =>
           refine' acons ?h1210 ?h1211
           case h1210 =>
            exact rs
           case h1211 =>
            refine' acons ?h1208 ?h1209
            case h1208 =>
             exact rs
            case h1209 =>
             refine' acons ?h1206 ?h1207
             case h1206 =>
              exact rs
             case h1207 =>
              exact anil
         case h1219 =>
          refine' rcallF F__law_take (hr.mono (by decide)) ?h1217 (hg := gl__law_a_form__law_take) (hdb := db__law_take)
          case h1217 =>
           refine' acons ?h1215 ?h1216
           case h1215 =>
            exact rvN 0 no__law_a_form
           case h1216 =>
            refine' acons ?h1213 ?h1214
            case h1213 =>
             exact ri
            case h1214 =>
             exact anil
       case h1222 =>
        refine' scons ?h1204 ?h1205
        case h1204 =>
         refine' ssetN 5 no__law_a_form ?h1203
         case h1203 =>
          refine' rix ?h1201 ?h1202
          case h1201 =>
           refine' rlsf ?h1195
           case h1195 =>
            refine' acons ?h1193 ?h1194
            case h1193 =>
             exact rs
            case h1194 =>
             refine' acons ?h1191 ?h1192
             case h1191 =>
              exact rs
             case h1192 =>
              exact anil
          case h1202 =>
           refine' rcallF F__law_take (hr.mono (by decide)) ?h1200 (hg := gl__law_a_form__law_take) (hdb := db__law_take)
           case h1200 =>
            refine' acons ?h1198 ?h1199
            case h1198 =>
             exact rvN 0 no__law_a_form
            case h1199 =>
             refine' acons ?h1196 ?h1197
             case h1196 =>
              exact ri
             case h1197 =>
              exact anil
        case h1205 =>
         refine' scons ?h1189 ?h1190
         case h1189 =>
          refine' ssetN 6 no__law_a_form ?h1188
          case h1188 =>
           refine' rix ?h1186 ?h1187
           case h1186 =>
            refine' rlsf ?h1180
            case h1180 =>
             refine' acons ?h1178 ?h1179
             case h1178 =>
              exact ri
             case h1179 =>
              refine' acons ?h1176 ?h1177
              case h1176 =>
               exact ri
              case h1177 =>
               refine' acons ?h1174 ?h1175
               case h1174 =>
                exact ri
               case h1175 =>
                refine' acons ?h1172 ?h1173
                case h1172 =>
                 refine' rop oadd ?h1170 ?h1171
                 case h1170 =>
                  exact ri
                 case h1171 =>
                  refine' rcallF F__law_take (hr.mono (by decide)) ?h1169 (hg := gl__law_a_form__law_take) (hdb := db__law_take)
                  case h1169 =>
                   refine' acons ?h1167 ?h1168
                   case h1167 =>
                    exact rvN 0 no__law_a_form
                   case h1168 =>
                    refine' acons ?h1165 ?h1166
                    case h1165 =>
                     exact ri
                    case h1166 =>
                     exact anil
                case h1173 =>
                 exact anil
           case h1187 =>
            refine' rcallF F__law_take (hr.mono (by decide)) ?h1185 (hg := gl__law_a_form__law_take) (hdb := db__law_take)
            case h1185 =>
             refine' acons ?h1183 ?h1184
             case h1183 =>
              exact rvN 0 no__law_a_form
             case h1184 =>
              refine' acons ?h1181 ?h1182
              case h1181 =>
               exact ri
              case h1182 =>
               exact anil
         case h1190 =>
          refine' scons ?h1163 ?h1164
          case h1163 =>
           refine' ssetN 7 no__law_a_form ?h1162
           case h1162 =>
            refine' rcmp (oeq hr.units) ?h1160 ?h1161
            case h1160 =>
             refine' rcallF F__law_take (hr.mono (by decide)) ?h1159 (hg := gl__law_a_form__law_take) (hdb := db__law_take)
             case h1159 =>
              refine' acons ?h1157 ?h1158
              case h1157 =>
               exact rvN 0 no__law_a_form
              case h1158 =>
               refine' acons ?h1155 ?h1156
               case h1155 =>
                exact ri
               case h1156 =>
                exact anil
            case h1161 =>
             exact ri
          case h1164 =>
           refine' scons ?h1153 ?h1154
           case h1153 =>
            refine' ssetN 8 no__law_a_form ?h1152
            case h1152 =>
             refine' rix ?h1150 ?h1151
             case h1150 =>
              refine' rlsf ?h1144
              case h1144 =>
               refine' acons ?h1142 ?h1143
               case h1142 =>
                exact ri
               case h1143 =>
                refine' acons ?h1140 ?h1141
                case h1140 =>
                 exact ri
                case h1141 =>
                 refine' acons ?h1138 ?h1139
                 case h1138 =>
                  exact ri
                 case h1139 =>
                  exact anil
             case h1151 =>
              refine' rcallF F__law_take (hr.mono (by decide)) ?h1149 (hg := gl__law_a_form__law_take) (hdb := db__law_take)
              case h1149 =>
               refine' acons ?h1147 ?h1148
               case h1147 =>
                exact rvN 0 no__law_a_form
               case h1148 =>
                refine' acons ?h1145 ?h1146
                case h1145 =>
                 exact ri
                case h1146 =>
                 exact anil
           case h1154 =>
            refine' scons ?h1136 ?h1137
            case h1136 =>
             refine' ssetN 9 no__law_a_form ?h1135
             case h1135 =>
              refine' rcallT ctuple T.b_tuple bt_tuple ?h1134 (hg := gl__law_a_form_tuple) (hdb := db_tuple) (hn := nn_tuple)
              case h1134 =>
               refine' acons ?h1132 ?h1133
               case h1132 =>
                refine' rcompN [(0, "bag"), (8, "far")] (osc := defScope s__law_a_form) (oN := N__law_a_form) rfl ?h1129 (fun cl C s H fp vb => ?h1130) (fun cl C s H fp vb => ?h1131) rfl rfl (by decide +kernel) (by decide +kernel) (by decide +kernel) rfl (by decide +kernel) (by decide +kernel) (by decide +kernel) (by decide +kernel)
                case h1129 =>
                 refine' irange T.b_range ?h1121 (hgl := gl__law_a_form_range)
                 case h1121 =>
                  exact ri
                case h1130 =>
                 exact tnil
                case h1131 =>
                 refine' rop oadd ?h1127 ?h1128
                 case h1127 =>
                  exact ri
                 case h1128 =>
                  refine' rcallF F__law_take (hr.mono (by decide)) ?h1126 (hg := (glB (by decide +kernel))) (hdb := db__law_take)
                  case h1126 =>
                   refine' acons ?h1124 ?h1125
                   case h1124 =>
                    exact rvB 1 vb
                   case h1125 =>
                    refine' acons ?h1122 ?h1123
                    case h1122 =>
                     exact rvB 2 vb
                    case h1123 =>
                     exact anil
               case h1133 =>
                exact anil
            case h1137 =>
             refine' scons ?h1119 ?h1120
             case h1119 =>
              refine' ssetN 10 no__law_a_form ?h1118
              case h1118 =>
               refine' rix ?h1116 ?h1117
               case h1116 =>
                refine' rlsf ?h1110
                case h1110 =>
                 refine' acons ?h1108 ?h1109
                 case h1108 =>
                  exact ri
                 case h1109 =>
                  refine' acons ?h1106 ?h1107
                  case h1106 =>
                   refine' rcallF F__law_take (hr.mono (by decide)) ?h1105 (hg := gl__law_a_form__law_take) (hdb := db__law_take)
                   case h1105 =>
                    refine' acons ?h1103 ?h1104
                    case h1103 =>
                     exact rvN 0 no__law_a_form
                    case h1104 =>
                     refine' acons ?h1101 ?h1102
                     case h1101 =>
                      exact ri
                     case h1102 =>
                      exact anil
                  case h1107 =>
                   refine' acons ?h1099 ?h1100
                   case h1099 =>
                    refine' rcallF F__law_take (hr.mono (by decide)) ?h1098 (hg := gl__law_a_form__law_take) (hdb := db__law_take)
                    case h1098 =>
                     refine' acons ?h1096 ?h1097
                     case h1096 =>
                      exact rvN 0 no__law_a_form
                     case h1097 =>
                      refine' acons ?h1094 ?h1095
                      case h1094 =>
                       exact ri
                      case h1095 =>
                       exact anil
                   case h1100 =>
                    refine' acons ?h1092 ?h1093
                    case h1092 =>
                     exact ri
                    case h1093 =>
                     exact anil
               case h1117 =>
                refine' rcallF F__law_take (hr.mono (by decide)) ?h1115 (hg := gl__law_a_form__law_take) (hdb := db__law_take)
                case h1115 =>
                 refine' acons ?h1113 ?h1114
                 case h1113 =>
                  exact rvN 0 no__law_a_form
                 case h1114 =>
                  refine' acons ?h1111 ?h1112
                  case h1111 =>
                   exact ri
                  case h1112 =>
                   exact anil
             case h1120 =>
              refine' sone ?h1091
              case h1091 =>
               refine' sret ?h1090
               case h1090 =>
                refine' rtup ?h1089
                case h1089 =>
                 refine' acons ?h1087 ?h1088
                 case h1087 =>
                  exact rvN 2 no__law_a_form
                 case h1088 =>
                  refine' acons ?h1085 ?h1086
                  case h1085 =>
                   refine' rop osub ?h1083 ?h1084
                   case h1083 =>
                    refine' rop oadd ?h1081 ?h1082
                    case h1081 =>
                     exact rvN 2 no__law_a_form
                    case h1082 =>
                     exact rvN 1 no__law_a_form
                   case h1084 =>
                    exact ri
                  case h1086 =>
                   refine' acons ?h1079 ?h1080
                   case h1079 =>
                    exact rvN 3 no__law_a_form
                   case h1080 =>
                    refine' acons ?h1077 ?h1078
                    case h1077 =>
                     exact rvN 4 no__law_a_form
                    case h1078 =>
                     refine' acons ?h1075 ?h1076
                     case h1075 =>
                      exact rvN 5 no__law_a_form
                     case h1076 =>
                      refine' acons ?h1073 ?h1074
                      case h1073 =>
                       exact rvN 6 no__law_a_form
                      case h1074 =>
                       refine' acons ?h1071 ?h1072
                       case h1071 =>
                        exact rvN 7 no__law_a_form
                       case h1072 =>
                        refine' acons ?h1069 ?h1070
                        case h1069 =>
                         refine' rop oadd ?h1067 ?h1068
                         case h1067 =>
                          exact rvN 9 no__law_a_form
                         case h1068 =>
                          refine' rtup ?h1066
                          case h1066 =>
                           refine' acons ?h1064 ?h1065
                           case h1064 =>
                            exact rvN 10 no__law_a_form
                           case h1065 =>
                            exact anil
                        case h1070 =>
                         exact anil
  case len =>
    unfold sp__law_a_form at h; obtain ⟨b, n, rfl, _⟩ := h; rfl
  case body =>
    unfold sp__law_a_form at h
    obtain ⟨b, n, rfl, hB, n0, n1, h⟩ := h
    refine take_do hB (by decide) (by decide) (by omega) fun r1 o1 ra1 rb1 ho1 => ⟨szl, take_do (Bag.put ho1) (by decide) (by decide) (by omega) fun r2 o2 ra2 rb2 ho2 => at_ints 1 200 ra2 fun many mm0 mm1 => ?_⟩
    refine take_do (Bag.put ho2) (by omega) (by omega) (by omega) fun r3 o3 ra3 rb3 ho3 => ⟨szl, take_do (Bag.put ho3) (by decide) (by decide) (by omega) fun r4 o4 ra4 rb4 ho4 => at_ints 1 10000 ra4 fun low _ _ => ?_⟩
    refine ⟨szl, take_do (Bag.put ho4) (by decide) (by decide) (by omega) fun r5 o5 ra5 rb5 ho5 => at_strs Lend ra5 ⟨.inl rfl, .inr (.inl rfl), .inr (.inr rfl), trivial⟩ fun lend hl => ?_⟩
    refine ⟨szl, take_do (Bag.put ho5) (by decide) (by decide) (by omega) fun r6 o6 ra6 rb6 ho6 => at_strs (fun _ => True) ra6 ⟨trivial, trivial, trivial, trivial⟩ fun sieve _ => ?_⟩
    refine ⟨szl, take_do (Bag.put ho6) (by decide) (by decide) (by omega) fun r7 o7 ra7 rb7 ho7 => at_strs (fun _ => True) ra7 ⟨trivial, trivial, trivial⟩ fun pick _ => ?_⟩
    refine take_do (Bag.put ho7) (by decide) (by decide) (by omega) fun r8 o8 ra8 rb8 ho8 => ⟨szl, take_do (Bag.put ho8) (by decide) (by decide) (by omega) fun r9 o9 ra9 rb9 ho9 => at_ints 1 200 ra9 fun most _ _ => ?_⟩
    refine take_do (Bag.put ho9) (by decide) (by decide) (by omega) fun r10 o10 ra10 rb10 ho10 => ⟨rfl, rfl, ?_⟩
    refine ⟨szl, take_do (Bag.put ho10) (by decide) (by decide) (by omega) fun r11 o11 ra11 rb11 ho11 => at_ints 4 1000000 ra11 fun far f0 f1 => ?_⟩
    refine ⟨by decide, by decide, by decide, ⟨fun _ => take_do (Bag.put ho11) (by omega) (by omega) (by omega) fun r12 o12 ra12 rb12 ho12 => ⟨fun _ => take_do (Bag.put ho12) (by omega) (by omega) (by omega) fun r13 o13 ra13 rb13 ho13 => ⟨fun _ => take_do (Bag.put ho13) (by omega) (by omega) (by omega) fun r14 o14 ra14 rb14 ho14 => ?_, fun z => (by cases z)⟩, fun z => (by cases z)⟩, fun z => (by cases z)⟩⟩
    refine take_do (Bag.put ho14) (by decide) (by decide) (by omega) fun r15 o15 ra15 rb15 ho15 => take_do (Bag.put ho15) (by decide) (by decide) (by omega) fun r16 o16 ra16 rb16 ho16 => ⟨szl, take_do (Bag.put ho16) (by decide) (by decide) (by omega) fun r17 o17 ra17 rb17 ho17 => at_ints 0 1000000 ra17 fun rest _ _ => ?_⟩
    refine ⟨szl, szl, szl, ?_⟩
    have := h low (low + many - 1) most (1 + r12) (1 + r13) (1 + r14) rest lend sieve pick (eqR (.int r10) (.int 1)) o17 hl (ho17.mono (by omega))
    simpa only [R.put_put, List.nil_append, List.cons_append] using this
theorem form_do {M : RM} {b : Addr} {n : Int} {Q : RVK} (hB : Bag M b n) (n0 : 0 ≤ n) (n1 : n ≤ 1000) (h : ∀ (low high most t1 t2 t3 t4 : Int) (lend sieve pick : Str) (renew : Bool) (o : RO), Lend lend → BagO o (n + 40) → Q (.tup [.int low, .int high, .str lend, .str sieve, .str pick, .int most, .bl renew, .tup [.int t1, .int t2, .int t3, .int t4]]) (put M b o)) : sp__law_a_form [.ref b] M Q := by
  unfold sp__law_a_form; exact ⟨b, n, rfl, hB, n0, n1, h⟩
@[irreducible] def sp__law_any_inner : RSp := fun rs M Q => ∃ (b : Addr) (n : Int), rs = [.ref b] ∧ Bag M b n ∧ 0 ≤ n ∧ n ≤ 1000 ∧ ∀ (house door place far : Int) (kind : Str) (o : RO), BagO o (n + 20) → Q (.tup [.str kind, .int house, .int door, .int place, .int far]) (put M b o)
set_option maxHeartbeats 4000000 in
theorem fn__law_any_inner {f : Addr} {fd : FuncData} (F : Fun K "_law_any_inner" "_law_any_inner" s__law_any_inner f fd) (T : Txt P w K mg) (F__law_take : RFn P w K mg base 1 "_law_take" ["bag", "many"] sp__law_take) : FnOk P w K mg base CX0 2 f fd ["bag"] (upSp K sp__law_any_inner) := by
  refine' rfnok F sc__law_any_inner (fun rs M Q h => ?len) (fun cdv A outer s H E hr => ?term) (fun rs M Q h => ?body)
  case term =>
    refine' scons ?h1411 ?h1412
    case h1411 =>
     refine' ssetN 1 no__law_any_inner ?h1410
     case h1410 =>
      refine' rix ?h1408 ?h1409
      case h1408 =>
       refine' rlsf ?h1402
       case h1402 =>
        refine' acons ?h1400 ?h1401
        case h1400 =>
         exact rs
        case h1401 =>
         refine' acons ?h1398 ?h1399
         case h1398 =>
          exact rs
         case h1399 =>
          exact anil
      case h1409 =>
       refine' rcallF F__law_take (hr.mono (by decide)) ?h1407 (hg := gl__law_any_inner__law_take) (hdb := db__law_take)
       case h1407 =>
        refine' acons ?h1405 ?h1406
        case h1405 =>
         exact rvN 0 no__law_any_inner
        case h1406 =>
         refine' acons ?h1403 ?h1404
         case h1403 =>
          exact ri
         case h1404 =>
          exact anil
    case h1412 =>
     refine' scons ?h1396 ?h1397
     case h1396 =>
      refine' ssetN 2 no__law_any_inner ?h1395
      case h1395 =>
       refine' rix ?h1393 ?h1394
       case h1393 =>
        refine' rlsf ?h1387
        case h1387 =>
         refine' acons ?h1385 ?h1386
         case h1385 =>
          exact ri
         case h1386 =>
          refine' acons ?h1383 ?h1384
          case h1383 =>
           exact ri
          case h1384 =>
           refine' acons ?h1381 ?h1382
           case h1381 =>
            refine' rcallF F__law_take (hr.mono (by decide)) ?h1380 (hg := gl__law_any_inner__law_take) (hdb := db__law_take)
            case h1380 =>
             refine' acons ?h1378 ?h1379
             case h1378 =>
              exact rvN 0 no__law_any_inner
             case h1379 =>
              refine' acons ?h1376 ?h1377
              case h1376 =>
               exact ri
              case h1377 =>
               exact anil
           case h1382 =>
            exact anil
       case h1394 =>
        refine' rcallF F__law_take (hr.mono (by decide)) ?h1392 (hg := gl__law_any_inner__law_take) (hdb := db__law_take)
        case h1392 =>
         refine' acons ?h1390 ?h1391
         case h1390 =>
          exact rvN 0 no__law_any_inner
         case h1391 =>
          refine' acons ?h1388 ?h1389
          case h1388 =>
           exact ri
          case h1389 =>
           exact anil
     case h1397 =>
      refine' scons ?h1374 ?h1375
      case h1374 =>
       refine' ssetN 3 no__law_any_inner ?h1373
       case h1373 =>
        refine' rix ?h1371 ?h1372
        case h1371 =>
         refine' rlsf ?h1365
         case h1365 =>
          refine' acons ?h1363 ?h1364
          case h1363 =>
           exact ri
          case h1364 =>
           refine' acons ?h1361 ?h1362
           case h1361 =>
            exact ri
           case h1362 =>
            refine' acons ?h1359 ?h1360
            case h1359 =>
             refine' rop oadd ?h1357 ?h1358
             case h1357 =>
              exact ri
             case h1358 =>
              refine' rcallF F__law_take (hr.mono (by decide)) ?h1356 (hg := gl__law_any_inner__law_take) (hdb := db__law_take)
              case h1356 =>
               refine' acons ?h1354 ?h1355
               case h1354 =>
                exact rvN 0 no__law_any_inner
               case h1355 =>
                refine' acons ?h1352 ?h1353
                case h1352 =>
                 exact ri
                case h1353 =>
                 exact anil
            case h1360 =>
             exact anil
        case h1372 =>
         refine' rcallF F__law_take (hr.mono (by decide)) ?h1370 (hg := gl__law_any_inner__law_take) (hdb := db__law_take)
         case h1370 =>
          refine' acons ?h1368 ?h1369
          case h1368 =>
           exact rvN 0 no__law_any_inner
          case h1369 =>
           refine' acons ?h1366 ?h1367
           case h1366 =>
            exact ri
           case h1367 =>
            exact anil
      case h1375 =>
       refine' scons ?h1350 ?h1351
       case h1350 =>
        refine' ssetN 4 no__law_any_inner ?h1349
        case h1349 =>
         refine' rix ?h1347 ?h1348
         case h1347 =>
          refine' rlsf ?h1341
          case h1341 =>
           refine' acons ?h1339 ?h1340
           case h1339 =>
            exact ri
           case h1340 =>
            refine' acons ?h1337 ?h1338
            case h1337 =>
             exact ri
            case h1338 =>
             refine' acons ?h1335 ?h1336
             case h1335 =>
              refine' rcallF F__law_take (hr.mono (by decide)) ?h1334 (hg := gl__law_any_inner__law_take) (hdb := db__law_take)
              case h1334 =>
               refine' acons ?h1332 ?h1333
               case h1332 =>
                exact rvN 0 no__law_any_inner
               case h1333 =>
                refine' acons ?h1330 ?h1331
                case h1330 =>
                 exact ri
                case h1331 =>
                 exact anil
             case h1336 =>
              exact anil
         case h1348 =>
          refine' rcallF F__law_take (hr.mono (by decide)) ?h1346 (hg := gl__law_any_inner__law_take) (hdb := db__law_take)
          case h1346 =>
           refine' acons ?h1344 ?h1345
           case h1344 =>
            exact rvN 0 no__law_any_inner
           case h1345 =>
            refine' acons ?h1342 ?h1343
            case h1342 =>
             exact ri
            case h1343 =>
             exact anil
       case h1351 =>
        refine' sone ?h1329
        case h1329 =>
         refine' sret ?h1328
         case h1328 =>
          refine' rtup ?h1327
          case h1327 =>
           refine' acons ?h1325 ?h1326
           case h1325 =>
            exact rvN 1 no__law_any_inner
           case h1326 =>
            refine' acons ?h1323 ?h1324
            case h1323 =>
             exact rvN 2 no__law_any_inner
            case h1324 =>
             refine' acons ?h1321 ?h1322
             case h1321 =>
              exact rvN 3 no__law_any_inner
             case h1322 =>
              refine' acons ?h1319 ?h1320
              case h1319 =>
               exact rvN 4 no__law_any_inner
              case h1320 =>
               refine' acons ?h1317 ?h1318
               case h1317 =>
                refine' rix ?h1315 ?h1316
                case h1315 =>
                 refine' rlsf ?h1309
                 case h1309 =>
                  refine' acons ?h1307 ?h1308
                  case h1307 =>
                   exact ri
                  case h1308 =>
                   refine' acons ?h1305 ?h1306
                   case h1305 =>
                    exact ri
                   case h1306 =>
                    refine' acons ?h1303 ?h1304
                    case h1303 =>
                     refine' rop oadd ?h1301 ?h1302
                     case h1301 =>
                      exact ri
                     case h1302 =>
                      refine' rcallF F__law_take (hr.mono (by decide)) ?h1300 (hg := gl__law_any_inner__law_take) (hdb := db__law_take)
                      case h1300 =>
                       refine' acons ?h1298 ?h1299
                       case h1298 =>
                        exact rvN 0 no__law_any_inner
                       case h1299 =>
                        refine' acons ?h1296 ?h1297
                        case h1296 =>
                         exact ri
                        case h1297 =>
                         exact anil
                    case h1304 =>
                     exact anil
                case h1316 =>
                 refine' rcallF F__law_take (hr.mono (by decide)) ?h1314 (hg := gl__law_any_inner__law_take) (hdb := db__law_take)
                 case h1314 =>
                  refine' acons ?h1312 ?h1313
                  case h1312 =>
                   exact rvN 0 no__law_any_inner
                  case h1313 =>
                   refine' acons ?h1310 ?h1311
                   case h1310 =>
                    exact ri
                   case h1311 =>
                    exact anil
               case h1318 =>
                exact anil
  case len =>
    unfold sp__law_any_inner at h; obtain ⟨b, n, rfl, _⟩ := h; rfl
  case body =>
    unfold sp__law_any_inner at h
    obtain ⟨b, n, rfl, hB, n0, n1, h⟩ := h
    refine ⟨szl, take_do hB (by decide) (by decide) (by omega) fun r1 o1 ra1 rb1 ho1 => at_strs (fun _ => True) ra1 ⟨trivial, trivial, trivial⟩ fun kind _ => ?_⟩
    refine take_do (Bag.put ho1) (by decide) (by decide) (by omega) fun r2 o2 ra2 rb2 ho2 => ⟨szl, take_do (Bag.put ho2) (by decide) (by decide) (by omega) fun r3 o3 ra3 rb3 ho3 => at_ints 0 100 ra3 fun house _ _ => ?_⟩
    refine take_do (Bag.put ho3) (by decide) (by decide) (by omega) fun r4 o4 ra4 rb4 ho4 => ⟨szl, take_do (Bag.put ho4) (by decide) (by decide) (by omega) fun r5 o5 ra5 rb5 ho5 => at_ints 1 9999 ra5 fun door _ _ => ?_⟩
    refine take_do (Bag.put ho5) (by decide) (by decide) (by omega) fun r6 o6 ra6 rb6 ho6 => ⟨szl, take_do (Bag.put ho6) (by decide) (by decide) (by omega) fun r7 o7 ra7 rb7 ho7 => at_ints 0 1000000 ra7 fun place _ _ => ?_⟩
    refine take_do (Bag.put ho7) (by decide) (by decide) (by omega) fun r8 o8 ra8 rb8 ho8 => ⟨szl, take_do (Bag.put ho8) (by decide) (by decide) (by omega) fun r9 o9 ra9 rb9 ho9 => at_ints 1 9999 ra9 fun far _ _ => ⟨szl, ?_⟩⟩
    have := h house door place far kind o9 (ho9.mono (by omega))
    simpa only [R.put_put] using this
theorem inner_do {M : RM} {b : Addr} {n : Int} {Q : RVK} (hB : Bag M b n) (n0 : 0 ≤ n) (n1 : n ≤ 1000) (h : ∀ (house door place far : Int) (kind : Str) (o : RO), BagO o (n + 20) → Q (.tup [.str kind, .int house, .int door, .int place, .int far]) (put M b o)) : sp__law_any_inner [.ref b] M Q := by
  unfold sp__law_any_inner; exact ⟨b, n, rfl, hB, n0, n1, h⟩
end
end K04

set_option Elab.async false
set_option linter.all false
set_option maxRecDepth 100000
namespace K04
open PySem PySem.Spec PyProof.Rows L2 R
section
variable {P : Program} {w : World} {K : PySem.W.Frag} {mg : Str → Option Value} {base : Heap}
@[irreducible] def sp_law : RSp := fun rs M Q => ∃ ns : List Int, rs = [.ls (ns.map RV.int)] ∧ ns.length ≤ 63 ∧ ∀ M', Q (.bl true) M'
set_option maxHeartbeats 40000000 in
def pk_law (T : Txt P w K mg) (F_holder_of : RFn P w K mg base 1 "holder_of" ["form", "inner"] sp_holder_of) (F_time_of : RFn P w K mg base 1 "time_of" ["form", "state"] sp_time_of) (F__law_cell : RFn P w K mg base 1 "_law_cell" ["script", "k"] sp__law_cell) (F__law_well : RFn P w K mg base 1 "_law_well" ["cell", "turn"] sp__law_well) (F__law_take : RFn P w K mg base 1 "_law_take" ["bag", "many"] sp__law_take) (F__law_whole : RFn P w K mg base 1 "_law_whole" ["found"] sp__law_whole) (F__law_a_form : RFn P w K mg base 2 "_law_a_form" ["bag"] sp__law_a_form) (F__law_any_inner : RFn P w K mg base 2 "_law_any_inner" ["bag"] sp__law_any_inner) : {t : RTS // ∀ (f : Addr) (cdv : Value) (A : Around) (outer : List Env) (s : Shared) (H : Hp) (E : XK), Room 2 (A.deeper (envOfC "law" (defScope s_law) s.heap.objs.size f cdv)) → RPSs (cxOf CX0 P w K mg base N_law "law" (defScope s_law) f cdv A outer s H E).nox (defBody s_law) t} := by
  refine' ⟨?t, fun f cdv A outer s H E hr => ?term⟩
  case term =>
    refine' scons ?h1677 ?h1678
    case h1677 =>
     refine' sfor PassesOwn.never rfl ?h1674 ?h1675 ?h1676
     case h1674 =>
      refine' iseq ?h1430
      case h1430 =>
       refine' rop oadd ?h1428 ?h1429
       case h1428 =>
        refine' rlsf ?h1422
        case h1422 =>
         refine' acons ?h1420 ?h1421
         case h1420 =>
          refine' rcallF F__law_cell (hr.mono (by decide)) ?h1419 (hg := gl_law__law_cell) (hdb := db__law_cell)
          case h1419 =>
           refine' acons ?h1417 ?h1418
           case h1417 =>
            exact rvN 0 no_law
           case h1418 =>
            refine' acons ?h1415 ?h1416
            case h1415 =>
             exact ri
            case h1416 =>
             exact anil
         case h1421 =>
          exact anil
       case h1429 =>
        refine' rsl ?h1425 ?h1426 ?h1427
        case h1425 =>
         exact rvN 0 no_law
        case h1426 =>
         refine' psome ?h1423
         case h1423 =>
          exact ri
        case h1427 =>
         refine' psome ?h1424
         case h1424 =>
          exact ri
     case h1675 =>
      exact gnameN 1 no_law
     case h1676 =>
      refine' scons ?h1672 ?h1673
      case h1672 =>
       refine' ssetN 2 no_law ?h1671
       case h1671 =>
        refine' rcallF F__law_well (hr.mono (by decide)) ?h1670 (hg := gl_law__law_well) (hdb := db__law_well)
        case h1670 =>
         refine' acons ?h1668 ?h1669
         case h1668 =>
          exact rvN 1 no_law
         case h1669 =>
          refine' acons ?h1666 ?h1667
          case h1666 =>
           exact ri
          case h1667 =>
           exact anil
      case h1673 =>
       refine' scons ?h1664 ?h1665
       case h1664 =>
        refine' ssetN 3 no_law ?h1663
        case h1663 =>
         refine' rcallF F__law_a_form (hr.mono (by decide)) ?h1662 (hg := gl_law__law_a_form) (hdb := db__law_a_form)
         case h1662 =>
          refine' acons ?h1660 ?h1661
          case h1660 =>
           exact rvN 2 no_law
          case h1661 =>
           exact anil
       case h1665 =>
        refine' scons ?h1658 ?h1659
        case h1658 =>
         refine' ssetN 4 no_law ?h1657
         case h1657 =>
          refine' rcallF F__law_any_inner (hr.mono (by decide)) ?h1656 (hg := gl_law__law_any_inner) (hdb := db__law_any_inner)
          case h1656 =>
           refine' acons ?h1654 ?h1655
           case h1654 =>
            exact rvN 2 no_law
           case h1655 =>
            exact anil
        case h1659 =>
         refine' scons ?h1652 ?h1653
         case h1652 =>
          refine' ssetN 5 no_law ?h1651
          case h1651 =>
           refine' rcallF F__law_any_inner (hr.mono (by decide)) ?h1650 (hg := gl_law__law_any_inner) (hdb := db__law_any_inner)
           case h1650 =>
            refine' acons ?h1648 ?h1649
            case h1648 =>
             exact rvN 2 no_law
            case h1649 =>
             exact anil
         case h1653 =>
          refine' scons ?h1646 ?h1647
          case h1646 =>
           refine' ssetN 6 no_law ?h1645
           case h1645 =>
            refine' rcallF F__law_take (hr.mono (by decide)) ?h1644 (hg := gl_law__law_take) (hdb := db__law_take)
            case h1644 =>
             refine' acons ?h1642 ?h1643
             case h1642 =>
              exact rvN 2 no_law
             case h1643 =>
              refine' acons ?h1640 ?h1641
              case h1640 =>
               exact ri
              case h1641 =>
               exact anil
          case h1647 =>
           refine' scons ?h1638 ?h1639
           case h1638 =>
            refine' sif ?h1635 ?h1636 ?h1637
            case h1635 =>
             refine' rtcmp ogt ?h1609 ?h1610
             case h1609 =>
              refine' rcallF F__law_take (hr.mono (by decide)) ?h1608 (hg := gl_law__law_take) (hdb := db__law_take)
              case h1608 =>
               refine' acons ?h1606 ?h1607
               case h1606 =>
                exact rvN 2 no_law
               case h1607 =>
                refine' acons ?h1604 ?h1605
                case h1604 =>
                 exact ri
                case h1605 =>
                 exact anil
             case h1610 =>
              exact ri
            case h1636 =>
             refine' sone ?h1634
             case h1634 =>
              refine' ssetN 6 no_law ?h1633
              case h1633 =>
               refine' rix ?h1631 ?h1632
               case h1631 =>
                refine' rlsf ?h1625
                case h1625 =>
                 refine' acons ?h1623 ?h1624
                 case h1623 =>
                  exact ri
                 case h1624 =>
                  refine' acons ?h1621 ?h1622
                  case h1621 =>
                   exact ri
                  case h1622 =>
                   refine' acons ?h1619 ?h1620
                   case h1619 =>
                    exact ri
                   case h1620 =>
                    refine' acons ?h1617 ?h1618
                    case h1617 =>
                     exact ri
                    case h1618 =>
                     refine' acons ?h1615 ?h1616
                     case h1615 =>
                      exact ri
                     case h1616 =>
                      refine' acons ?h1613 ?h1614
                      case h1613 =>
                       exact ri
                      case h1614 =>
                       refine' acons ?h1611 ?h1612
                       case h1611 =>
                        exact ri
                       case h1612 =>
                        exact anil
               case h1632 =>
                refine' rcallF F__law_take (hr.mono (by decide)) ?h1630 (hg := gl_law__law_take) (hdb := db__law_take)
                case h1630 =>
                 refine' acons ?h1628 ?h1629
                 case h1628 =>
                  exact rvN 2 no_law
                 case h1629 =>
                  refine' acons ?h1626 ?h1627
                  case h1626 =>
                   exact ri
                  case h1627 =>
                   exact anil
            case h1637 =>
             exact snil
           case h1639 =>
            refine' scons ?h1602 ?h1603
            case h1602 =>
             refine' ssetN 5 no_law ?h1601
             case h1601 =>
              refine' rcallT ctuple T.b_tuple bt_tuple ?h1600 (hg := gl_law_tuple) (hdb := db_tuple) (hn := nn_tuple)
              case h1600 =>
               refine' acons ?h1598 ?h1599
               case h1598 =>
                refine' rcompN [(5, "other"), (4, "inner"), (6, "mask")] (osc := defScope s_law) (oN := N_law) rfl ?h1595 (fun cl C s H fp vb => ?h1596) (fun cl C s H fp vb => ?h1597) rfl rfl (by decide +kernel) (by decide +kernel) (by decide +kernel) rfl (by decide +kernel) (by decide +kernel) (by decide +kernel) (by decide +kernel)
                case h1595 =>
                 refine' irange T.b_range ?h1581 (hgl := gl_law_range)
                 case h1581 =>
                  exact ri
                case h1596 =>
                 exact tnil
                case h1597 =>
                 refine' rif ?h1592 ?h1593 ?h1594
                 case h1592 =>
                  refine' rtcmp (oeq hr.units) ?h1586 ?h1587
                  case h1586 =>
                   refine' rop oband ?h1584 ?h1585
                   case h1584 =>
                    refine' rop oshr ?h1582 ?h1583
                    case h1582 =>
                     exact rvB 3 vb
                    case h1583 =>
                     exact rvB 0 vb
                   case h1585 =>
                    exact ri
                  case h1587 =>
                   exact ri
                 case h1593 =>
                  refine' rix ?h1588 ?h1589
                  case h1588 =>
                   exact rvB 1 vb
                  case h1589 =>
                   exact rvB 0 vb
                 case h1594 =>
                  refine' rix ?h1590 ?h1591
                  case h1590 =>
                   exact rvB 2 vb
                  case h1591 =>
                   exact rvB 0 vb
               case h1599 =>
                exact anil
            case h1603 =>
             refine' scons ?h1579 ?h1580
             case h1579 =>
              refine' ssetN 7 no_law ?h1578
              case h1578 =>
               refine' rdispI [("door", 3), ("place", 4), ("talk", 5)] (hu_of hr) ?h1576 ?h1577 (by decide +kernel)
               case h1576 =>
                exact (pps_cons pe_str pe_int (pps_cons pe_str pe_int (pps_cons pe_str pe_int pps_nil)))
               case h1577 =>
                refine' rix ?h1574 ?h1575
                case h1574 =>
                 exact rvN 3 no_law
                case h1575 =>
                 exact ri
             case h1580 =>
              refine' scons ?h1572 ?h1573
              case h1572 =>
               refine' sfor PassesOwn.never rfl ?h1569 ?h1570 ?h1571
               case h1569 =>
                refine' iseq ?h1522
                case h1522 =>
                 refine' rlsf ?h1521
                 case h1521 =>
                  refine' acons ?h1519 ?h1520
                  case h1519 =>
                   exact rvN 4 no_law
                  case h1520 =>
                   refine' acons ?h1517 ?h1518
                   case h1517 =>
                    exact rvN 5 no_law
                   case h1518 =>
                    exact anil
               case h1570 =>
                exact gnameN 8 no_law
               case h1571 =>
                refine' scons ?h1567 ?h1568
                case h1567 =>
                 refine' ssetN 11 no_law ?h1566
                 case h1566 =>
                  refine' rop oadd ?h1564 ?h1565
                  case h1564 =>
                   refine' rsl ?h1551 ?h1552 ?h1553
                   case h1551 =>
                    exact rvN 8 no_law
                   case h1552 =>
                    exact pnone
                   case h1553 =>
                    refine' psome ?h1550
                    case h1550 =>
                     exact rvN 7 no_law
                  case h1565 =>
                   refine' rcallT ctuple T.b_tuple bt_tuple ?h1563 (hg := gl_law_tuple) (hdb := db_tuple) (hn := nn_tuple)
                   case h1563 =>
                    refine' acons ?h1561 ?h1562
                    case h1561 =>
                     refine' rop omul ?h1559 ?h1560
                     case h1559 =>
                      refine' rlst ?h1556
                      case h1556 =>
                       refine' acons ?h1554 ?h1555
                       case h1554 =>
                        exact rn
                       case h1555 =>
                        exact anil
                     case h1560 =>
                      refine' rop osub ?h1557 ?h1558
                      case h1557 =>
                       exact ri
                      case h1558 =>
                       exact rvN 7 no_law
                    case h1562 =>
                     exact anil
                case h1568 =>
                 refine' scons ?h1548 ?h1549
                 case h1548 =>
                  refine' ssetN 12 no_law ?h1547
                  case h1547 =>
                   refine' rcallF F_holder_of (hr.mono (by decide)) ?h1546 (hg := gl_law_holder_of) (hdb := db_holder_of)
                   case h1546 =>
                    refine' acons ?h1544 ?h1545
                    case h1544 =>
                     exact rvN 3 no_law
                    case h1545 =>
                     refine' acons ?h1542 ?h1543
                     case h1542 =>
                      exact rvN 8 no_law
                     case h1543 =>
                      exact anil
                 case h1549 =>
                  refine' sone ?h1541
                  case h1541 =>
                   refine' sif ?h1538 ?h1539 ?h1540
                   case h1538 =>
                    refine' rtw ?h1535
                    case h1535 =>
                     refine' ror ?h1533 ?h1534
                     case h1533 =>
                      refine' rtnot ?h1532
                      case h1532 =>
                       refine' rtval ?h1531
                       case h1531 =>
                        refine' rcallB cisi_tuple T.b_isinstance bt_isinstance ?h1530 (hg := gl_law_isinstance) (hdb := db_isinstance) (hn := nn_isinstance)
                        case h1530 =>
                         refine' acons ?h1528 ?h1529
                         case h1528 =>
                          exact rvN 12 no_law
                         case h1529 =>
                          refine' acons ?h1526 ?h1527
                          case h1526 =>
                           exact rty_tuple T.b_tuple gl_law_tuple
                          case h1527 =>
                           exact anil
                     case h1534 =>
                      refine' ror1 ?h1525
                      case h1525 =>
                       refine' rtcmp (one hr.units) ?h1523 ?h1524
                       case h1523 =>
                        exact rvN 12 no_law
                       case h1524 =>
                        exact rvN 11 no_law
                   case h1539 =>
                    refine' sone ?h1537
                    case h1537 =>
                     refine' sret ?h1536
                     case h1536 =>
                      exact rb
                   case h1540 =>
                    exact snil
              case h1573 =>
               refine' scons ?h1515 ?h1516
               case h1515 =>
                refine' ssetN 9 no_law ?h1514
                case h1514 =>
                 refine' rcmp (oeq hr.units) ?h1512 ?h1513
                 case h1512 =>
                  refine' rsl ?h1505 ?h1506 ?h1507
                  case h1505 =>
                   exact rvN 4 no_law
                  case h1506 =>
                   exact pnone
                  case h1507 =>
                   refine' psome ?h1504
                   case h1504 =>
                    exact rvN 7 no_law
                 case h1513 =>
                  refine' rsl ?h1509 ?h1510 ?h1511
                  case h1509 =>
                   exact rvN 5 no_law
                  case h1510 =>
                   exact pnone
                  case h1511 =>
                   refine' psome ?h1508
                   case h1508 =>
                    exact rvN 7 no_law
               case h1516 =>
                refine' scons ?h1502 ?h1503
                case h1502 =>
                 refine' sif ?h1499 ?h1500 ?h1501
                 case h1499 =>
                  refine' rtcmp (one hr.units) ?h1495 ?h1496
                  case h1495 =>
                   refine' rcmp (oeq hr.units) ?h1493 ?h1494
                   case h1493 =>
                    refine' rcallF F_holder_of (hr.mono (by decide)) ?h1487 (hg := gl_law_holder_of) (hdb := db_holder_of)
                    case h1487 =>
                     refine' acons ?h1485 ?h1486
                     case h1485 =>
                      exact rvN 3 no_law
                     case h1486 =>
                      refine' acons ?h1483 ?h1484
                      case h1483 =>
                       exact rvN 4 no_law
                      case h1484 =>
                       exact anil
                   case h1494 =>
                    refine' rcallF F_holder_of (hr.mono (by decide)) ?h1492 (hg := gl_law_holder_of) (hdb := db_holder_of)
                    case h1492 =>
                     refine' acons ?h1490 ?h1491
                     case h1490 =>
                      exact rvN 3 no_law
                     case h1491 =>
                      refine' acons ?h1488 ?h1489
                      case h1488 =>
                       exact rvN 5 no_law
                      case h1489 =>
                       exact anil
                  case h1496 =>
                   exact rvN 9 no_law
                 case h1500 =>
                  refine' sone ?h1498
                  case h1498 =>
                   refine' sret ?h1497
                   case h1497 =>
                    exact rb
                 case h1501 =>
                  exact snil
                case h1503 =>
                 refine' sone ?h1482
                 case h1482 =>
                  refine' sfor PassesOwn.never rfl ?h1479 ?h1480 ?h1481
                  case h1479 =>
                   refine' iseq ?h1444
                   case h1444 =>
                    refine' rlsf ?h1443
                    case h1443 =>
                     refine' acons ?h1441 ?h1442
                     case h1441 =>
                      exact rs
                     case h1442 =>
                      refine' acons ?h1439 ?h1440
                      case h1439 =>
                       exact rs
                      case h1440 =>
                       refine' acons ?h1437 ?h1438
                       case h1437 =>
                        exact rs
                       case h1438 =>
                        refine' acons ?h1435 ?h1436
                        case h1435 =>
                         exact rs
                        case h1436 =>
                         refine' acons ?h1433 ?h1434
                         case h1433 =>
                          exact rs
                         case h1434 =>
                          refine' acons ?h1431 ?h1432
                          case h1431 =>
                           exact rs
                          case h1432 =>
                           exact anil
                  case h1480 =>
                   exact gnameN 10 no_law
                  case h1481 =>
                   refine' scons ?h1477 ?h1478
                   case h1477 =>
                    refine' ssetN 12 no_law ?h1476
                    case h1476 =>
                     refine' rcallF F_time_of (hr.mono (by decide)) ?h1475 (hg := gl_law_time_of) (hdb := db_time_of)
                     case h1475 =>
                      refine' acons ?h1473 ?h1474
                      case h1473 =>
                       exact rvN 3 no_law
                      case h1474 =>
                       refine' acons ?h1471 ?h1472
                       case h1471 =>
                        exact rvN 10 no_law
                       case h1472 =>
                        exact anil
                   case h1478 =>
                    refine' scons ?h1469 ?h1470
                    case h1469 =>
                     refine' ssetN 13 no_law ?h1468
                     case h1468 =>
                      refine' rdispI [("note", 0), ("asked", 1), ("called", 1), ("up", 2), ("near", 2), ("far", 2)] (hu_of hr) ?h1466 ?h1467 (by decide +kernel)
                      case h1466 =>
                       exact (pps_cons pe_str pe_int (pps_cons pe_str pe_int (pps_cons pe_str pe_int (pps_cons pe_str pe_int (pps_cons pe_str pe_int (pps_cons pe_str pe_int pps_nil))))))
                      case h1467 =>
                       exact rvN 10 no_law
                    case h1470 =>
                     refine' sone ?h1465
                     case h1465 =>
                      refine' sif ?h1462 ?h1463 ?h1464
                      case h1462 =>
                       refine' rtw ?h1459
                       case h1459 =>
                        refine' ror ?h1457 ?h1458
                        case h1457 =>
                         refine' rtnot ?h1456
                         case h1456 =>
                          refine' rtval ?h1455
                          case h1455 =>
                           refine' rcallF F__law_whole (hr.mono (by decide)) ?h1454 (hg := gl_law__law_whole) (hdb := db__law_whole)
                           case h1454 =>
                            refine' acons ?h1452 ?h1453
                            case h1452 =>
                             exact rvN 12 no_law
                            case h1453 =>
                             exact anil
                        case h1458 =>
                         refine' ror1 ?h1451
                         case h1451 =>
                          refine' rtcmp (one hr.units) ?h1449 ?h1450
                          case h1449 =>
                           exact rvN 12 no_law
                          case h1450 =>
                           refine' rix ?h1447 ?h1448
                           case h1447 =>
                            refine' rix ?h1445 ?h1446
                            case h1445 =>
                             exact rvN 3 no_law
                            case h1446 =>
                             exact ri
                           case h1448 =>
                            exact rvN 13 no_law
                      case h1463 =>
                       refine' sone ?h1461
                       case h1461 =>
                        refine' sret ?h1460
                        case h1460 =>
                         exact rb
                      case h1464 =>
                       exact snil
    case h1678 =>
     refine' sone ?h1414
     case h1414 =>
      refine' sret ?h1413
      case h1413 =>
       exact rb
end
end K04

set_option Elab.async false
set_option linter.all false
set_option maxRecDepth 100000
namespace K04
open PySem PySem.Spec PyProof.Rows L2 R
section
variable {P : Program} {w : World} {K : PySem.W.Frag} {mg : Str → Option Value} {base : Heap}
local macro_rules | `(tactic| walk_at "rs1") => `(tactic| first | ((with_reducible refine' do_norm ?_ ?_); rotate_left; simp only [List.set_cons_succ, List.set_cons_zero]; exact rfl) | ((with_reducible refine' do_normU ?_ ?_); rotate_left; simp only [setAll, List.set_cons_succ, List.set_cons_zero]; exact rfl) | ((with_reducible refine' do_var ?_ ?_); rotate_left; exact rfl) | with_reducible refine do_c ?_ | with_reducible refine do_tab ?_ | with_reducible refine do_op ?_ | with_reducible refine do_seq ?_ | with_reducible refine do_set ?_ | with_reducible refine do_cons ?_ | with_reducible refine do_nil ?_ | with_reducible refine do_call ?_ | with_reducible refine do_ifs ?_ | with_reducible refine do_test ?_ | with_reducible refine do_ktest ?_ | with_reducible refine do_kT ?_ | with_reducible refine do_kF ?_ | with_reducible refine do_knT ?_ | with_reducible refine do_knF ?_ | with_reducible refine do_and ?_ | with_reducible refine do_or ?_ | with_reducible refine do_not ?_ | with_reducible refine do_if ?_ | with_reducible refine do_un ?_ | with_reducible refine do_chain ?_ | with_reducible refine do_kchT ?_ | with_reducible refine do_kchF ?_ | with_reducible refine do_tup ?_ | with_reducible refine do_lsf ?_ | with_reducible refine do_lst ?_ | ((with_reducible refine' do_size ?_ ?_); exact rfl) | with_reducible refine do_next ?_ | with_reducible refine do_ret ?_ | with_reducible refine do_retN ?_ | with_reducible refine do_drop ?_ | with_reducible refine do_asg ?_ | with_reducible refine do_gN ?_ | ((with_reducible refine' do_gU ?_ ?_); exact rfl) | with_reducible refine do_gSub ?_ | with_reducible refine do_forI ?_ | with_reducible refine do_itS ?_ | with_reducible refine do_kits_t ?_ | with_reducible refine do_kits_l ?_ | with_reducible refine do_itR ?_ | with_reducible refine do_forNil ?_ | with_reducible refine do_forCons ?_ | with_reducible refine do_comp ?_ | with_reducible refine do_compNil ?_ | with_reducible refine do_compYes ?_ | with_reducible refine do_compT ?_ | with_reducible refine do_sl ?_ | with_reducible refine do_noP ?_ | with_reducible refine do_part ?_ | with_reducible refine do_kpart ?_ | with_reducible refine do_slT ?_ | with_reducible refine do_slL ?_ | with_reducible refine do_int0 ?_ | with_reducible refine do_addI ?_ | ((with_reducible refine' do_addT ?_ ?_); exact rfl) | ((with_reducible refine' do_addL ?_ ?_); exact rfl) | ((with_reducible refine' do_eq ?_ ?_ ?_); exact rfl; exact rfl) | ((with_reducible refine' do_ne ?_ ?_ ?_); exact rfl; exact rfl) | with_reducible refine do_is ?_ | with_reducible refine do_isnot ?_ | with_reducible refine do_ixT ?_ | with_reducible refine do_ixL ?_ | with_reducible refine do_len_t ?_ | with_reducible refine do_len_l ?_ | with_reducible refine do_tuple_l ?_ | with_reducible refine do_tuple_t ?_ | ((with_reducible refine' do_isi ?_ ?_); rotate_left; exact rfl) | with_reducible refine do_break ?_ | with_reducible refine do_cont ?_)
local macro_rules | `(tactic| walk_at "rs") => `(tactic| (repeat walk_at "rs1"))

theorem rif_any' {t : RTT} {ta tb : RTE} {σ : RSt} {M : RM} {Q : RVK} (p : RV → Prop) (ht : ∀ Q' : Bool → RM → Prop, (∀ c, Q' c M) → t σ M Q') (ha : ∀ Q' : RVK, (∀ v, p v → Q' v M) → ta σ M Q') (hb : ∀ Q' : RVK, (∀ v, p v → Q' v M) → tb σ M Q') (h : ∀ v, p v → Q v M) : rIf t ta tb σ M Q := rif_any p h ht ha hb
theorem at5 {a b c d e : RV} {i : Int} {P : RV → Prop} (h0 : 0 ≤ i) (h1 : i < 5) (ha : P a) (hb : P b) (hc : P c) (hd : P d) (he : P e) : (match atI [a, b, c, d, e] i with | some v => P v | none => False) :=
  at_do h0 (by simpa using h1) fun v hv => by
    simp only [List.mem_cons, List.not_mem_nil, or_false] at hv
    rcases hv with rfl | rfl | rfl | rfl | rfl
    · exact ha
    · exact hb
    · exact hc
    · exact hd
    · exact he
theorem ix5 {σ : RSt} {M : RM} {Q : RVK} {i j : Nat} {a b c d e : RV} {k : Int} (h1 : σ[i]? = some (some (.tup [a, b, c, d, e]))) (h2 : σ[j]? = some (some (.int k))) (k0 : 0 ≤ k) (k5 : k < 5) (ha : Q a M) (hb : Q b M) (hc : Q c M) (hd : Q d M) (he : Q e M) : rOp R.rIx (rVar i) (rVar j) σ M Q := by
  unfold rOp rVar
  rw [h1]
  dsimp only
  rw [h2]
  dsimp only [R.rIx]
  exact at5 k0 k5 ha hb hc hd he
theorem seq_ifs {c : RTT} {t u v : RTS} {D : RD} {σ : RSt} {M : RM} (J : RSt → RM → Prop) (h1 : ∀ N : RSt → RM → Prop, (∀ σ' M', J σ' M' → N σ' M') → rIfS c t u { D with nx := N } σ M) (h2 : ∀ σ' M', J σ' M' → v D σ' M') : rSeq (rIfS c t u) v D σ M := h1 (v D) h2
theorem ok3 {a b c : RV} (ha : okR 15 a = true) (hb : okR 15 b = true) (hc : okR 15 c = true) : okR 16 (.tup [a, b, c]) = true := by simp [okR, ha, hb, hc]
theorem ok4 {a b c d : RV} (ha : okR 15 a = true) (hb : okR 15 b = true) (hc : okR 15 c = true) (hd : okR 15 d = true) : okR 16 (.tup [a, b, c, d]) = true := by simp [okR, ha, hb, hc, hd]
theorem ok5 {a b c d e : RV} (ha : okR 15 a = true) (hb : okR 15 b = true) (hc : okR 15 c = true) (hd : okR 15 d = true) (he : okR 15 e = true) : okR 16 (.tup [a, b, c, d, e]) = true := by simp [okR, ha, hb, hc, hd, he]
theorem ne_abs {b : Bool} (e : b = true) (z : (!b) = true) : False := by subst e; cases z
theorem bl_same {a b : Bool} (h : a = b) : eqR (.bl a) (.bl b) = true := by subst h; simp [eqR]
theorem al3 {a b c x y z : RV} : eqR (.tup [a, b, c, .non, .non]) (.tup [x, y, z, .non, .non]) = eqR (.tup [a, b, c]) (.tup [x, y, z]) := by simp [eqR, eqRs]
theorem al4 {a b c d x y z w : RV} : eqR (.tup [a, b, c, d, .non]) (.tup [x, y, z, w, .non]) = eqR (.tup [a, b, c, d]) (.tup [x, y, z, w]) := by simp [eqR, eqRs]
theorem al5 {a b c d e x y z w v : RV} : eqR (.tup [a, b, c, d, e]) (.tup [x, y, z, w, v]) = eqR (.tup [a, b, c, d, e]) (.tup [x, y, z, w, v]) := rfl
theorem holder_door {M : RM} {fs : List RV} {k h d p f : RV} {Q : RVK} (e : atI fs 2 = some (.str "door")) (hq : Q (.tup [k, h, d, .non, .non]) M) : sp_holder_of [.tup fs, .tup [k, h, d, p, f]] M Q := holder_do e (by rw [hold_door]; exact hq)
theorem holder_place {M : RM} {fs : List RV} {k h d p f : RV} {Q : RVK} (e : atI fs 2 = some (.str "place")) (hq : Q (.tup [k, h, d, p, .non]) M) : sp_holder_of [.tup fs, .tup [k, h, d, p, f]] M Q := holder_do e (by rw [hold_place]; exact hq)
theorem holder_talk {M : RM} {fs : List RV} {k h d p f : RV} {Q : RVK} (e : atI fs 2 = some (.str "talk")) (hq : Q (.tup [k, h, d, p, f]) M) : sp_holder_of [.tup fs, .tup [k, h, d, p, f]] M Q := holder_do e (by rw [hold_talk]; exact hq)
theorem cut_len (ns : List Int) (lo hi : Option Int) : (cutR (ns.map RV.int) lo hi).length ≤ ns.length := by
  unfold cutR
  rw [List.length_take, List.length_drop, List.length_map]
  omega
theorem cut_mem {ns : List Int} {lo hi : Option Int} {x : RV} (h : x ∈ cutR (ns.map RV.int) lo hi) : ∃ c : Int, x = .int c := by
  unfold cutR at h
  obtain ⟨i, _, rfl⟩ := List.mem_map.mp (List.mem_of_mem_drop (List.mem_of_mem_take h))
  exact ⟨i, rfl⟩

set_option maxHeartbeats 40000000 in
theorem rd_law (T : Txt P w K mg) (F_holder_of : RFn P w K mg base 1 "holder_of" ["form", "inner"] sp_holder_of) (F_time_of : RFn P w K mg base 1 "time_of" ["form", "state"] sp_time_of) (F__law_cell : RFn P w K mg base 1 "_law_cell" ["script", "k"] sp__law_cell) (F__law_well : RFn P w K mg base 1 "_law_well" ["cell", "turn"] sp__law_well) (F__law_take : RFn P w K mg base 1 "_law_take" ["bag", "many"] sp__law_take) (F__law_whole : RFn P w K mg base 1 "_law_whole" ["found"] sp__law_whole) (F__law_a_form : RFn P w K mg base 2 "_law_a_form" ["bag"] sp__law_a_form) (F__law_any_inner : RFn P w K mg base 2 "_law_any_inner" ["bag"] sp__law_any_inner) {rs : List RV} {M : RM} {Q : RVK} (h : sp_law rs M Q) : (pk_law (base := base) T F_holder_of F_time_of F__law_cell F__law_well F__law_take F__law_whole F__law_a_form F__law_any_inner).1 { nx := fun _ M' => Q .non M', rt := Q } (rstart N_law rs) M := by
    unfold sp_law at h
    obtain ⟨ns, rfl, hl, h⟩ := h
    refine cell_do (by decide) fun c0 => ⟨szl, ?_⟩
    refine ⟨?_, forL_inv (fun σ M => ∃ a0 a1 a2 a3 a4 a5 a6 a7 a8 a9 a10 a11 a12 a13 : Option RV, σ = [a0, a1, a2, a3, a4, a5, a6, a7, a8, a9, a10, a11, a12, a13]) (fun v => ∃ c : Int, v = .int c) _ ?_ ?_ (fun σ M _ => h M) _ _ ⟨_, _, _, _, _, _, _, _, _, _, _, _, _, _, rfl⟩⟩
    · have := cut_len ns (some 1) (some 30)
      refine szl ?_
      show 1 + _ ≤ 1000
      omega
    · intro x hx
      rcases List.mem_append.mp hx with hx | hx
      · exact ⟨c0, by simpa using hx⟩
      · exact cut_mem hx
    · rintro x σ M N ⟨c, rfl⟩ ⟨a0, a1, a2, a3, a4, a5, a6, a7, a8, a9, a10, a11, a12, a13, rfl⟩ hN
      refine well_do fun p o hp ho => ?_
      refine form_do (Bag.put ho) (by decide) (by decide) fun low high most t1 t2 t3 t4 lend sieve pick renew o1 hlend ho1 => ?_
      refine inner_do (Bag.put ho1) (by decide) (by decide) fun h1 d1 p1 f1 k1 o2 ho2 => ?_
      refine inner_do (Bag.put ho2) (by decide) (by decide) fun h2 d2 p2' f2 k2 o3 ho3 => ?_
      refine take_do (Bag.put ho3) (by decide) (by decide) (by decide) fun mask o4 mk0 mk1 ho4 => ?_
      dsimp only
      refine seq_ifs (fun σ' M' => ∃ (m : Int) (o : RO), σ' = [a0, some (.int c), some (.ref p), some (.tup [.int low, .int high, .str lend, .str sieve, .str pick, .int most, .bl renew, .tup [.int t1, .int t2, .int t3, .int t4]]), some (.tup [.str k1, .int h1, .int d1, .int p1, .int f1]), some (.tup [.str k2, .int h2, .int d2, .int p2', .int f2]), some (.int m), a7, a8, a9, a10, a11, a12, a13] ∧ M' = put M p o) ?_ ?_
      · intro N' hN'
        refine take_do (Bag.put ho4) (by decide) (by decide) (by decide) fun r5 o5 ra5 rb5 ho5 => ?_
        refine ⟨fun _ => ⟨szl, take_do (Bag.put ho5) (by decide) (by decide) (by decide) fun r6 o6 ra6 rb6 ho6 => at_ints 0 24 ra6 fun mask2 mk20 mk21 => hN' _ _ ⟨mask2, o6, rfl, ?_⟩⟩, fun _ => hN' _ _ ⟨mask, o5, rfl, ?_⟩⟩
        · simp only [R.put_put]
        · simp only [R.put_put]
      · rintro σ' M' ⟨mask2, o6, rfl, rfl⟩
        refine ⟨by decide, by decide, by decide, ?_⟩
        refine ⟨fun _ => rif_any' (fun v => okR 15 v = true) (fun Q' hq => ⟨Int.natCast_nonneg 0, rfl, rfl, hq _⟩) (fun Q' hq => ix5 rfl rfl (Int.natCast_nonneg 0) (by decide) (hq _ rfl) (hq _ rfl) (hq _ rfl) (hq _ rfl) (hq _ rfl)) (fun Q' hq => ix5 rfl rfl (Int.natCast_nonneg 0) (by decide) (hq _ rfl) (hq _ rfl) (hq _ rfl) (hq _ rfl) (hq _ rfl)) fun v0 hv0 => ?_, fun z => (by cases z)⟩
        refine ⟨fun _ => rif_any' (fun v => okR 15 v = true) (fun Q' hq => ⟨Int.natCast_nonneg 1, rfl, rfl, hq _⟩) (fun Q' hq => ix5 rfl rfl (Int.natCast_nonneg 1) (by decide) (hq _ rfl) (hq _ rfl) (hq _ rfl) (hq _ rfl) (hq _ rfl)) (fun Q' hq => ix5 rfl rfl (Int.natCast_nonneg 1) (by decide) (hq _ rfl) (hq _ rfl) (hq _ rfl) (hq _ rfl) (hq _ rfl)) fun v1 hv1 => ?_, fun z => (by cases z)⟩
        refine ⟨fun _ => rif_any' (fun v => okR 15 v = true) (fun Q' hq => ⟨Int.natCast_nonneg 2, rfl, rfl, hq _⟩) (fun Q' hq => ix5 rfl rfl (Int.natCast_nonneg 2) (by decide) (hq _ rfl) (hq _ rfl) (hq _ rfl) (hq _ rfl) (hq _ rfl)) (fun Q' hq => ix5 rfl rfl (Int.natCast_nonneg 2) (by decide) (hq _ rfl) (hq _ rfl) (hq _ rfl) (hq _ rfl) (hq _ rfl)) fun v2 hv2 => ?_, fun z => (by cases z)⟩
        refine ⟨fun _ => rif_any' (fun v => okR 15 v = true) (fun Q' hq => ⟨Int.natCast_nonneg 3, rfl, rfl, hq _⟩) (fun Q' hq => ix5 rfl rfl (Int.natCast_nonneg 3) (by decide) (hq _ rfl) (hq _ rfl) (hq _ rfl) (hq _ rfl) (hq _ rfl)) (fun Q' hq => ix5 rfl rfl (Int.natCast_nonneg 3) (by decide) (hq _ rfl) (hq _ rfl) (hq _ rfl) (hq _ rfl) (hq _ rfl)) fun v3 hv3 => ?_, fun z => (by cases z)⟩
        refine ⟨fun _ => rif_any' (fun v => okR 15 v = true) (fun Q' hq => ⟨Int.natCast_nonneg 4, rfl, rfl, hq _⟩) (fun Q' hq => ix5 rfl rfl (Int.natCast_nonneg 4) (by decide) (hq _ rfl) (hq _ rfl) (hq _ rfl) (hq _ rfl) (hq _ rfl)) (fun Q' hq => ix5 rfl rfl (Int.natCast_nonneg 4) (by decide) (hq _ rfl) (hq _ rfl) (hq _ rfl) (hq _ rfl) (hq _ rfl)) fun v4 hv4 => ?_, fun z => (by cases z)⟩
        rcases hlend with rfl | rfl | rfl
        · refine do_compNil ?_
          walk_at "rs"
          refine do_disp fun p2 hp2 => ?_
          walk_at "rs"
          refine do_kat at2 ?_
          refine do_kdisp' hp2 rfl lk_door ?_
          walk_at "rs"
          refine fun p3 hp3 => ?_
          walk_at "rs"
          refine do_mulL R.put_same (by decide) (by decide) rfl ?_
          walk_at "rs"
          refine holder_door at2 ?_
          walk_at "rs"
          refine do_kF' (neqF (eqR_refl _ ⟨16, (ok5 rfl rfl rfl rfl rfl)⟩)) ?_
          walk_at "rs"
          refine fun p3 hp3 => ?_
          walk_at "rs"
          refine do_mulL R.put_same (by decide) (by decide) rfl ?_
          walk_at "rs"
          refine holder_door at2 ?_
          walk_at "rs"
          refine do_ne (ok5 hv0 hv1 hv2 rfl rfl) (ok5 hv0 hv1 hv2 rfl rfl) ?_
          walk_at "rs"
          refine do_kF' (neqF (eqR_refl _ ⟨16, (ok5 hv0 hv1 hv2 rfl rfl)⟩)) ?_
          walk_at "rs"
          refine do_eq (ok3 rfl rfl rfl) (ok3 hv0 hv1 hv2) ?_
          walk_at "rs"
          refine holder_door at2 ?_
          walk_at "rs"
          refine holder_door at2 ?_
          walk_at "rs"
          refine do_eq (ok5 rfl rfl rfl rfl rfl) (ok5 hv0 hv1 hv2 rfl rfl) ?_
          walk_at "rs"
          refine do_kF' (neqB al3) ?_
          walk_at "rs"
          refine time_do (atI_nat (j := 7) rfl) lk_note at0 ?_
          walk_at "rs"
          refine do_disp fun p4 hp4 => ?_
          walk_at "rs"
          refine do_kdisp' hp4 rfl lk_note ?_
          walk_at "rs"
          refine whole_do rfl ?_
          walk_at "rs"
          refine do_kat (atI_nat (j := 7) rfl) ?_
          walk_at "rs"
          refine do_kat at0 ?_
          walk_at "rs"
          refine do_kF' (neqF (eqR_refl _ ⟨0, rfl⟩)) ?_
          walk_at "rs"
          refine time_do (atI_nat (j := 7) rfl) lk_asked at1 ?_
          walk_at "rs"
          refine do_disp fun p4 hp4 => ?_
          walk_at "rs"
          refine do_kdisp' hp4 rfl lk_asked ?_
          walk_at "rs"
          refine whole_do rfl ?_
          walk_at "rs"
          refine do_kat (atI_nat (j := 7) rfl) ?_
          walk_at "rs"
          refine do_kat at1 ?_
          walk_at "rs"
          refine do_kF' (neqF (eqR_refl _ ⟨0, rfl⟩)) ?_
          walk_at "rs"
          refine time_do (atI_nat (j := 7) rfl) lk_called at1 ?_
          walk_at "rs"
          refine do_disp fun p4 hp4 => ?_
          walk_at "rs"
          refine do_kdisp' hp4 rfl lk_called ?_
          walk_at "rs"
          refine whole_do rfl ?_
          walk_at "rs"
          refine do_kat (atI_nat (j := 7) rfl) ?_
          walk_at "rs"
          refine do_kat at1 ?_
          walk_at "rs"
          refine do_kF' (neqF (eqR_refl _ ⟨0, rfl⟩)) ?_
          walk_at "rs"
          refine time_do (atI_nat (j := 7) rfl) lk_up at2 ?_
          walk_at "rs"
          refine do_disp fun p4 hp4 => ?_
          walk_at "rs"
          refine do_kdisp' hp4 rfl lk_up ?_
          walk_at "rs"
          refine whole_do rfl ?_
          walk_at "rs"
          refine do_kat (atI_nat (j := 7) rfl) ?_
          walk_at "rs"
          refine do_kat at2 ?_
          walk_at "rs"
          refine do_kF' (neqF (eqR_refl _ ⟨0, rfl⟩)) ?_
          walk_at "rs"
          refine time_do (atI_nat (j := 7) rfl) lk_near at2 ?_
          walk_at "rs"
          refine do_disp fun p4 hp4 => ?_
          walk_at "rs"
          refine do_kdisp' hp4 rfl lk_near ?_
          walk_at "rs"
          refine whole_do rfl ?_
          walk_at "rs"
          refine do_kat (atI_nat (j := 7) rfl) ?_
          walk_at "rs"
          refine do_kat at2 ?_
          walk_at "rs"
          refine do_kF' (neqF (eqR_refl _ ⟨0, rfl⟩)) ?_
          walk_at "rs"
          refine time_do (atI_nat (j := 7) rfl) lk_far at2 ?_
          walk_at "rs"
          refine do_disp fun p4 hp4 => ?_
          walk_at "rs"
          refine do_kdisp' hp4 rfl lk_far ?_
          walk_at "rs"
          refine whole_do rfl ?_
          walk_at "rs"
          refine do_kat (atI_nat (j := 7) rfl) ?_
          walk_at "rs"
          refine do_kat at2 ?_
          walk_at "rs"
          refine do_kF' (neqF (eqR_refl _ ⟨0, rfl⟩)) ?_
          walk_at "rs"
          exact hN _ _ ⟨_, _, _, _, _, _, _, _, _, _, _, _, _, _, rfl⟩
        · refine do_compNil ?_
          walk_at "rs"
          refine do_disp fun p2 hp2 => ?_
          walk_at "rs"
          refine do_kat at2 ?_
          refine do_kdisp' hp2 rfl lk_place ?_
          walk_at "rs"
          refine fun p3 hp3 => ?_
          walk_at "rs"
          refine do_mulL R.put_same (by decide) (by decide) rfl ?_
          walk_at "rs"
          refine holder_place at2 ?_
          walk_at "rs"
          refine do_kF' (neqF (eqR_refl _ ⟨16, (ok5 rfl rfl rfl rfl rfl)⟩)) ?_
          walk_at "rs"
          refine fun p3 hp3 => ?_
          walk_at "rs"
          refine do_mulL R.put_same (by decide) (by decide) rfl ?_
          walk_at "rs"
          refine holder_place at2 ?_
          walk_at "rs"
          refine do_ne (ok5 hv0 hv1 hv2 hv3 rfl) (ok5 hv0 hv1 hv2 hv3 rfl) ?_
          walk_at "rs"
          refine do_kF' (neqF (eqR_refl _ ⟨16, (ok5 hv0 hv1 hv2 hv3 rfl)⟩)) ?_
          walk_at "rs"
          refine do_eq (ok4 rfl rfl rfl rfl) (ok4 hv0 hv1 hv2 hv3) ?_
          walk_at "rs"
          refine holder_place at2 ?_
          walk_at "rs"
          refine holder_place at2 ?_
          walk_at "rs"
          refine do_eq (ok5 rfl rfl rfl rfl rfl) (ok5 hv0 hv1 hv2 hv3 rfl) ?_
          walk_at "rs"
          refine do_kF' (neqB al4) ?_
          walk_at "rs"
          refine time_do (atI_nat (j := 7) rfl) lk_note at0 ?_
          walk_at "rs"
          refine do_disp fun p4 hp4 => ?_
          walk_at "rs"
          refine do_kdisp' hp4 rfl lk_note ?_
          walk_at "rs"
          refine whole_do rfl ?_
          walk_at "rs"
          refine do_kat (atI_nat (j := 7) rfl) ?_
          walk_at "rs"
          refine do_kat at0 ?_
          walk_at "rs"
          refine do_kF' (neqF (eqR_refl _ ⟨0, rfl⟩)) ?_
          walk_at "rs"
          refine time_do (atI_nat (j := 7) rfl) lk_asked at1 ?_
          walk_at "rs"
          refine do_disp fun p4 hp4 => ?_
          walk_at "rs"
          refine do_kdisp' hp4 rfl lk_asked ?_
          walk_at "rs"
          refine whole_do rfl ?_
          walk_at "rs"
          refine do_kat (atI_nat (j := 7) rfl) ?_
          walk_at "rs"
          refine do_kat at1 ?_
          walk_at "rs"
          refine do_kF' (neqF (eqR_refl _ ⟨0, rfl⟩)) ?_
          walk_at "rs"
          refine time_do (atI_nat (j := 7) rfl) lk_called at1 ?_
          walk_at "rs"
          refine do_disp fun p4 hp4 => ?_
          walk_at "rs"
          refine do_kdisp' hp4 rfl lk_called ?_
          walk_at "rs"
          refine whole_do rfl ?_
          walk_at "rs"
          refine do_kat (atI_nat (j := 7) rfl) ?_
          walk_at "rs"
          refine do_kat at1 ?_
          walk_at "rs"
          refine do_kF' (neqF (eqR_refl _ ⟨0, rfl⟩)) ?_
          walk_at "rs"
          refine time_do (atI_nat (j := 7) rfl) lk_up at2 ?_
          walk_at "rs"
          refine do_disp fun p4 hp4 => ?_
          walk_at "rs"
          refine do_kdisp' hp4 rfl lk_up ?_
          walk_at "rs"
          refine whole_do rfl ?_
          walk_at "rs"
          refine do_kat (atI_nat (j := 7) rfl) ?_
          walk_at "rs"
          refine do_kat at2 ?_
          walk_at "rs"
          refine do_kF' (neqF (eqR_refl _ ⟨0, rfl⟩)) ?_
          walk_at "rs"
          refine time_do (atI_nat (j := 7) rfl) lk_near at2 ?_
          walk_at "rs"
          refine do_disp fun p4 hp4 => ?_
          walk_at "rs"
          refine do_kdisp' hp4 rfl lk_near ?_
          walk_at "rs"
          refine whole_do rfl ?_
          walk_at "rs"
          refine do_kat (atI_nat (j := 7) rfl) ?_
          walk_at "rs"
          refine do_kat at2 ?_
          walk_at "rs"
          refine do_kF' (neqF (eqR_refl _ ⟨0, rfl⟩)) ?_
          walk_at "rs"
          refine time_do (atI_nat (j := 7) rfl) lk_far at2 ?_
          walk_at "rs"
          refine do_disp fun p4 hp4 => ?_
          walk_at "rs"
          refine do_kdisp' hp4 rfl lk_far ?_
          walk_at "rs"
          refine whole_do rfl ?_
          walk_at "rs"
          refine do_kat (atI_nat (j := 7) rfl) ?_
          walk_at "rs"
          refine do_kat at2 ?_
          walk_at "rs"
          refine do_kF' (neqF (eqR_refl _ ⟨0, rfl⟩)) ?_
          walk_at "rs"
          exact hN _ _ ⟨_, _, _, _, _, _, _, _, _, _, _, _, _, _, rfl⟩
        · refine do_compNil ?_
          walk_at "rs"
          refine do_disp fun p2 hp2 => ?_
          walk_at "rs"
          refine do_kat at2 ?_
          refine do_kdisp' hp2 rfl lk_talk ?_
          walk_at "rs"
          refine fun p3 hp3 => ?_
          walk_at "rs"
          refine do_mulL R.put_same (by decide) (by decide) rfl ?_
          walk_at "rs"
          refine holder_talk at2 ?_
          walk_at "rs"
          refine do_kF' (neqF (eqR_refl _ ⟨16, (ok5 rfl rfl rfl rfl rfl)⟩)) ?_
          walk_at "rs"
          refine fun p3 hp3 => ?_
          walk_at "rs"
          refine do_mulL R.put_same (by decide) (by decide) rfl ?_
          walk_at "rs"
          refine holder_talk at2 ?_
          walk_at "rs"
          refine do_ne (ok5 hv0 hv1 hv2 hv3 hv4) (ok5 hv0 hv1 hv2 hv3 hv4) ?_
          walk_at "rs"
          refine do_kF' (neqF (eqR_refl _ ⟨16, (ok5 hv0 hv1 hv2 hv3 hv4)⟩)) ?_
          walk_at "rs"
          refine do_eq (ok5 rfl rfl rfl rfl rfl) (ok5 hv0 hv1 hv2 hv3 hv4) ?_
          walk_at "rs"
          refine holder_talk at2 ?_
          walk_at "rs"
          refine holder_talk at2 ?_
          walk_at "rs"
          refine do_eq (ok5 rfl rfl rfl rfl rfl) (ok5 hv0 hv1 hv2 hv3 hv4) ?_
          walk_at "rs"
          refine do_kF' (neqB al5) ?_
          walk_at "rs"
          refine time_do (atI_nat (j := 7) rfl) lk_note at0 ?_
          walk_at "rs"
          refine do_disp fun p4 hp4 => ?_
          walk_at "rs"
          refine do_kdisp' hp4 rfl lk_note ?_
          walk_at "rs"
          refine whole_do rfl ?_
          walk_at "rs"
          refine do_kat (atI_nat (j := 7) rfl) ?_
          walk_at "rs"
          refine do_kat at0 ?_
          walk_at "rs"
          refine do_kF' (neqF (eqR_refl _ ⟨0, rfl⟩)) ?_
          walk_at "rs"
          refine time_do (atI_nat (j := 7) rfl) lk_asked at1 ?_
          walk_at "rs"
          refine do_disp fun p4 hp4 => ?_
          walk_at "rs"
          refine do_kdisp' hp4 rfl lk_asked ?_
          walk_at "rs"
          refine whole_do rfl ?_
          walk_at "rs"
          refine do_kat (atI_nat (j := 7) rfl) ?_
          walk_at "rs"
          refine do_kat at1 ?_
          walk_at "rs"
          refine do_kF' (neqF (eqR_refl _ ⟨0, rfl⟩)) ?_
          walk_at "rs"
          refine time_do (atI_nat (j := 7) rfl) lk_called at1 ?_
          walk_at "rs"
          refine do_disp fun p4 hp4 => ?_
          walk_at "rs"
          refine do_kdisp' hp4 rfl lk_called ?_
          walk_at "rs"
          refine whole_do rfl ?_
          walk_at "rs"
          refine do_kat (atI_nat (j := 7) rfl) ?_
          walk_at "rs"
          refine do_kat at1 ?_
          walk_at "rs"
          refine do_kF' (neqF (eqR_refl _ ⟨0, rfl⟩)) ?_
          walk_at "rs"
          refine time_do (atI_nat (j := 7) rfl) lk_up at2 ?_
          walk_at "rs"
          refine do_disp fun p4 hp4 => ?_
          walk_at "rs"
          refine do_kdisp' hp4 rfl lk_up ?_
          walk_at "rs"
          refine whole_do rfl ?_
          walk_at "rs"
          refine do_kat (atI_nat (j := 7) rfl) ?_
          walk_at "rs"
          refine do_kat at2 ?_
          walk_at "rs"
          refine do_kF' (neqF (eqR_refl _ ⟨0, rfl⟩)) ?_
          walk_at "rs"
          refine time_do (atI_nat (j := 7) rfl) lk_near at2 ?_
          walk_at "rs"
          refine do_disp fun p4 hp4 => ?_
          walk_at "rs"
          refine do_kdisp' hp4 rfl lk_near ?_
          walk_at "rs"
          refine whole_do rfl ?_
          walk_at "rs"
          refine do_kat (atI_nat (j := 7) rfl) ?_
          walk_at "rs"
          refine do_kat at2 ?_
          walk_at "rs"
          refine do_kF' (neqF (eqR_refl _ ⟨0, rfl⟩)) ?_
          walk_at "rs"
          refine time_do (atI_nat (j := 7) rfl) lk_far at2 ?_
          walk_at "rs"
          refine do_disp fun p4 hp4 => ?_
          walk_at "rs"
          refine do_kdisp' hp4 rfl lk_far ?_
          walk_at "rs"
          refine whole_do rfl ?_
          walk_at "rs"
          refine do_kat (atI_nat (j := 7) rfl) ?_
          walk_at "rs"
          refine do_kat at2 ?_
          walk_at "rs"
          refine do_kF' (neqF (eqR_refl _ ⟨0, rfl⟩)) ?_
          walk_at "rs"
          exact hN _ _ ⟨_, _, _, _, _, _, _, _, _, _, _, _, _, _, rfl⟩
theorem fn_law {f : Addr} {fd : FuncData} (F : Fun K "law" "law" s_law f fd) (T : Txt P w K mg) (F_holder_of : RFn P w K mg base 1 "holder_of" ["form", "inner"] sp_holder_of) (F_time_of : RFn P w K mg base 1 "time_of" ["form", "state"] sp_time_of) (F__law_cell : RFn P w K mg base 1 "_law_cell" ["script", "k"] sp__law_cell) (F__law_well : RFn P w K mg base 1 "_law_well" ["cell", "turn"] sp__law_well) (F__law_take : RFn P w K mg base 1 "_law_take" ["bag", "many"] sp__law_take) (F__law_whole : RFn P w K mg base 1 "_law_whole" ["found"] sp__law_whole) (F__law_a_form : RFn P w K mg base 2 "_law_a_form" ["bag"] sp__law_a_form) (F__law_any_inner : RFn P w K mg base 2 "_law_any_inner" ["bag"] sp__law_any_inner) : FnOk P w K mg base CX0 3 f fd ["script"] (upSp K sp_law) := by
  refine' rfnok F sc_law (fun rs M Q h => ?len) (fun cdv A outer s H E hr => (pk_law (base := base) T F_holder_of F_time_of F__law_cell F__law_well F__law_take F__law_whole F__law_a_form F__law_any_inner).2 f cdv A outer s H E hr) (fun rs M Q h => rd_law T F_holder_of F_time_of F__law_cell F__law_well F__law_take F__law_whole F__law_a_form F__law_any_inner h)
  unfold sp_law at h; obtain ⟨ns, rfl, _⟩ := h; rfl
theorem law_start (ns : List Int) (h : ns.length ≤ 63) : sp_law [.ls (ns.map RV.int)] (fun _ => none) (fun v _ => v = .bl true) := by
  unfold sp_law; exact ⟨ns, rfl, h, fun _ => rfl⟩

end
theorem all_mk {l : PySem.W.OpenLaw} {w : World} {K : PySem.W.Frag} {h : Heap} {mg : Str → Option Value} {fa : Addr} (X : K.In h) (G : h.Ns mainGlobals mg) (hfa : mg "law" = some (.ref fa))
    {f0 : Addr} {od0 an0 : Option Addr} {sl0 : Array (Option Value)} {oc0 kV0 dc0 pm0 cd0 ct0 : Value}
    (a0 : PySem.W.nsIn K mainGlobals "holder_of" = some (some (.ref f0))) (l0 : K.lookup f0 = some ⟨oc0, od0, .func (PySem.W.fnOf "holder_of" "holder_of" (defArgs s_holder_of) (defBody s_holder_of) (defScope s_holder_of) .none kV0 dc0 pm0 an0 cd0 ct0), sl0⟩) (c0 : PySem.W.codeIn K cd0 "holder_of" = true) (k0 : PySem.W.keepIn K (.ref f0) = true)
    {f1 : Addr} {od1 an1 : Option Addr} {sl1 : Array (Option Value)} {oc1 kV1 dc1 pm1 cd1 ct1 : Value}
    (a1 : PySem.W.nsIn K mainGlobals "time_of" = some (some (.ref f1))) (l1 : K.lookup f1 = some ⟨oc1, od1, .func (PySem.W.fnOf "time_of" "time_of" (defArgs s_time_of) (defBody s_time_of) (defScope s_time_of) .none kV1 dc1 pm1 an1 cd1 ct1), sl1⟩) (c1 : PySem.W.codeIn K cd1 "time_of" = true) (k1 : PySem.W.keepIn K (.ref f1) = true)
    {f2 : Addr} {od2 an2 : Option Addr} {sl2 : Array (Option Value)} {oc2 kV2 dc2 pm2 cd2 ct2 : Value}
    (a2 : PySem.W.nsIn K mainGlobals "_law_cell" = some (some (.ref f2))) (l2 : K.lookup f2 = some ⟨oc2, od2, .func (PySem.W.fnOf "_law_cell" "_law_cell" (defArgs s__law_cell) (defBody s__law_cell) (defScope s__law_cell) .none kV2 dc2 pm2 an2 cd2 ct2), sl2⟩) (c2 : PySem.W.codeIn K cd2 "_law_cell" = true) (k2 : PySem.W.keepIn K (.ref f2) = true)
    {f3 : Addr} {od3 an3 : Option Addr} {sl3 : Array (Option Value)} {oc3 kV3 dc3 pm3 cd3 ct3 : Value}
    (a3 : PySem.W.nsIn K mainGlobals "_law_well" = some (some (.ref f3))) (l3 : K.lookup f3 = some ⟨oc3, od3, .func (PySem.W.fnOf "_law_well" "_law_well" (defArgs s__law_well) (defBody s__law_well) (defScope s__law_well) .none kV3 dc3 pm3 an3 cd3 ct3), sl3⟩) (c3 : PySem.W.codeIn K cd3 "_law_well" = true) (k3 : PySem.W.keepIn K (.ref f3) = true)
    {f4 : Addr} {od4 an4 : Option Addr} {sl4 : Array (Option Value)} {oc4 kV4 dc4 pm4 cd4 ct4 : Value}
    (a4 : PySem.W.nsIn K mainGlobals "_law_take" = some (some (.ref f4))) (l4 : K.lookup f4 = some ⟨oc4, od4, .func (PySem.W.fnOf "_law_take" "_law_take" (defArgs s__law_take) (defBody s__law_take) (defScope s__law_take) .none kV4 dc4 pm4 an4 cd4 ct4), sl4⟩) (c4 : PySem.W.codeIn K cd4 "_law_take" = true) (k4 : PySem.W.keepIn K (.ref f4) = true)
    {f5 : Addr} {od5 an5 : Option Addr} {sl5 : Array (Option Value)} {oc5 kV5 dc5 pm5 cd5 ct5 : Value}
    (a5 : PySem.W.nsIn K mainGlobals "_law_whole" = some (some (.ref f5))) (l5 : K.lookup f5 = some ⟨oc5, od5, .func (PySem.W.fnOf "_law_whole" "_law_whole" (defArgs s__law_whole) (defBody s__law_whole) (defScope s__law_whole) .none kV5 dc5 pm5 an5 cd5 ct5), sl5⟩) (c5 : PySem.W.codeIn K cd5 "_law_whole" = true) (k5 : PySem.W.keepIn K (.ref f5) = true)
    {f6 : Addr} {od6 an6 : Option Addr} {sl6 : Array (Option Value)} {oc6 kV6 dc6 pm6 cd6 ct6 : Value}
    (a6 : PySem.W.nsIn K mainGlobals "_law_a_form" = some (some (.ref f6))) (l6 : K.lookup f6 = some ⟨oc6, od6, .func (PySem.W.fnOf "_law_a_form" "_law_a_form" (defArgs s__law_a_form) (defBody s__law_a_form) (defScope s__law_a_form) .none kV6 dc6 pm6 an6 cd6 ct6), sl6⟩) (c6 : PySem.W.codeIn K cd6 "_law_a_form" = true) (k6 : PySem.W.keepIn K (.ref f6) = true)
    {f7 : Addr} {od7 an7 : Option Addr} {sl7 : Array (Option Value)} {oc7 kV7 dc7 pm7 cd7 ct7 : Value}
    (a7 : PySem.W.nsIn K mainGlobals "_law_any_inner" = some (some (.ref f7))) (l7 : K.lookup f7 = some ⟨oc7, od7, .func (PySem.W.fnOf "_law_any_inner" "_law_any_inner" (defArgs s__law_any_inner) (defBody s__law_any_inner) (defScope s__law_any_inner) .none kV7 dc7 pm7 an7 cd7 ct7), sl7⟩) (c7 : PySem.W.codeIn K cd7 "_law_any_inner" = true) (k7 : PySem.W.keepIn K (.ref f7) = true)
    {f8 : Addr} {od8 an8 : Option Addr} {sl8 : Array (Option Value)} {oc8 kV8 dc8 pm8 cd8 ct8 : Value}
    (a8 : PySem.W.nsIn K mainGlobals "law" = some (some (.ref f8))) (l8 : K.lookup f8 = some ⟨oc8, od8, .func (PySem.W.fnOf "law" "law" (defArgs s_law) (defBody s_law) (defScope s_law) .none kV8 dc8 pm8 an8 cd8 ct8), sl8⟩) (c8 : PySem.W.codeIn K cd8 "law" = true) (k8 : PySem.W.keepIn K (.ref f8) = true)
    (z_bool : PySem.W.nsIn K mainGlobals "bool" = some none)
    (z_int : PySem.W.nsIn K mainGlobals "int" = some none)
    (z_isinstance : PySem.W.nsIn K mainGlobals "isinstance" = some none)
    (z_len : PySem.W.nsIn K mainGlobals "len" = some none)
    (z_range : PySem.W.nsIn K mainGlobals "range" = some none)
    (z_tuple : PySem.W.nsIn K mainGlobals "tuple" = some none)
    {aT : Addr} {esT : Array DictEntry} {epT : Nat} (zT : PySem.W.nsIn K mainGlobals "TIME_AT" = some (some (.ref aT))) (lT : K.lookup aT = some ⟨.type "dict", none, .dict esT epT, #[]⟩) (nT : (aT == sysModules) = false) (rT : KRowsI w esT.toList [("note", 0), ("asked", 1), ("called", 1), ("up", 2), ("near", 2), ("far", 2)])
    : ∃ fd : FuncData, (∀ (s : Shared) (v : Value), BindsTo s fd ⟨[v], []⟩ [("script", v)]) ∧ ∀ base : Heap, K.In base → base.Ns mainGlobals mg → FnOk l.prog w K mg base CX0 3 fa fd ["script"] (upSp K sp_law) := by
  have e := hfa.symm.trans (PySem.W.mg_of X G a8)
  cases e
  have t_TIME_AT : KTab l.prog w K mg "TIME_AT" [((Sum.inr "note" : Key), RV.int 0), ((Sum.inr "asked" : Key), RV.int 1), ((Sum.inr "called" : Key), RV.int 1), ((Sum.inr "up" : Key), RV.int 2), ((Sum.inr "near" : Key), RV.int 2), ((Sum.inr "far" : Key), RV.int 2)] := ktabI_mk (PySem.W.mg_of X G zT) lT nT rT (by decide +kernel)
  have T : Txt l.prog w K mg := ⟨PySem.W.mg_none_of X G z_bool, PySem.W.mg_none_of X G z_int, PySem.W.mg_none_of X G z_isinstance, PySem.W.mg_none_of X G z_len, PySem.W.mg_none_of X G z_range, PySem.W.mg_none_of X G z_tuple, t_TIME_AT⟩
  have Fn0 := fun_mk (st := s_holder_of) l0 c0 k0
  have bn0 := Fn0.binds (ps := ["form", "inner"]) fun _ _ _ _ _ _ us hl => match us, hl with | [_, _], _ => rfl
  have Fn1 := fun_mk (st := s_time_of) l1 c1 k1
  have bn1 := Fn1.binds (ps := ["form", "state"]) fun _ _ _ _ _ _ us hl => match us, hl with | [_, _], _ => rfl
  have Fn2 := fun_mk (st := s__law_cell) l2 c2 k2
  have bn2 := Fn2.binds (ps := ["script", "k"]) fun _ _ _ _ _ _ us hl => match us, hl with | [_, _], _ => rfl
  have Fn3 := fun_mk (st := s__law_well) l3 c3 k3
  have bn3 := Fn3.binds (ps := ["cell", "turn"]) fun _ _ _ _ _ _ us hl => match us, hl with | [_, _], _ => rfl
  have Fn4 := fun_mk (st := s__law_take) l4 c4 k4
  have bn4 := Fn4.binds (ps := ["bag", "many"]) fun _ _ _ _ _ _ us hl => match us, hl with | [_, _], _ => rfl
  have Fn5 := fun_mk (st := s__law_whole) l5 c5 k5
  have bn5 := Fn5.binds (ps := ["found"]) fun _ _ _ _ _ _ us hl => match us, hl with | [_], _ => rfl
  have Fn6 := fun_mk (st := s__law_a_form) l6 c6 k6
  have bn6 := Fn6.binds (ps := ["bag"]) fun _ _ _ _ _ _ us hl => match us, hl with | [_], _ => rfl
  have Fn7 := fun_mk (st := s__law_any_inner) l7 c7 k7
  have bn7 := Fn7.binds (ps := ["bag"]) fun _ _ _ _ _ _ us hl => match us, hl with | [_], _ => rfl
  have Fn8 := fun_mk (st := s_law) l8 c8 k8
  have bn8 := Fn8.binds (ps := ["script"]) fun _ _ _ _ _ _ us hl => match us, hl with | [_], _ => rfl
  refine ⟨PySem.W.fnOf "law" "law" (defArgs s_law) (defBody s_law) (defScope s_law) .none kV8 dc8 pm8 an8 cd8 ct8, fun s v => .of_eq rfl, fun base kb nb => ?_⟩
  have G_holder_of : RFn l.prog w K mg base 1 "holder_of" ["form", "inner"] sp_holder_of := ⟨_, _, PySem.W.mg_of X G a0, Fn0.kp, bn0, fn_holder_of Fn0 T ⟩
  have G_time_of : RFn l.prog w K mg base 1 "time_of" ["form", "state"] sp_time_of := ⟨_, _, PySem.W.mg_of X G a1, Fn1.kp, bn1, fn_time_of Fn1 T ⟩
  have G__law_cell : RFn l.prog w K mg base 1 "_law_cell" ["script", "k"] sp__law_cell := ⟨_, _, PySem.W.mg_of X G a2, Fn2.kp, bn2, fn__law_cell Fn2 T ⟩
  have G__law_well : RFn l.prog w K mg base 1 "_law_well" ["cell", "turn"] sp__law_well := ⟨_, _, PySem.W.mg_of X G a3, Fn3.kp, bn3, fn__law_well Fn3 T ⟩
  have G__law_take : RFn l.prog w K mg base 1 "_law_take" ["bag", "many"] sp__law_take := ⟨_, _, PySem.W.mg_of X G a4, Fn4.kp, bn4, fn__law_take Fn4 T ⟩
  have G__law_whole : RFn l.prog w K mg base 1 "_law_whole" ["found"] sp__law_whole := ⟨_, _, PySem.W.mg_of X G a5, Fn5.kp, bn5, fn__law_whole Fn5 T ⟩
  have G__law_a_form : RFn l.prog w K mg base 2 "_law_a_form" ["bag"] sp__law_a_form := ⟨_, _, PySem.W.mg_of X G a6, Fn6.kp, bn6, fn__law_a_form Fn6 T G__law_take⟩
  have G__law_any_inner : RFn l.prog w K mg base 2 "_law_any_inner" ["bag"] sp__law_any_inner := ⟨_, _, PySem.W.mg_of X G a7, Fn7.kp, bn7, fn__law_any_inner Fn7 T G__law_take⟩
  exact fn_law Fn8 T G_holder_of G_time_of G__law_cell G__law_well G__law_take G__law_whole G__law_a_form G__law_any_inner
theorem walk {l : PySem.W.OpenLaw} {q : Program} {loose : List Str} {XP : (Str → Option Value) → Heap → Prop} {YP : World → Heap → Prop} {d : DefRec} {K : Params → PySem.W.Frag} (hn : l.most = some 63) (hdf : d.params.defaults = [])
    (hY : ∀ (w : World) (h : Heap), YP w h → (K w.params).In h)
    (F : ∀ (w : World) (mg : Str → Option Value) (fa : Addr) (h : Heap), (K w.params).In h → h.Ns mainGlobals mg → mg d.name = some (.ref fa) →
      ∃ fd : FuncData, (∀ (s : Shared) (u : Value), BindsTo s fd ⟨[u], []⟩ [("script", u)]) ∧ ∀ base : Heap, (K w.params).In base → base.Ns mainGlobals mg → FnOk l.prog w (K w.params) mg base CX0 3 fa fd ["script"] (upSp (K w.params) sp_law)) :
    PySem.W.WalkO q loose XP YP l.row.toRowW d [] (fun f vs => PySem.call f vs) :=
  L2.walk_of (n := 63) (k := 3) (x := "script") (CX := fun _ => CX0) (sp := fun w => upSp (K w.params) sp_law) hn (by decide) hdf ⟨rfl, by decide, by decide⟩ hY F (fun _ _ a ns hl hO hS => law_in hO hS (law_start ns hl)) fun _ _ _ _ _ z => z
end K04
open PySem PySem.W PyProof.Rows
set_option maxRecDepth 100000 in
set_option maxHeartbeats 0 in
theorem PySem.Challenge.cw_lentgate_k04_holders_and_times_holds : PySem.Challenge.rw_lentgate_k04_holders_and_times.Holds := by
  w_on; o_law; k_head; (case hw => w_witness2)
  k_fill
  refine K04.walk (l := PySem.Challenge.rw_lentgate_k04_holders_and_times) rfl rfl (fun w h Y => PySem.W.kIn_of Y) ?F
  case F =>
    intro w mg fa h KX G hmg
    refine' K04.all_mk KX G hmg ?a0 ?l0 ?c0 ?k0 ?a1 ?l1 ?c1 ?k1 ?a2 ?l2 ?c2 ?k2 ?a3 ?l3 ?c3 ?k3 ?a4 ?l4 ?c4 ?k4 ?a5 ?l5 ?c5 ?k5 ?a6 ?l6 ?c6 ?k6 ?a7 ?l7 ?c7 ?k7 ?a8 ?l8 ?c8 ?k8 ?z_bool ?z_int ?z_isinstance ?z_len ?z_range ?z_tuple ?zT ?lT ?nT ?rT
    (case a0 => k_is)
    (case l0 => k_is)
    (case c0 => k_is)
    (case k0 => k_is)
    (case a1 => k_is)
    (case l1 => k_is)
    (case c1 => k_is)
    (case k1 => k_is)
    (case a2 => k_is)
    (case l2 => k_is)
    (case c2 => k_is)
    (case k2 => k_is)
    (case a3 => k_is)
    (case l3 => k_is)
    (case c3 => k_is)
    (case k3 => k_is)
    (case a4 => k_is)
    (case l4 => k_is)
    (case c4 => k_is)
    (case k4 => k_is)
    (case a5 => k_is)
    (case l5 => k_is)
    (case c5 => k_is)
    (case k5 => k_is)
    (case a6 => k_is)
    (case l6 => k_is)
    (case c6 => k_is)
    (case k6 => k_is)
    (case a7 => k_is)
    (case l7 => k_is)
    (case c7 => k_is)
    (case k7 => k_is)
    (case a8 => k_is)
    (case l8 => k_is)
    (case c8 => k_is)
    (case k8 => k_is)
    (case z_bool => k_is)
    (case z_int => k_is)
    (case z_isinstance => k_is)
    (case z_len => k_is)
    (case z_range => k_is)
    (case z_tuple => k_is)
    (case zT => k_is)
    (case lT => k_is)
    (case nT => rfl)
    (case rT => exact ⟨⟨_, rfl⟩, rfl, ⟨_, rfl⟩, ⟨_, rfl⟩, rfl, ⟨_, rfl⟩, ⟨_, rfl⟩, rfl, ⟨_, rfl⟩, ⟨_, rfl⟩, rfl, ⟨_, rfl⟩, ⟨_, rfl⟩, rfl, ⟨_, rfl⟩, ⟨_, rfl⟩, rfl, ⟨_, rfl⟩, trivial⟩)

